/- often, of a PatStar and a PatPlus. often, of a PatMaybe. either: a part of each Kid. -/
import Derived.Test.YtpllgfhocedgmaaRT02
import Derived.Laws.EntriesVeiled
import Derived.Deep.RegionHeldLaw
set_option maxRecDepth 100000
namespace Go.Proofs.Ytpllgfhocedgmaa
open Go.RowKit

def InsP (C : Ctx) (a : Nat) (s : Sta) (x : Pt) (t : Tl) (en : Ending) (w' : World) : Prop := ∃ u s', en = .returned (u.val C.c) ∧ s'.w = w' ∧ Inv C s' ∧ Step C a (x.size - 1) s s' ∧ InnOk C w' s'.G x t u ∧ s'.G.inn = s.G.inn ∧ s'.nx = s.nx
theorem tb_new (w : World) (v : Value) : TB (w.alloc (.cells #[v] 111)) w.heap.size v := heap_alloc_new w _
section
variable {C : Ctx} {s : Sta}
set_option maxHeartbeats 2000000 in
theorem often_more (h : Inv C s) (hmn : s.mn ≤ 1000000) {x y : Pt} {sA gA A : Option Addr} {sn sc gn gc m c : Nat} (hk : x.kind = 5 ∨ x.kind = 6) (hy : x.kids = [y]) (hx : PtIn s.w (fun b => b < C.base) sA sn sc gA gn gc A m c x) {t : Tl} (ht : Ex s.G t) (a : Nat) :
  Calls Try.prog 89 #[pb C.W, .agg #[.int .i64 x.kind, .slice sA sn sc, .slice gA gn gc, .slice A m c], t.val C.c] s.w (InsP C a s x t) := by
 have hmf : ∀ (fn : Fn) (first cap : Array Value) (w : World), (Instr.makeFunc fn first cap).run Try.prog w = .ok (.func fn first cap) w := fun _ _ _ _ => rfl
 obtain ⟨g, cap, hv⟩ := t.val_func C.c
 have hkids := hx.kids
 rw [hy] at hkids
 obtain rfl : 1 = m := hkids.len
 obtain ⟨kb, ko, z, zA, zn, zc, hA, hn, hc, yA, yn, yc, eA, hkb, hz, hin, z0, z1, z2, z3⟩ := hkids.got (i := 0) (by omega)
 have ez : y = z := Option.some.inj hz
 subst ez
 subst eA
 rw [Nat.zero_mul, Nat.add_zero] at z0 z1 z2 z3
 have hbl := h.base_le
 have hkl : kb < s.w.heap.size := by omega
 have B1 := kbelow_push s.w (.cells #[.int .i64 x.kind, .slice sA sn sc, .slice gA gn gc, .slice (some ⟨kb, ko, none⟩) 1 c] 26)
 have B2 := B1.alloc B1.size (.cells #[t.val C.c] 111)
 have B3 := B2.alloc B2.size (.cells #[.nilFunc] 111)
 have T1 : TB ((s.w.alloc (.cells #[.int .i64 x.kind, .slice sA sn sc, .slice gA gn gc, .slice (some ⟨kb, ko, none⟩) 1 c] 26)).alloc (.cells #[t.val C.c] 111)) (s.w.heap.size + 1) (t.val C.c) := by
  have := tb_new (s.w.alloc (.cells #[.int .i64 x.kind, .slice sA sn sc, .slice gA gn gc, .slice (some ⟨kb, ko, none⟩) 1 c] 26)) (t.val C.c)
  simpa using this
 have T2 := tb_new ((s.w.alloc (.cells #[.int .i64 x.kind, .slice sA sn sc, .slice gA gn gc, .slice (some ⟨kb, ko, none⟩) 1 c] 26)).alloc (.cells #[t.val C.c] 111)) .nilFunc
 have hs3 : (((s.w.alloc (.cells #[.int .i64 x.kind, .slice sA sn sc, .slice gA gn gc, .slice (some ⟨kb, ko, none⟩) 1 c] 26)).alloc (.cells #[t.val C.c] 111)).alloc (.cells #[.nilFunc] 111)).heap.size = s.w.heap.size + 3 := by simp
 have T1' : TB (((s.w.alloc (.cells #[.int .i64 x.kind, .slice sA sn sc, .slice gA gn gc, .slice (some ⟨kb, ko, none⟩) 1 c] 26)).alloc (.cells #[t.val C.c] 111)).alloc (.cells #[.nilFunc] 111)) (s.w.heap.size + 1) (t.val C.c) := ((kbelow_push _ _).block _ (by simp)).trans T1
 have hsz2 : ((s.w.alloc (.cells #[.int .i64 x.kind, .slice sA sn sc, .slice gA gn gc, .slice (some ⟨kb, ko, none⟩) 1 c] 26)).alloc (.cells #[t.val C.c] 111)).heap.size = s.w.heap.size + 2 := by simp
 rw [hsz2] at T2
 rw [hv] at B2 B3 T1 T1' T2 hs3 hsz2 ⊢
 have HV := Lib.hid hv
 have y0 := (B3.cell (p := ⟨kb, ko, none⟩) hkl).trans z0
 have y1 := (B3.cell (p := ⟨kb, ko + 1, none⟩) hkl).trans z1
 have y2 := (B3.cell (p := ⟨kb, ko + 2, none⟩) hkl).trans z2
 have y3 := (B3.cell (p := ⟨kb, ko + 3, none⟩) hkl).trans z3
 clear z0 z1 z2 z3
 unfold pb
 go_enter Try.func89, Try.ntmps89
 have c0 : (x.kind == 7) = false := by rcases hk with e | e <;> rw [e] <;> decide
 clear T1 hx hkids hsz2
 generalize hW3 : ((s.w.alloc (.cells #[.int .i64 x.kind, .slice sA sn sc, .slice gA gn gc, .slice (some ⟨kb, ko, none⟩) 1 c] 26)).alloc (.cells #[.func g #[] cap] 111)).alloc (.cells #[.nilFunc] 111) = w3 at B3 T1' T2 hs3
 have HW3 := Lib.hid hW3
 obtain ⟨h3, st3⟩ := h.on B3 a
 have HP := Lib.hid (part_any h3 (Nat.le_trans hmn (by decide)) y.kind zA hA yA zn zc hn hc yn yc (.func 107) #[pb (s.w.heap.size + 1), pb (s.w.heap.size + 2)])
 simp only at HP
 unfold pb at HP
 have HB3 := Lib.hid B3
 have HK : Hid (w3.cell? ⟨s.w.heap.size, 0, none⟩ = some (.int .i64 x.kind)) := by
  rw [← hW3]
  have h0 := heap_alloc_new s.w (.cells #[.int .i64 x.kind, .slice sA sn sc, .slice gA gn gc, .slice (some ⟨kb, ko, none⟩) 1 c] 26)
  refine (World.cell?_of_block (((kbelow_push _ _).block _ (by simp; omega)).trans ((kbelow_push _ _).block _ (by simp)))).trans ?_
  rw [cell_of_row _ _ _ _ _ _ h0]; rfl
 have HT := Lib.hid (And.intro T1' T2)
 have HS3 := Lib.hid hs3
 have HIN := Lib.hid hin
 have H := Lib.hid h
 clear hW3 B1 B2 B3 T1' T2 hs3 h3 st3 hin h hv hbl
 go_wp2_with fail
 rw [HW3.out]
 refine HP.out.mono ?_
 rintro en w' ⟨rfl, hm⟩
 have hs3 := HS3.out
 have hgg := H.out.g
 have hW := (hgg.rlt _ hgg.rm.1).1
 have k2 : TB w' (s.w.heap.size + 1 + 1) .nilFunc := (hm.old _ (by omega) (by omega)).trans HT.out.2
 have k2c := k2.cell
 have k2f := k2.fr
 have k0 : w'.cell? ⟨s.w.heap.size, 0, none⟩ = some (.int .i64 x.kind) := (cell_eq (hm.old _ (by omega) (by omega))).trans HK.out
 have HM := Lib.hid hm
 have HW := Lib.hid hW
 clear hm hs3 hgg hW k2 y0 y1 y2 y3 c0 hkl
 have HPX : Hid (PatV C w3 #[.int .i64 y.kind, .slice zA zn zc, .slice hA hn hc, .slice yA yn yc] y) := ⟨_, _, _, _, _, _, _, _, _, rfl, HIN.out.keep (fun _ h => h) (fun p hp => HB3.out.cell (p := p) (Nat.lt_of_lt_of_le hp H.out.base_le))⟩
 have HF : Hid (Inv C ⟨w'.setCell ⟨s.w.heap.size + 2, 0, none⟩ ((Tl.kid s.w.heap.size y t).val C.c), s.G.addm s.w.heap.size y t, s.nv, s.pv, s.nx, s.pl, s.mn + 1⟩ ∧ Step C a y.size s ⟨w'.setCell ⟨s.w.heap.size + 2, 0, none⟩ ((Tl.kid s.w.heap.size y t).val C.c), s.G.addm s.w.heap.size y t, s.nv, s.pv, s.nx, s.pl, s.mn + 1⟩) := by
  have hm := HM.out
  have hT := HT.out
  rw [← HV.out] at hT
  rw [HS3.out] at hm
  exact H.out.addm rfl HS3.out HB3.out hT.1 hT.2 hm HPX.out ht a
 have HX : Hid (y.size ≤ x.size - 1) := by
  have h1 := x.size_kids
  rw [hy] at h1
  show y.size ≤ x.size - 1
  simp [ptsSize] at h1
  omega
 have HE : Hid (onceV (w3.heap.size + 4) (w3.heap.size + 5) = (Tl.kid s.w.heap.size y t).val C.c) := by
  show onceV _ _ = _
  rw [HS3.out]; rfl
 rw [HE.out]
 have hkv : (Tl.kid s.w.heap.size y t).val C.c = onceV (s.w.heap.size + 3 + 4) (s.w.heap.size + 3 + 5) := rfl
 generalize h12 : s.w.heap.size + 1 + 1 = E2 at *
 have HE2 : Hid (E2 = s.w.heap.size + 2) := h12.symm
 clear h12
 have n1 : ¬ E2 = s.w.heap.size := by have := HE2.out; omega
 have n2 : ¬ s.w.heap.size = E2 := by have := HE2.out; omega
 rcases hk with e | e
 ·have c6 : (x.kind == 6) = false := by rw [e]; decide
  have HEK := Lib.hid e
  have HY := Lib.hid hy
  clear e hy HP HK HT HIN HB3 HM HW3
  rw [hkv] at HF ⊢
  unfold onceV pb at HF ⊢
  go_wp2_with fail
  go_ret
  have e2 := HE2.out
  subst e2
  obtain ⟨f1, f2⟩ := HF.out
  have hx := HX.out
  exact ⟨.tl (.more s.w.heap.size y t), _, rfl, rfl, f1, ⟨f2.ps, f2.inn, f2.rr, f2.fr, f2.told, f2.new, f2.nx, f2.nq, f2.pl, f2.tp, by have := f2.bud; omega, by have := f2.mu; omega, f2.keep, f2.nvb, f2.pvb, f2.bel, f2.uu, f2.uk, f2.lv, f2.lt⟩, .star _ y HEK.out HY.out (.inr (by simp [Gh.addm])), rfl, rfl⟩
 ·have c6 : (x.kind == 6) = true := by rw [e]; decide
  have HEK := Lib.hid e
  have HY := Lib.hid hy
  clear e hy HP HK HT HIN HB3 HM HW3
  rw [hkv] at HF ⊢
  unfold onceV pb at HF ⊢
  go_wp2_with fail
  go_ret
  have e2 := HE2.out
  subst e2
  obtain ⟨f1, f2⟩ := HF.out
  have hx := HX.out
  exact ⟨.tl (.kid s.w.heap.size y t), _, rfl, rfl, f1, ⟨f2.ps, f2.inn, f2.rr, f2.fr, f2.told, f2.new, f2.nx, f2.nq, f2.pl, f2.tp, by have := f2.bud; omega, by have := f2.mu; omega, f2.keep, f2.nvb, f2.pvb, f2.bel, f2.uu, f2.uk, f2.lv, f2.lt⟩, .plus _ y HEK.out HY.out (.inr (by simp [Gh.addm])), rfl, rfl⟩
end
end Go.Proofs.Ytpllgfhocedgmaa
namespace Go.Proofs.Ytpllgfhocedgmaa
open Go.RowKit

section
variable {C : Ctx} {s s1 : Sta}
theorem may_ok {a k n eb kb : Nat} {x y : Pt} {t : Tl} (h : Inv C s) (hst : Step C a k s s1) (h1 : Inv C s1) (hk7 : x.kind = 7) (hy : x.kids = [y]) (hkx : k ≤ x.size - 1) (hG : s1.G = s.G.addp n y t) (hn : s.w.heap.size + 2 ≤ n) (he : s.w.heap.size ≤ eb ∧ eb < n) (hk : s.w.heap.size ≤ kb ∧ (kb < n ∨ n + 6 ≤ kb)) (h2 : TB s1.w eb (t.val C.c)) (h3 : TB s1.w kb ((Tl.part n y t).val C.c))
  (hnv : s1.nv = s.nv) (hpv : s1.pv = s.pv) (hnx : s1.nx = s.nx) : InsP C a s x t (.returned ((Inn.may eb kb (.part n y t)).val C.c)) s1.w := by
 have gg := h.g
 have hlt : ∀ {b v}, TB s1.w b v → b < s1.w.heap.size := fun h => (Array.getElem?_eq_some_iff.1 h).1
 have hR : ∀ b, s.w.heap.size ≤ b → (b < n ∨ n + 6 ≤ b) → ¬ s1.G.R b := fun b hb hn hr => by
  rw [hG] at hr
  rcases hr with h1 | h1
  ·have := (gg.rlt b h1).1; omega
  ·omega
 have hrow : ∀ b, s.w.heap.size ≤ b → s1.nv.ownBlock ≠ some b ∧ s1.pv.ownBlock ≠ some b := fun b hb => ⟨fun e => by rw [hnv] at e; have := (World.ownsRow.lt h.st.nr b e).2; omega, fun e => by rw [hpv] at e; have := (World.ownsRow.lt h.st.pr b e).2; omega⟩
 obtain ⟨f1, f2⟩ := Inv.late (V := fun b => b = eb ∨ b = kb) hst h h1 (fun b hb => by
  rcases hb with e | e
  ·subst e; exact ⟨he.1, hlt h2, hR _ he.1 (.inl he.2)⟩
  ·subst e; exact ⟨hk.1, hlt h3, hR _ hk.1 hk.2⟩) (fun b e hb => by
  rcases hb with e2 | e2
  ·subst e2; exact (hrow _ he.1).1 e
  ·subst e2; exact (hrow _ hk.1).1 e) (fun b e hb => by
  rcases hb with e2 | e2
  ·subst e2; exact (hrow _ he.1).2 e
  ·subst e2; exact (hrow _ hk.1).2 e)
 refine ⟨.may eb kb (.part n y t), { s1 with G := s1.G.late (fun b => b = eb ∨ b = kb) }, rfl, rfl, f1, ⟨f2.ps, f2.inn, f2.rr, f2.fr, f2.told, f2.new, f2.nx, f2.nq, f2.pl, f2.tp, by have := f2.bud; omega, by have := f2.mu; omega, f2.keep, f2.nvb, f2.pvb, f2.bel, f2.uu, f2.uk, f2.lv, f2.lt⟩, .may eb kb _ y hk7 hy ⟨.inr (.inl rfl), .inr (.inr rfl)⟩ h2.cell h3.cell (.inr ?_) rfl, ?_, hnx⟩
 ·show _ ∈ s1.G.ps
  rw [hG]
  exact List.mem_cons_self
 ·show s1.G.inn = s.G.inn
  rw [hG]; rfl
theorem may_a {a e : Nat} {x y : Pt} {t : Tl} {w3 w' : World} {pc : Array Value} {v2 : Value} (h : Inv C s) (he : s.w.heap.size = e) (hk7 : x.kind = 7) (hy : x.kids = [y]) (ht : Ex s.G t) (hs3 : w3.heap.size = e + 3) (hb3 : Below e s.w w3) (h1 : TB w3 (e + 1) (t.val C.c)) (h2 : TB w3 (e + 2) v2) (hm : PartMem C w3 w' (e + 3) pc (t.val C.c) s.nv s.mn) (hx : PatV C w3 pc y) :
  InsP C a s x t (.returned ((Inn.may (e + 1) (e + 2) (.part (e + 3) y t)).val C.c)) (w'.setCell ⟨e + 2, 0, none⟩ ((Tl.part (e + 3) y t).val C.c)) := by
 subst he
 have gg := h.g
 have hord := gg.ord
 have hWl := (gg.rlt _ gg.rm.1).1
 obtain ⟨i3, st3⟩ := h.on hb3 a
 obtain ⟨i4, st4⟩ := i3.addp hm hx ht a
 have st := st3.trans st4 i3.g
 have hr : ¬ (s.G.addp (s.w.heap.size + 3) y t).R (s.w.heap.size + 2) := fun hr => by
  rcases hr with h1 | h1
  ·have := (gg.rlt _ h1).1; omega
  ·omega
 have hrow : s.nv.ownBlock ≠ some (s.w.heap.size + 2) ∧ s.pv.ownBlock ≠ some (s.w.heap.size + 2) := ⟨fun e => by have := (World.ownsRow.lt h.st.nr _ e).2; omega, fun e => by have := (World.ownsRow.lt h.st.pr _ e).2; omega⟩
 obtain ⟨i5, st5⟩ := Inv.free st h i4 (b := s.w.heap.size + 2) (by omega) hr hrow.1 hrow.2 0 ((Tl.part (s.w.heap.size + 3) y t).val C.c)
 have hxs : 0 + y.size ≤ x.size - 1 := by
  have h1 := x.size_kids
  rw [hy] at h1
  simp [ptsSize] at h1
  omega
 have hsz := hm.size
 have T1 : TB w' (s.w.heap.size + 1) (t.val C.c) := (hm.old _ (by omega) (by omega)).trans h1
 have T2 : TB w' (s.w.heap.size + 2) v2 := (hm.old _ (by omega) (by omega)).trans h2
 exact may_ok h st5 i5 hk7 hy hxs rfl (by omega) ⟨by omega, by omega⟩ ⟨by omega, .inl (by omega)⟩ ((Below.heap_setCell _ _ _ _ (by show s.w.heap.size + 1 ≠ s.w.heap.size + 2; omega)).trans T1) (T2.set _) rfl rfl rfl
theorem may_b {a e : Nat} {x y : Pt} {t : Tl} {w2 w' : World} {pc : Array Value} (h : Inv C s) (he : s.w.heap.size = e) (hk7 : x.kind = 7) (hy : x.kids = [y]) (ht : Ex s.G t) (hs2 : w2.heap.size = e + 2) (hb2 : Below e s.w w2) (h1 : TB w2 (e + 1) (t.val C.c)) (hm : PartMem C w2 w' (e + 2) pc (t.val C.c) s.nv s.mn) (hx : PatV C w2 pc y) :
  InsP C a s x t (.returned ((Inn.may (e + 1) w'.heap.size (.part (e + 2) y t)).val C.c)) (w'.alloc (.cells #[(Tl.part (e + 2) y t).val C.c] 111)) := by
 subst he
 have gg := h.g
 have hord := gg.ord
 have hWl := (gg.rlt _ gg.rm.1).1
 obtain ⟨i3, st3⟩ := h.on hb2 a
 obtain ⟨i4, st4⟩ := i3.addp hm hx ht a
 have st := st3.trans st4 i3.g
 obtain ⟨i5, st5⟩ := i4.on (kbelow_push w' (.cells #[(Tl.part (s.w.heap.size + 2) y t).val C.c] 111)) a
 have stt := st.trans st5 i4.g
 have hxs : 0 + y.size + 0 ≤ x.size - 1 := by
  have h1 := x.size_kids
  rw [hy] at h1
  simp [ptsSize] at h1
  omega
 have hsz := hm.size
 have T1 : TB w' (s.w.heap.size + 1) (t.val C.c) := (hm.old _ (by omega) (by omega)).trans h1
 exact may_ok h stt i5 hk7 hy hxs rfl (by omega) ⟨by omega, by omega⟩ ⟨by omega, .inr (by omega)⟩ (((kbelow_push _ _).block _ (by omega)).trans T1) (tb_new _ _) rfl rfl rfl
set_option maxHeartbeats 2000000 in
theorem often_may (h : Inv C s) (hmn : s.mn ≤ 1000000) {x y : Pt} {sA gA A : Option Addr} {sn sc gn gc m c : Nat} (hk : x.kind = 7) (hy : x.kids = [y]) (hx : PtIn s.w (fun b => b < C.base) sA sn sc gA gn gc A m c x) {t : Tl} (ht : Ex s.G t) (a : Nat) :
  Calls Try.prog 89 #[pb C.W, .agg #[.int .i64 x.kind, .slice sA sn sc, .slice gA gn gc, .slice A m c], t.val C.c] s.w (InsP C a s x t) := by
 have hmf : ∀ (fn : Fn) (first cap : Array Value) (w : World), (Instr.makeFunc fn first cap).run Try.prog w = .ok (.func fn first cap) w := fun _ _ _ _ => rfl
 obtain ⟨g, cap, hv⟩ := t.val_func C.c
 have hkids := hx.kids
 rw [hy] at hkids
 obtain rfl : 1 = m := hkids.len
 obtain ⟨kb, ko, z, zA, zn, zc, hA, hn, hc, yA, yn, yc, eA, hkb, hz, hin, z0, z1, z2, z3⟩ := hkids.got (i := 0) (by omega)
 have ez : y = z := Option.some.inj hz
 subst ez
 subst eA
 rw [Nat.zero_mul, Nat.add_zero] at z0 z1 z2 z3
 have hbl := h.base_le
 have hkl : kb < s.w.heap.size := by omega
 have B1 := kbelow_push s.w (.cells #[.int .i64 x.kind, .slice sA sn sc, .slice gA gn gc, .slice (some ⟨kb, ko, none⟩) 1 c] 26)
 have B2 := B1.alloc B1.size (.cells #[t.val C.c] 111)
 have T1 : TB ((s.w.alloc (.cells #[.int .i64 x.kind, .slice sA sn sc, .slice gA gn gc, .slice (some ⟨kb, ko, none⟩) 1 c] 26)).alloc (.cells #[t.val C.c] 111)) (s.w.heap.size + 1) (t.val C.c) := by
  have := tb_new (s.w.alloc (.cells #[.int .i64 x.kind, .slice sA sn sc, .slice gA gn gc, .slice (some ⟨kb, ko, none⟩) 1 c] 26)) (t.val C.c)
  simpa using this
 have hs2 : ((s.w.alloc (.cells #[.int .i64 x.kind, .slice sA sn sc, .slice gA gn gc, .slice (some ⟨kb, ko, none⟩) 1 c] 26)).alloc (.cells #[t.val C.c] 111)).heap.size = s.w.heap.size + 2 := by simp
 have k3 : ((s.w.alloc (.cells #[.int .i64 x.kind, .slice sA sn sc, .slice gA gn gc, .slice (some ⟨kb, ko, none⟩) 1 c] 26)).alloc (.cells #[t.val C.c] 111)).heap[s.w.heap.size]? = some (.cells #[.int .i64 x.kind, .slice sA sn sc, .slice gA gn gc, .slice (some ⟨kb, ko, none⟩) 1 c] 26 (0, 0)) := ((kbelow_push _ _).block _ (by simp)).trans (heap_alloc_new _ _)
 rw [hv] at B2 T1 hs2 k3 ⊢
 have HV := Lib.hid hv
 have HT1 := Lib.hid T1
 have HS2 := Lib.hid hs2
 have HK3 := Lib.hid k3
 have HB2 := Lib.hid B2
 have HIN := Lib.hid hin
 have H := Lib.hid h
 have y0 := (B2.cell (p := ⟨kb, ko, none⟩) hkl).trans z0
 have y1 := (B2.cell (p := ⟨kb, ko + 1, none⟩) hkl).trans z1
 have y2 := (B2.cell (p := ⟨kb, ko + 2, none⟩) hkl).trans z2
 have y3 := (B2.cell (p := ⟨kb, ko + 3, none⟩) hkl).trans z3
 have HKL := Lib.hid hkl
 clear z0 z1 z2 z3 hx hkids B1 B2 T1 hs2 k3 hin h hv hbl hkl
 unfold pb
 go_enter Try.func89, Try.ntmps89
 have c7 : (x.kind == 7) = true := by rw [hk]; rfl
 have HK7 := Lib.hid hk
 have HY := Lib.hid hy
 clear hk hy
 go_upto_region 2 with fail
 generalize hW2 : (s.w.alloc (.cells #[.int .i64 x.kind, .slice sA sn sc, .slice gA gn gc, .slice (some ⟨kb, ko, none⟩) 1 c] 26)).alloc (.cells #[.func g #[] cap] 111) = w2 at *
 clear hW2
 have hs2 := HS2.out
 have c3 : w2.cell? ⟨s.w.heap.size, 3, none⟩ = some (.slice (some ⟨kb, ko, none⟩) 1 c) := (hcells4 HK3.out).2.2.2
 have c5 : w2.cell? ⟨s.w.heap.size + 1, 0, none⟩ = some (.func g #[] cap) := HT1.out.cell
 have hkb2 : kb < w2.heap.size := by have := HKL.out; omega
 have HS : Hid (∀ w' : World, (∀ b, b < w2.heap.size → b ≠ C.W → w'.heap[b]? = w2.heap[b]?) → w'.cell? ⟨s.w.heap.size, 3, none⟩ = some (.slice (some ⟨kb, ko, none⟩) 1 c) ∧ w'.cell? ⟨s.w.heap.size + 1, 0, none⟩ = some (.func g #[] cap) ∧ w'.cell? ⟨kb, ko, none⟩ = some (.int .i64 y.kind) ∧ w'.cell? ⟨kb, ko + 1, none⟩ = some (.slice zA zn zc) ∧ w'.cell? ⟨kb, ko + 2, none⟩ = some (.slice hA hn hc) ∧ w'.cell? ⟨kb, ko + 3, none⟩ = some (.slice yA yn yc)) := by
  intro w' hb
  have hgg := H.out.g
  have hW := (hgg.rlt _ hgg.rm.1).1
  have hord := hgg.ord
  exact ⟨(cell_eq (hb _ (by omega) (by omega))).trans c3, (cell_eq (hb _ (by omega) (by omega))).trans c5, (cell_eq (hb _ hkb2 (by omega))).trans y0, (cell_eq (hb _ hkb2 (by omega))).trans y1, (cell_eq (hb _ hkb2 (by omega))).trans y2, (cell_eq (hb _ hkb2 (by omega))).trans y3⟩
 have D1 : Below w2.heap.size w2 w2.drew := (Below.refl _ _).drew
 have D2 : Below w2.heap.size w2 (w2.alloc (.cells #[.nilFunc] 111)).drew := (kbelow_push w2 _).drew
 have HS1 := Lib.hid (HS.out _ fun b hb _ => D1.block b hb)
 have HS2a := Lib.hid (HS.out _ fun b hb _ => D2.block b hb)
 have E1 : Below s.w.heap.size s.w w2.drew := HB2.out.trans (D1.mono (by omega))
 have E2 : Below s.w.heap.size s.w (w2.alloc (.cells #[.nilFunc] 111)).drew := HB2.out.trans (D2.mono (by omega))
 have HPX : ∀ w', Below s.w.heap.size s.w w' → PatV C w' #[.int .i64 y.kind, .slice zA zn zc, .slice hA hn hc, .slice yA yn yc] y := fun w' hb => ⟨_, _, _, _, _, _, _, _, _, rfl, HIN.out.keep (fun _ h => h) (fun p hp => hb.cell (p := p) (Nat.lt_of_lt_of_le hp H.out.base_le))⟩
 have HP1 := Lib.hid (part_any (H.out.on E1 a).1 (Nat.le_trans hmn (by decide)) y.kind zA hA yA zn zc hn hc yn yc g cap)
 have HP2 := Lib.hid (part_any (H.out.on E2 a).1 (Nat.le_trans hmn (by decide)) y.kind zA hA yA zn zc hn hc yn yc g cap)
 simp only at HP1 HP2
 unfold onceV pb at HP1 HP2
 have HT2 : TB (w2.alloc (.cells #[.nilFunc] 111)).drew (s.w.heap.size + 2) .nilFunc := by
  have := tb_new w2 .nilFunc
  rw [hs2] at this
  exact this
 have HF1 : Hid (∀ w' : World, PartMem C w2.drew w' w2.drew.heap.size #[.int .i64 y.kind, .slice zA zn zc, .slice hA hn hc, .slice yA yn yc] (.func g #[] cap) s.nv s.mn → InsP C a s x t (.returned ((Inn.may (s.w.heap.size + 1) w'.heap.size (.part w2.drew.heap.size y t)).val C.c)) (w'.alloc (.cells #[(Tl.part w2.drew.heap.size y t).val C.c] 111))) := by
  intro w' hm
  have hsz : w2.drew.heap.size = s.w.heap.size + 2 := hs2
  rw [hsz, ← HV.out] at hm
  rw [hsz]
  exact may_b H.out rfl HK7.out HY.out ht hsz E1 (by have := HT1.out; rw [← HV.out] at this; exact this) hm (HPX _ E1)
 have HF2 : Hid (∀ w' : World, PartMem C (w2.alloc (.cells #[.nilFunc] 111)).drew w' (w2.alloc (.cells #[.nilFunc] 111)).drew.heap.size #[.int .i64 y.kind, .slice zA zn zc, .slice hA hn hc, .slice yA yn yc] (.func g #[] cap) s.nv s.mn → InsP C a s x t (.returned ((Inn.may (s.w.heap.size + 1) w2.heap.size (.part (w2.heap.size + 1) y t)).val C.c)) (w'.setCell ⟨w2.heap.size, 0, none⟩ ((Tl.part (w2.heap.size + 1) y t).val C.c))) := by
  intro w' hm
  have hsz : (w2.alloc (.cells #[.nilFunc] 111)).drew.heap.size = s.w.heap.size + 3 := by simp [hs2]
  rw [hsz, ← HV.out] at hm
  rw [hs2]
  exact may_a H.out rfl HK7.out HY.out ht hsz E2 (by have h1 : TB (w2.alloc (.cells #[.nilFunc] 111)).drew (s.w.heap.size + 1) (.func g #[] cap) := (D2.block _ (by omega)).trans HT1.out; rw [← HV.out] at h1; exact h1) HT2 hm (HPX _ E2)
 have HZ2 : Hid (w2.heap.size < (w2.alloc (.cells #[.nilFunc] 111)).drew.heap.size ∧ w2.heap.size ≠ C.W ∧ TB (w2.alloc (.cells #[.nilFunc] 111)).drew w2.heap.size .nilFunc) := by
  have hgg := H.out.g
  have hW := (hgg.rlt _ hgg.rm.1).1
  exact ⟨by simp, by omega, tb_new w2 .nilFunc⟩
 have HD2 := Lib.hid D2
 have HD1 := Lib.hid D1
 have HT2' := Lib.hid HT2
 clear hs2 c3 c5 hkb2 D1 D2 E1 E2 HPX HT2 y0 y1 y2 y3 hmn ht hkb
 go_region_held_law (fun w' => w'.cell? ⟨s.w.heap.size, 3, none⟩ = some (.slice (some ⟨kb, ko, none⟩) 1 c) ∧ w'.cell? ⟨s.w.heap.size + 1, 0, none⟩ = some (.func g #[] cap) ∧ w'.cell? ⟨kb, ko, none⟩ = some (.int .i64 y.kind) ∧ w'.cell? ⟨kb, ko + 1, none⟩ = some (.slice zA zn zc) ∧ w'.cell? ⟨kb, ko + 2, none⟩ = some (.slice hA hn hc) ∧ w'.cell? ⟨kb, ko + 3, none⟩ = some (.slice yA yn yc)) (first | with_reducible exact HS2a.out | with_reducible exact HSw1.out | with_reducible exact HSw1a.out | with_reducible exact HSw2.out | exact HS.out _ (fun b hb hn => ((kbelow_push w4 _).block b (HO1.out b hb hn).1).trans (HO1.out b hb hn).2) | exact HS.out _ (fun b hb hn => (Below.heap_setCell _ _ _ _ (Nat.ne_of_lt hb)).trans (HO2.out b hb hn)) | with_reducible exact HS1.out) (first
  | (go_at_call 60; (with_reducible refine HP1.out.mono ?_); rintro en w4 ⟨rfl, hm⟩; have HSw1 := Lib.hid (HS.out _ fun b hb hn => (hm.old b hb hn).trans (HD1.out.block b hb)); have HSw1a := Lib.hid (HS.out (w4.alloc (.cells #[.nilFunc] 111)) fun b hb hn => ((kbelow_push w4 _).block b (by have h1 := hm.size; have h2 : w2.drew.heap.size = w2.heap.size := rfl; omega)).trans ((hm.old b hb hn).trans (HD1.out.block b hb))); have HO1 : Hid (∀ b, b < w2.heap.size → b ≠ C.W → b < w4.heap.size ∧ w4.heap[b]? = w2.heap[b]?) := (fun b hb hn => ⟨by have h1 := hm.size; have h2 : w2.drew.heap.size = w2.heap.size := rfl; omega, (hm.old b hb hn).trans (HD1.out.block b hb)⟩); have HFIN := Lib.hid (HF1.out _ hm); clear hm)
  | (go_at_call 60; (with_reducible refine HP2.out.mono ?_); rintro en w4 ⟨rfl, hm⟩; have HSw2 := Lib.hid (HS.out _ fun b hb hn => (hm.old b (Nat.lt_of_lt_of_le hb HD2.out.size) hn).trans (HD2.out.block b hb)); have HO2 : Hid (∀ b, b < w2.heap.size → b ≠ C.W → w4.heap[b]? = w2.heap[b]?) := (fun b hb hn => (hm.old b (Nat.lt_of_lt_of_le hb HD2.out.size) hn).trans (HD2.out.block b hb)); have HFIN := Lib.hid (HF2.out _ hm); have hT4 : TB w4 w2.heap.size .nilFunc := (hm.old _ HZ2.out.1 HZ2.out.2.1).trans HZ2.out.2.2; have kc := hT4.cell; have kf := hT4.fr; clear hm hT4))
 all_goals (go_wp2_with fail; go_ret; exact HFIN.out)
end
end Go.Proofs.Ytpllgfhocedgmaa
namespace Go.Proofs.Ytpllgfhocedgmaa
open Go.RowKit

theorem info_tell : (Try.prog.info? 111).map (fun i => (i.zero, i.size, i.bytes)) = some (some .nilFunc, 1, 8) := by kernel_rfl
structure EiSt (C : Ctx) (s : Sta) (a m pr n : Nat) (t : Tl) (kids : List Pt) (k : Nat) (ts : List Tl) (sk : Sta) : Prop where
 inv : Inv C sk
 st : Step C a (ptsSize (kids.take k)) s sk
 len : ts.length = k
 stk : ts.map Tl.stk = (kids.take k).map (fun y => y :: t.stk)
 ex : ∀ u ∈ ts, Ex sk.G u
 inn : sk.G.inn = s.G.inn
 box : sk.w.heap[m]? = some (.cells #[.slice (some ⟨pr, 0, none⟩) n n] 64 (0, 0))
 row : ∃ cur, sk.w.heap[pr]? = some (.cells cur 111 (0, 0)) ∧ cur.size = n ∧ ∀ (i : Nat) (u : Tl), ts[i]? = some u → cur[i]? = some (u.val C.c)
 lo : s.w.heap.size ≤ m ∧ s.w.heap.size ≤ pr ∧ m ≠ pr
 nr : ¬ sk.G.R m ∧ ¬ sk.G.R pr
 nv : sk.nv = s.nv
 pv : sk.pv = s.pv
 nx : sk.nx = s.nx
section
variable {C : Ctx} {s : Sta}
theorem EiSt.row_free {a m pr n k : Nat} {t : Tl} {kids : List Pt} {ts : List Tl} {sk : Sta} (h : Inv C s) (e : EiSt C s a m pr n t kids k ts sk) : ∀ b, s.w.heap.size ≤ b → sk.nv.ownBlock ≠ some b ∧ sk.pv.ownBlock ≠ some b := fun b hb => ⟨fun e2 => by rw [e.nv] at e2; have := (World.ownsRow.lt h.st.nr b e2).2; omega, fun e2 => by rw [e.pv] at e2; have := (World.ownsRow.lt h.st.pr b e2).2; omega⟩
theorem EiSt.next {a m pr n k q : Nat} {t : Tl} {kids : List Pt} {ts : List Tl} {sk : Sta} {y : Pt} {w3 w' : World} {pc : Array Value} (h : Inv C s) (ht : Ex s.G t) (e : EiSt C s a m pr n t kids k ts sk) (hk : k < n) (hy : kids[k]? = some y) (hb3 : Below sk.w.heap.size sk.w w3) (hq : w3.heap.size = q) (hm : PartMem C w3 w' q pc (t.val C.c) sk.nv sk.mn) (hx : PatV C w3 pc y) :
  EiSt C s a m pr n t kids (k + 1) (ts ++ [.part q y t]) ⟨w'.setCell ⟨pr, k, none⟩ ((Tl.part q y t).val C.c), sk.G.addp q y t, sk.nv, sk.pv, sk.nx, sk.pl, sk.mn + 1⟩ := by
 obtain ⟨i3, st3⟩ := e.inv.on hb3 a
 obtain ⟨i4, st4⟩ := i3.addp hm hx (e.st.ex ht) a
 have st := (e.st.trans st3 e.inv.g).trans st4 i3.g
 obtain ⟨cur, hcur, hcs, hcg⟩ := e.row
 have hmlt : m < sk.w.heap.size := (Array.getElem?_eq_some_iff.1 e.box).1
 have hplt : pr < sk.w.heap.size := (Array.getElem?_eq_some_iff.1 hcur).1
 have hgg := e.inv.g
 have hW3 := hb3.size
 have hWne : ∀ b, ¬ sk.G.R b → b ≠ C.W := fun b hb e2 => hb (e2 ▸ hgg.rm.1)
 have hnr : ∀ b, b < sk.w.heap.size → ¬ sk.G.R b → ¬ (sk.G.addp q y t).R b := fun b hb hn hr => by
  rcases hr with h1 | h1
  ·exact hn h1
  ·omega
 have hrow := e.row_free h
 obtain ⟨i5, st5⟩ := Inv.free st h i4 (b := pr) e.lo.2.1 (hnr _ hplt e.nr.2) (hrow _ e.lo.2.1).1 (hrow _ e.lo.2.1).2 k ((Tl.part q y t).val C.c)
 have hold : ∀ b, b < sk.w.heap.size → b ≠ C.W → w'.heap[b]? = sk.w.heap[b]? := fun b hb hn => (hm.old b (by omega) hn).trans (hb3.block b hb)
 have hcur' := (hold pr hplt (hWne _ e.nr.2)).trans hcur
 have hsz : ptsSize (kids.take k) + 0 + y.size = ptsSize (kids.take (k + 1)) := by rw [ptsSize_take hy]; omega
 refine ⟨i5, hsz ▸ st5, by simp [e.len], ?_, fun u hu => ?_, e.inn, (Below.heap_setCell _ _ _ _ (by show m ≠ pr; exact e.lo.2.2)).trans ((hold m hmlt (hWne _ e.nr.1)).trans e.box), ⟨cur.setIfInBounds k ((Tl.part q y t).val C.c), heap_setCell_same _ pr k _ _ _ hcur', by simpa using hcs, fun i u hu => ?_⟩, e.lo, ⟨hnr _ hmlt e.nr.1, hnr _ hplt e.nr.2⟩, e.nv, e.pv, e.nx⟩
 ·rw [List.map_append, e.stk, List.take_add_one, hy, List.map_append]
  rfl
 ·rcases List.mem_append.1 hu with h1 | h1
  ·exact (e.ex u h1).imp id fun h2 => List.mem_cons_of_mem _ h2
  ·rw [List.mem_singleton.1 h1]; exact .inr List.mem_cons_self
 ·by_cases hi : i = k
  ·subst hi
   rw [List.getElem?_append_right (by rw [e.len]; exact Nat.le_refl _), e.len, Nat.sub_self] at hu
   simp at hu
   subst hu
   simp [hcs, hk]
  ·have hil : i < ts.length := by
    have := (List.getElem?_eq_some_iff.1 hu).1
    simp [e.len] at this
    rw [e.len]; omega
   rw [List.getElem?_append_left hil] at hu
   have := hcg i u hu
   rw [Array.getElem?_setIfInBounds_ne (fun e2 => hi e2.symm)]
   exact this
theorem EiSt.fin {a m pr n : Nat} {t : Tl} {kids : List Pt} {ts : List Tl} {sk : Sta} {x : Pt} (h : Inv C s) (e : EiSt C s a m pr n t kids n ts sk) (hk : x.kind = 4) (hx : x.kids = kids) (hn : kids.length = n) (hm : n ≤ maxLen) : InsP C a s x t (.returned ((Inn.or m ts).val C.c)) sk.w := by
 obtain ⟨cur, hcur, hcs, hcg⟩ := e.row
 have hmlt : m < sk.w.heap.size := (Array.getElem?_eq_some_iff.1 e.box).1
 have hplt : pr < sk.w.heap.size := (Array.getElem?_eq_some_iff.1 hcur).1
 have hrow := e.row_free h
 obtain ⟨f1, f2⟩ := Inv.late (V := fun b => b = m ∨ b = pr) e.st h e.inv (fun b hb => by
  rcases hb with e2 | e2
  ·subst e2; exact ⟨e.lo.1, hmlt, e.nr.1⟩
  ·subst e2; exact ⟨e.lo.2.1, hplt, e.nr.2⟩) (fun b e1 hb => by
  rcases hb with e2 | e2
  ·subst e2; exact (hrow _ e.lo.1).1 e1
  ·subst e2; exact (hrow _ e.lo.2.1).1 e1) (fun b e1 hb => by
  rcases hb with e2 | e2
  ·subst e2; exact (hrow _ e.lo.1).2 e1
  ·subst e2; exact (hrow _ e.lo.2.1).2 e1)
 have hsz : ptsSize (kids.take n) = x.size - 1 := by
  have := x.size_kids
  rw [hx] at this
  rw [List.take_of_length_le (by omega)]
  omega
 rw [hsz] at f2
 refine ⟨.or m ts, { sk with G := sk.G.late (fun b => b = m ∨ b = pr) }, rfl, rfl, f1, f2, .or m ts (some ⟨pr, 0, none⟩) n n hk (.inr (.inl rfl)) (by rw [cell_of_row _ _ _ _ _ _ e.box]; rfl) e.len (Nat.le_refl _) hm (fun _ => ⟨pr, rfl, .inr (.inr rfl), fun i u hu => by rw [cell_of_row _ _ _ _ _ _ hcur]; exact hcg i u hu⟩) e.ex ?_, e.inn, e.nx⟩
 have := e.stk
 rw [List.take_of_length_le (by omega)] at this
 rw [hx]
 exact this
set_option maxHeartbeats 2000000 in
theorem either_any (h : Inv C s) {x : Pt} {A : Option Addr} {n c : Nat} (hk : x.kind = 4) (hx : RdP s.w (fun b => b < C.base) A n c x.kids) (hbud : s.mn + unb s.G.inn s.G.ps + x.size ≤ 1000000) {t : Tl} (ht : Ex s.G t) (a : Nat) :
  Calls Try.prog 88 #[pb C.W, .slice A n c, t.val C.c] s.w (InsP C a s x t) := by
 have hmf : ∀ (fn : Fn) (first cap : Array Value) (w : World), (Instr.makeFunc fn first cap).run Try.prog w = .ok (.func fn first cap) w := fun _ _ _ _ => rfl
 obtain ⟨g, cap, hv⟩ := t.val_func C.c
 obtain ⟨i0, hi0, hz0, hz1, hz2⟩ := info_k info_tell
 have hlen := hx.len
 have hn : n ≤ 1000000 := by
  have h1 := x.size_kids
  have h2 : x.kids.length ≤ ptsSize x.kids := by
   have : ∀ l : List Pt, l.length ≤ ptsSize l := fun l => by
    induction l with
    | nil => simp [ptsSize]
    | cons z r ih => have := z.size_pos; simp [ptsSize]; omega
   exact this _
  omega
 have HX := Lib.hid hx
 have H := Lib.hid h
 have HV := Lib.hid hv
 have HN := Lib.hid hn
 have HLEN := Lib.hid hlen
 have HK := Lib.hid hk
 have HT := Lib.hid ht
 have HBUD := Lib.hid hbud
 rw [hv]
 clear hx hv hlen h hk ht hbud
 unfold pb
 go_enter Try.func88, Try.ntmps88
 go_upto_region 2 with (at_make; refine wpList_make_full _ rfl _ _ 64 rfl s.w.heap.size 111 i0 .nilFunc 1 Try.underlying64 hi0 hz0 hz1 _ _ _ _ n rfl rfl rfl rfl (by rw [hz2]; omega) (by simp only [maxLen]; omega) (Nat.le_refl _) ?_; intro wm hom hgm; have HOM := Lib.hid hom; have HBM := Lib.hid ((Below.refl s.w.heap.size s.w).grown hgm (Nat.le_refl _) (fun k hk => by cases hk)); clear hom hgm)
 have HE0 : Hid (EiSt C s a wm.heap.size s.w.heap.size n t x.kids 0 [] { s with w := wm.alloc (.cells #[.slice (some ⟨s.w.heap.size, 0, none⟩) n n] 64) }) := by
  have hb := HBM.out.trans ((kbelow_push wm (.cells #[.slice (some ⟨s.w.heap.size, 0, none⟩) n n] 64)).mono HBM.out.size)
  obtain ⟨i1, st1⟩ := H.out.on hb a
  obtain ⟨hl1, h2⟩ := HOM.out
  have hgg := H.out.g
  have hrow : ∃ cur, wm.heap[s.w.heap.size]? = some (.cells cur 111 (0, 0)) ∧ cur.size = n := by
   rcases h2 with ⟨h3, _⟩ | ⟨g', cap', cur, h3, _, h4, _, _, h5, _⟩
   ·cases h3
   ·injection h3 with e1 e2 e3
    injection e1 with e1
    injection e1 with e1
    subst e1 e3
    exact ⟨cur, h4, by rw [h5]; omega⟩
  obtain ⟨cur, hc1, hc2⟩ := hrow
  have hlt : s.w.heap.size < wm.heap.size := (Array.getElem?_eq_some_iff.1 hc1).1
  have hnr : ∀ b, s.w.heap.size ≤ b → ¬ s.G.R b := fun b hb hr => by have := (hgg.rlt b hr).1; omega
  exact ⟨i1, by simpa [ptsSize] using st1, rfl, rfl, (fun u hu => by cases hu), rfl, heap_alloc_new _ _, ⟨cur, ((kbelow_push _ _).block _ hlt).trans hc1, hc2, (fun i u hu => by simp at hu)⟩, ⟨by omega, Nat.le_refl _, by omega⟩, ⟨hnr _ (by omega), hnr _ (Nat.le_refl _)⟩, rfl, rfl, rfl⟩
 clear HOM HBM hi0 hz0 hz1 hz2
 generalize hm : wm.heap.size = m at *
 generalize hpr : s.w.heap.size = pr at *
 have HPR := Lib.hid hpr
 generalize hW1 : wm.alloc (.cells #[.slice (some ⟨pr, 0, none⟩) n n] 64) = w1 at *
 clear hm hpr hW1
 go_wp2_with fail
 go_loopw [15] (fun iv wx => ∃ (k : Nat) (ts : List Tl) (sk : Sta), k ≤ n ∧ iv = .int .i64 k ∧ sk.w = wx ∧ EiSt C s a m pr n t x.kids k ts sk) (fun iv _ => n - (intOf iv).toNat)
 case atStart => exact ⟨0, [], _, Nat.zero_le _, rfl, rfl, HE0.out⟩
 case round =>
  obtain ⟨k, ts, sk, hk, rfl, rfl, he⟩ := hrel
  have HE := Lib.hid he
  by_cases hlt : k < n
  ·have hrk : RdP sk.w (fun b => b < C.base) A n c x.kids := HX.out.keep (fun _ h => h) (fun p hp => he.st.bel.cell (p := p) hp)
   obtain ⟨kb, ko, y, zA, zn, zc, hA, hn', hc, yA, yn, yc, eA, hkb, hy, hin, z0, z1, z2, z3⟩ := hrk.got (i := k) hlt
   subst eA
   have HY := Lib.hid hy
   have HIN := Lib.hid hin
   have hbk := he.inv.base_le
   have hz0 : (0 : Int) ≤ (k : Int) := by omega
   have hz1 : (k : Int) < (n : Int) := by omega
   have hzk : IntKind.i64.wrap ((k : Int) + 1) = (k : Int) + 1 := IntWalk.i64_in _ (by omega)
   have hc1 : sk.w.cell? ⟨m, 0, none⟩ = some (.slice (some ⟨pr, 0, none⟩) n n) := by rw [cell_of_row _ _ _ _ _ _ he.box]; rfl
   have hmlt : m < sk.w.heap.size := (Array.getElem?_eq_some_iff.1 he.box).1
   have hplt : pr < sk.w.heap.size := by obtain ⟨cur, hcur, _⟩ := he.row; exact (Array.getElem?_eq_some_iff.1 hcur).1
   have B3 := kbelow_push sk.w (.cells #[.int .i64 y.kind, .slice zA zn zc, .slice hA hn' hc, .slice yA yn yc] 26)
   have hR3 := heap_alloc_new sk.w (.cells #[.int .i64 y.kind, .slice zA zn zc, .slice hA hn' hc, .slice yA yn yc] 26)
   have hmn : sk.mn ≤ 1000000 := by
    have h1 := he.st.bud
    have h2 := HBUD.out
    have h3 := x.size_kids
    have h4 := ptsSize_le x.kids k
    omega
   clear hrk hy hin he
   go_upto_region 5 with fail
   generalize hW3 : sk.w.alloc (.cells #[.int .i64 y.kind, .slice zA zn zc, .slice hA hn' hc, .slice yA yn yc] 26) = w3 at *
   have hq : w3.heap.size = sk.w.heap.size + 1 := by rw [← hW3]; simp
   clear hW3 z0 z1 z2 z3
   obtain ⟨q0, q1, q2, q3⟩ := hcells4 hR3
   have c3 : w3.cell? ⟨m, 0, none⟩ = some (.slice (some ⟨pr, 0, none⟩) n n) := (B3.cell (p := ⟨m, 0, none⟩) hmlt).trans hc1
   have D1 : Below sk.w.heap.size sk.w w3.drew := B3.drew
   have HP := Lib.hid (part_any (HE.out.inv.on D1 a).1 (Nat.le_trans hmn (by decide)) y.kind zA hA yA zn zc hn' hc yn yc g cap)
   simp only at HP
   unfold onceV pb at HP
   have HPX : Hid (PatV C w3.drew #[.int .i64 y.kind, .slice zA zn zc, .slice hA hn' hc, .slice yA yn yc] y) := ⟨_, _, _, _, _, _, _, _, _, rfl, HIN.out.keep (fun _ h => h) (fun p hp => D1.cell (p := p) (Nat.lt_of_lt_of_le hp hbk))⟩
   have HNX : Hid (∀ w', PartMem C w3.drew w' w3.drew.heap.size #[.int .i64 y.kind, .slice zA zn zc, .slice hA hn' hc, .slice yA yn yc] (.func g #[] cap) sk.nv sk.mn → EiSt C s a m pr n t x.kids (k + 1) (ts ++ [.part w3.drew.heap.size y t]) ⟨w'.setCell ⟨pr, k, none⟩ ((Tl.part w3.drew.heap.size y t).val C.c), sk.G.addp w3.drew.heap.size y t, sk.nv, sk.pv, sk.nx, sk.pl, sk.mn + 1⟩) := by
    intro w' hm
    rw [← HV.out] at hm
    exact HE.out.next H.out HT.out hlt HY.out D1 rfl hm HPX.out
   have HQ : Hid (∀ w', PartMem C w3.drew w' w3.drew.heap.size #[.int .i64 y.kind, .slice zA zn zc, .slice hA hn' hc, .slice yA yn yc] (.func g #[] cap) sk.nv sk.mn → (w'.cell? ⟨m, 0, none⟩ = some (.slice (some ⟨pr, 0, none⟩) n n) ∧ w'.cell? ⟨sk.w.heap.size, 0, none⟩ = some (.int .i64 y.kind) ∧ w'.cell? ⟨sk.w.heap.size, 1, none⟩ = some (.slice zA zn zc) ∧ w'.cell? ⟨sk.w.heap.size, 2, none⟩ = some (.slice hA hn' hc) ∧ w'.cell? ⟨sk.w.heap.size, 3, none⟩ = some (.slice yA yn yc)) ∧ (∃ u, w'.cell? ⟨pr, k, none⟩ = some u) ∧ w'.frozen? ⟨pr, k, none⟩ = false) := by
    intro w' hm
    have he := HE.out
    have hgg := he.inv.g
    have hW := (hgg.rlt _ hgg.rm.1).1
    have hold : ∀ b, b < w3.heap.size → b ≠ C.W → w'.heap[b]? = w3.heap[b]? := fun b hb hn => hm.old b hb hn
    have hWm : m ≠ C.W := fun e => he.nr.1 (e ▸ hgg.rm.1)
    have hWp : pr ≠ C.W := fun e => he.nr.2 (e ▸ hgg.rm.1)
    obtain ⟨cur, hcur, hcs, _⟩ := he.row
    have hcur' := (hold pr (by omega) hWp).trans ((B3.block pr hplt).trans hcur)
    refine ⟨⟨(cell_eq (hold _ (by omega) hWm)).trans c3, (cell_eq (hold _ (by omega) (by omega))).trans q0, (cell_eq (hold _ (by omega) (by omega))).trans q1, (cell_eq (hold _ (by omega) (by omega))).trans q2, (cell_eq (hold _ (by omega) (by omega))).trans q3⟩, ⟨cur[k]'(by omega), by rw [cell_of_row _ _ _ _ _ _ hcur']; exact Array.getElem?_eq_getElem _⟩, frozen_of_row _ _ _ _ _ hcur'⟩
   have HS1 : Hid (w3.drew.cell? ⟨m, 0, none⟩ = some (.slice (some ⟨pr, 0, none⟩) n n) ∧ w3.drew.cell? ⟨sk.w.heap.size, 0, none⟩ = some (.int .i64 y.kind) ∧ w3.drew.cell? ⟨sk.w.heap.size, 1, none⟩ = some (.slice zA zn zc) ∧ w3.drew.cell? ⟨sk.w.heap.size, 2, none⟩ = some (.slice hA hn' hc) ∧ w3.drew.cell? ⟨sk.w.heap.size, 3, none⟩ = some (.slice yA yn yc)) := ⟨c3, q0, q1, q2, q3⟩
   have HLT := Lib.hid hlt
   have HMP : Hid (m ≠ pr) := HE.out.lo.2.2
   have HQP : Hid (sk.w.heap.size ≠ pr) := Nat.ne_of_gt hplt
   clear hR3 q0 q1 q2 q3 c3 D1 B3 hq hc1 hmlt hplt hbk hmn hlt hkb
   go_region_held_law (fun w' => w'.cell? ⟨m, 0, none⟩ = some (.slice (some ⟨pr, 0, none⟩) n n) ∧ w'.cell? ⟨sk.w.heap.size, 0, none⟩ = some (.int .i64 y.kind) ∧ w'.cell? ⟨sk.w.heap.size, 1, none⟩ = some (.slice zA zn zc) ∧ w'.cell? ⟨sk.w.heap.size, 2, none⟩ = some (.slice hA hn' hc) ∧ w'.cell? ⟨sk.w.heap.size, 3, none⟩ = some (.slice yA yn yc)) (first | with_reducible exact HSw.out | exact ⟨(cell_other _ (.inl HMP.out)).trans HSw.out.1, (cell_other _ (.inl HQP.out)).trans HSw.out.2.1, (cell_other _ (.inl HQP.out)).trans HSw.out.2.2.1, (cell_other _ (.inl HQP.out)).trans HSw.out.2.2.2.1, (cell_other _ (.inl HQP.out)).trans HSw.out.2.2.2.2⟩ | with_reducible exact HS1.out) (first
    | (go_at_call 60; (with_reducible refine HP.out.mono ?_); rintro en w4 ⟨rfl, hm4⟩; obtain ⟨hs4, ⟨u4, hu4⟩, hf4⟩ := HQ.out _ hm4; have HSw := Lib.hid hs4; have HFIN := Lib.hid (HNX.out _ hm4); clear hm4 hs4))
   go_wp2_with fail
   go_roundw
   case rel => exact ⟨k + 1, _, _, by have := HLT.out; omega, by go_num, rfl, HFIN.out⟩
   case measure => have := HLT.out; simp [intOf]; omega
  ·have hkn : k = n := by omega
   subst hkn
   have HFN := Lib.hid (he.fin H.out HK.out rfl HLEN.out (by have := HN.out; unfold maxLen; omega))
   clear he
   go_wp2_with fail
   go_ret
   exact HFN.out
end
end Go.Proofs.Ytpllgfhocedgmaa
