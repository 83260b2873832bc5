/- A PatJoin's Kids in their order; an iterator over forms from behind. inside, of all kinds but a PatJoin. inside, of a PatJoin: a part of each Kid, one ahead of the other. inside, of a PatJoin: the walk. A tell is told a place: what it tells on, of each kind. What an inside tells on: once or not at all; nothing; one of several. What an inside tells on: a sign. A part is told a place: its inside is laid, and told. Any tell is told a place. A round of the walk: what its tells come to. Round by round: what a walk knows at a place. The walk through a list: how it begins. The walk through a list. Up to where a form matches: reached, Ends, Matches, Null. Whether a form matches; whether it matches nothing at all. From where a form matches: a list of places turned round; Begins. -/
import Derived.Test.YtpllgfhocedgmaaRT05
import Derived.Test.YtpllgfhocedgmaaRT09
import Derived.Shelf.Abstract
import Derived.Shelf.RegionOpen
import Derived.TacticsInMore
import Derived.LoopNIn
import Derived.LoopIn
import Derived.Sort.CutIn
import Derived.RegionIn
set_option maxRecDepth 100000
namespace Go.Proofs.Ytpllgfhocedgmaa
open Go.RowKit Go.Shelf
attribute [local go_sem] Oper.semAt_some

section
variable {C : Ctx} {s : Sta}
theorem row_any (h : Inv C s) {A : Option Addr} {n c : Nat} {l : List Pt} (hx : RdP s.w (fun b => b < C.base) A n c l) (hn : n ≤ 1000000) : Calls Try.prog 75 #[pb C.W, .slice A n c] s.w (fun en w' => ∃ A' c', en = .returned (.slice A' n c') ∧ Below s.w.heap.size s.w w' ∧ RowP w' (fun b => b < C.base) A' n c' (rwd C.back l)) := by
 have hS : ∀ b, b < C.base → b < s.w.heap.size := fun b hb => Nat.lt_of_lt_of_le hb h.base_le
 obtain ⟨k0, k1, k2, k3⟩ := hcells4 h.st.wk
 unfold pb rwd
 cases hb : C.back with
 | true =>
  rw [hb] at k1
  have HT := Lib.hid (turned_pt hS hx hn)
  clear h hx k0 k2 k3
  go_enter Try.func75, Try.ntmps75
  go_wp2_with fail
  refine HT.out.mono ?_
  rintro en w1 ⟨A1, c1, rfl, hb1, hr1⟩
  have H1 := Lib.hid (And.intro hb1 hr1)
  clear hb1 hr1
  go_wp2_with fail
  go_ret
  exact ⟨A1, c1, rfl, H1.out.1, H1.out.2⟩
 | false =>
  rw [hb] at k1
  have HR := Lib.hid (hx.row hS)
  clear h hx k0 k2 k3
  go_enter Try.func75, Try.ntmps75
  go_wp2_with fail
  go_ret
  exact ⟨A, c, rfl, Below.refl _ _, HR.out⟩
end
def isFn : Value → Bool
 | .func _ _ _ => true
 | .nilFunc => true
 | _ => false
def isSl : Value → Bool
 | .slice _ _ _ => true
 | _ => false
def bits : Obj → Bool
 | .cells cur _ _ => !((cur.size == 1 && (match cur[0]? with | some v => isFn v | none => false)) || (cur.size == 4 && (match cur[0]? with | some v => isSl v | none => false)))
 | _ => false
def bmine : Obj → Bool
 | .cells _ _ _ => true
 | .map _ _ => true
 | _ => false
theorem enters_back : ∀ args w, (callFunc 104 args).run Try.prog w = .ok (.enter 104 args) w := enters_of Try.func104 (by kernel_rfl) rfl
def encK (cs : Nat → List Value) (i : Nat) : Array Value := #[.int .i64 i, .agg (cs i).toArray]
theorem rev_range {n k : Nat} (hk : k < n) : (List.finRange n).reverse.take (k + 1) = (List.finRange n).reverse.take k ++ [⟨n - 1 - k, by omega⟩] := by
 have h : (List.finRange n).reverse[k]? = some ⟨n - 1 - k, by omega⟩ := by
  rw [List.getElem?_reverse (by simpa using hk), List.length_finRange, List.getElem?_eq_getElem (by simp; omega)]
  simp
 rw [List.take_add_one, h]
 rfl
set_option maxHeartbeats 4000000 in
theorem back_any {w : World} {A : Option Addr} {n c Bs : Nat} {cs : Nat → List Value} (hm : n ≤ 9223372036854775807) (hbox : w.heap[Bs]? = some (.cells #[.slice A n c] 24 (0, 0))) (hrow : 0 < n → ∃ b off, A = some ⟨b, off, none⟩ ∧ ∀ i, i < n → ∀ j u, (cs i)[j]? = some u → w.cell? ⟨b, off + (i * 4 + j), none⟩ = some u)
  (hcs : ∀ i, i < n → ∃ (k : Int) (sA : Option Addr) (sn sc : Nat) (gA : Option Addr) (gn gc : Nat) (kA : Option Addr) (kn kc : Nat), cs i = [.int .i64 k, .slice sA sn sc, .slice gA gn gc, .slice kA kn kc]) :
  SeqM Try.prog 104 #[.pointer (some ⟨Bs, 0, none⟩)] (fun i : Fin n => encK cs i.1) bits bmine (fun xs => xs = (List.finRange n).reverse) (fun _ => True) n w := by
 intro m l J Jx W hW hJ hJx hY h0
 have HROW : Hid (0 < n → ∃ b off cur t fr, A = some ⟨b, off, none⟩ ∧ W.heap[b]? = some (.cells cur t fr) ∧ bits (.cells cur t fr) = true ∧ ∀ i, i < n → ∀ j u, (cs i)[j]? = some u → cur[off + (i * 4 + j)]? = some u) := by
  intro hn
  obtain ⟨b, off, e, hc⟩ := hrow hn
  obtain ⟨k, sA, sn, sc, gA, gn, gc, kA, kn, kc, e0⟩ := hcs 0 hn
  have c0 := hc 0 hn 0 (.int .i64 k) (by rw [e0]; rfl)
  have hbl := klt_of_cell c0
  have hob : ∃ cur t fr, w.heap[b]? = some (.cells cur t fr) := by
   cases ho : w.heap[b]? with
   | none => simp [World.cell?, ho] at c0
   | some o =>
    cases o with
    | cells cur t fr => exact ⟨cur, t, fr, rfl⟩
    | _ => simp [World.cell?, ho] at c0
  obtain ⟨cur, t, fr, ho⟩ := hob
  have hcur : ∀ i, i < n → ∀ j u, (cs i)[j]? = some u → cur[off + (i * 4 + j)]? = some u := fun i hi j u hu => by
   have := hc i hi j u hu
   simpa [World.cell?, ho] using this
  refine ⟨b, off, cur, t, fr, e, (hW.block b hbl).trans ho, ?_, hcur⟩
  have g0 := hcur 0 hn 0 (.int .i64 k) (by rw [e0]; rfl)
  have g3 := hcur 0 hn 3 (.slice kA kn kc) (by rw [e0]; rfl)
  have hs3 := (Array.getElem?_eq_some_iff.1 g3).1
  have h1 : (cur.size == 1) = false := by simp; omega
  by_cases h4 : cur.size = 4
  ·have ho0 : off = 0 := by omega
   subst ho0
   have g0' : cur[0]? = some (.int .i64 k) := g0
   unfold bits
   simp only [h1, g0', isSl, Bool.false_and, Bool.and_false, Bool.or_false, Bool.not_false]
  ·simp [bits, h1, h4]
 have HBX : Hid (W.heap[Bs]? = some (.cells #[.slice A n c] 24 (0, 0))) := (hW.block Bs (Array.getElem?_eq_some_iff.1 hbox).1).trans hbox
 have HCS := Lib.hid hcs
 have HJ := Lib.hid hJ
 have HJx := Lib.hid hJx
 have HY := Lib.hid hY
 have H0 := Lib.hid h0
 have HW := Lib.hid hW
 have HM := Lib.hid hm
 clear hJ hJx hY h0 hW hbox hrow hcs hm
 have hz0 : IntKind.i64.wrap ((n : Int) - 1) = (n : Int) - 1 := IntWalk.i64_in _ (by have := HM.out; omega)
 have hb0 : W.cell? ⟨Bs, 0, none⟩ = some (.slice A n c) := by rw [cell_of_row _ _ _ _ _ _ HBX.out]; rfl
 refine callsIn_of_wp Try.func104 rfl trivial ?_ rfl
 simp only [Try.ntmps104, List.size_toArray, List.length_cons, List.length_nil, Nat.reduceAdd, Nat.reduceSub, Array.replicate_succ, Array.replicate_zero, List.push_toArray, List.append_toArray, List.nil_append, List.cons_append]
 gi_wp2_with fail
 clear hb0
 gi_loopw [3] (fun iv wr => ∃ k : Nat, k ≤ n ∧ iv = .int .i64 ((n : Int) - 1 - k) ∧ J ((List.finRange n).reverse.take k) wr ∧ wr.heap[Bs]? = some (.cells #[.slice A n c] 24 (0, 0)) ∧ (0 < n → ∃ b off cur t fr, A = some ⟨b, off, none⟩ ∧ wr.heap[b]? = some (.cells cur t fr) ∧ bits (.cells cur t fr) = true ∧ ∀ i, i < n → ∀ j u, (cs i)[j]? = some u → cur[off + (i * 4 + j)]? = some u)) (fun iv _ => (intOf iv + 1).toNat)
 case atStart => exact ⟨0, Nat.zero_le _, by simp, H0.out, HBX.out, HROW.out⟩
 case round =>
  obtain ⟨k, hk, rfl, hJ1, hbx, hrw⟩ := hrel
  by_cases hlt : k < n
  ·obtain ⟨b, off, cur, t, fr, rfl, hob, hbi, hcu⟩ := hrw (by omega)
   obtain ⟨i, hi⟩ : ∃ i : Nat, i = n - 1 - k := ⟨_, rfl⟩
   have hin : i < n := by omega
   have hii : (n : Int) - 1 - (k : Int) = (i : Int) := by omega
   obtain ⟨kd, sA, sn, sc, gA, gn, gc, kA, kn, kc, e0⟩ := HCS.out i hin
   have d0 : wr.cell? ⟨b, off + i * 4, none⟩ = some (.int .i64 kd) := by have := hcu i hin 0 _ (by rw [e0]; rfl); simpa [World.cell?, hob] using this
   have d1 : wr.cell? ⟨b, off + i * 4 + 1, none⟩ = some (.slice sA sn sc) := by have := hcu i hin 1 _ (by rw [e0]; rfl); rw [← Nat.add_assoc] at this; simpa [World.cell?, hob] using this
   have d2 : wr.cell? ⟨b, off + i * 4 + 2, none⟩ = some (.slice gA gn gc) := by have := hcu i hin 2 _ (by rw [e0]; rfl); rw [← Nat.add_assoc] at this; simpa [World.cell?, hob] using this
   have d3 : wr.cell? ⟨b, off + i * 4 + 3, none⟩ = some (.slice kA kn kc) := by have := hcu i hin 3 _ (by rw [e0]; rfl); rw [← Nat.add_assoc] at this; simpa [World.cell?, hob] using this
   have hb0 : wr.cell? ⟨Bs, 0, none⟩ = some (.slice (some ⟨b, off, none⟩) n c) := by rw [cell_of_row _ _ _ _ _ _ hbx]; rfl
   obtain ⟨fn, tmps, assign, body, hy, hR⟩ := HY.out _ ⟨i, hin⟩ wr hJ1 (by rw [List.length_take]; simp; omega)
   unfold encK at hy
   rw [e0] at hy
   have hz1 : IntKind.i64.wrap ((i : Int) - 1) = (i : Int) - 1 := IntWalk.i64_in _ (by have := HM.out; omega)
   have g0 : (0 : Int) ≤ (i : Int) := by omega
   have g1 : (i : Int) < (n : Int) := by omega
   have HR := Lib.hid hR
   have HX := Lib.hid (And.intro hbx (And.intro hob (And.intro hbi hcu)))
   have HII := Lib.hid (And.intro hi (And.intro hlt hin))
   have HMI : Hid (((n : Int) - 1 - (k : Int) + 1).toNat = i + 1) := by show _ = _; omega
   rw [hii]
   clear hR hcu hob hbi hbx hJ1 hrw hi hlt hk
   gi_wp2_with fail
   refine HR.out.mono ?_
   rintro e W3 (⟨rfl, hJ3, hk3⟩ | ⟨rfl, hJx3⟩)
   ·have HN : Hid (J ((List.finRange n).reverse.take (k + 1)) W3 ∧ W3.heap[Bs]? = some (.cells #[.slice (some ⟨b, off, none⟩) n c] 24 (0, 0)) ∧ W3.heap[b]? = some (.cells cur t fr)) := by
     refine ⟨?_, hk3.2 _ _ HX.out.1 rfl, hk3.2 _ _ HX.out.2.1 HX.out.2.2.1⟩
     rw [rev_range HII.out.2.1]
     have e9 : (⟨n - 1 - k, by have := HII.out.2.1; omega⟩ : Fin n) = ⟨i, HII.out.2.2⟩ := Fin.ext HII.out.1.symm
     rw [e9]
     exact hJ3
    clear hJ3 hk3 hy HR d0 d1 d2 d3 hb0
    gi_wp2_with fail
    go_roundw
    case rel => exact ⟨k + 1, by have := HII.out; omega, by have := HII.out; congr 1; omega, HN.out.1, HN.out.2.1, fun _ => ⟨b, off, cur, t, fr, rfl, HN.out.2.2, HX.out.2.2.1, HX.out.2.2.2⟩⟩
    case measure => first | (have := HII.out; simp [intOf]; done) | (have := HII.out; simp [intOf]; omega)
   ·have JX := Lib.hid hJx3
    clear hJx3 hy HR
    gi_wp2
    refine bodyPost_ret (results_none rfl _ _ _) rfl ?_
    exact ⟨⟨_, rfl⟩, .inr ⟨_, trivial, JX.out⟩⟩
  ·have hkn : k = n := by omega
   subst hkn
   have HJ9 := Lib.hid hJ1
   have hlt0 : (k : Int) - 1 - (k : Int) = -1 := by omega
   rw [hlt0]
   clear hJ1 hrw hbx hlt0
   gi_wp2_with fail
   go_end0
   exact ⟨⟨_, rfl⟩, .inl ⟨_, rfl, by have := HJ9.out; rwa [List.take_of_length_le (by simp)] at this⟩⟩
end Go.Proofs.Ytpllgfhocedgmaa
namespace Go.Proofs.Ytpllgfhocedgmaa
open Go.RowKit

section
variable {C : Ctx} {s s0 s1 : Sta}
theorem InsP.lift {a : Nat} {x : Pt} {t : Tl} {en : Ending} {w' : World} (hst : Step C a 0 s s0) (hg : Good C s0.w s0.G) (hG : s0.G = s.G) (hN : s0.nx = s.nx) (h : InsP C a s0 x t en w') : InsP C a s x t en w' := by
 obtain ⟨u, s', e1, e2, hi, st, ho, hn, hx⟩ := h
 have := hst.trans st hg
 rw [Nat.zero_add] at this
 exact ⟨u, s', e1, e2, hi, this, ho, hn.trans (by rw [hG]), hx.trans hN⟩
theorem Step.slack {a k k' : Nat} (h : Step C a k s s1) (hk : k ≤ k') : Step C a k' s s1 := ⟨h.ps, h.inn, h.rr, h.fr, h.told, h.new, h.nx, h.nq, h.pl, h.tp, by have := h.bud; omega, by have := h.mu; omega, h.keep, h.nvb, h.pvb, h.bel, h.uu, h.uk, h.lv, h.lt⟩
theorem often_any (h : Inv C s) (hmn : s.mn ≤ 1000000) {x : Pt} {sA gA A : Option Addr} {sn sc gn gc m c : Nat} (ho : oneF x = true) (hx : PtIn s.w (fun b => b < C.base) sA sn sc gA gn gc A m c x) {t : Tl} (ht : Ex s.G t) (a : Nat) :
  Calls Try.prog 89 #[pb C.W, .agg #[.int .i64 x.kind, .slice sA sn sc, .slice gA gn gc, .slice A m c], t.val C.c] s.w (InsP C a s x t) := by
 unfold oneF at ho
 simp only [Bool.and_eq_true, decide_eq_true_eq] at ho
 obtain ⟨⟨h5, h7⟩, h1⟩ := ho
 obtain ⟨y, hy⟩ := List.length_eq_one_iff.1 h1
 by_cases hk : x.kind = 7
 ·exact often_may h hmn hk hy hx ht a
 ·exact often_more h hmn (by omega) hy hx ht a
def inW (w : World) (W : Nat) (pc : Array Value) (v : Value) : World := ((w.alloc (.cells #[pb W] 109)).alloc (.cells pc 26)).alloc (.cells #[v] 111)
theorem inW_mem (w : World) (W : Nat) (pc : Array Value) (v : Value) : (inW w W pc v).heap.size = w.heap.size + 3 ∧ Below w.heap.size w (inW w W pc v) ∧ (inW w W pc v).heap[w.heap.size]? = some (.cells #[pb W] 109 (0, 0)) ∧ (inW w W pc v).heap[w.heap.size + 1]? = some (.cells pc 26 (0, 0)) ∧ TB (inW w W pc v) (w.heap.size + 2) v := by
 unfold inW
 have B1 := kbelow_push w (.cells #[pb W] 109)
 have B2 := B1.alloc B1.size (.cells pc 26)
 refine ⟨by simp, B2.alloc B2.size _, ?_, ?_, ?_⟩
 ·rw [(kbelow_push _ _).block _ (by simp; omega), (kbelow_push _ _).block _ (by simp)]
  exact heap_alloc_new w _
 ·rw [(kbelow_push _ _).block _ (by simp)]
  have := heap_alloc_new (w.alloc (.cells #[pb W] 109)) (.cells pc 26)
  simpa using this
 ·have := tb_new ((w.alloc (.cells #[pb W] 109)).alloc (.cells pc 26)) v
  simpa using this
set_option maxHeartbeats 2000000 in
theorem inside_not3 (h : Inv C s) {x : Pt} {sA gA A : Option Addr} {sn sc gn gc m c : Nat} (hk3 : x.kind ≠ 3) (hx : PtIn s.w (fun b => b < C.base) sA sn sc gA gn gc A m c x) (hbud : s.mn + unb s.G.inn s.G.ps + x.size ≤ 1000000) {t : Tl} (ht : Ex s.G t) (a : Nat) :
  Calls Try.prog 73 #[pb C.W, .agg #[.int .i64 x.kind, .slice sA sn sc, .slice gA gn gc, .slice A m c], t.val C.c] s.w (InsP C a s x t) := by
 obtain ⟨g, cap, hv⟩ := t.val_func C.c
 obtain ⟨m1, m2, m3, m4, m5⟩ := inW_mem s.w C.W #[.int .i64 x.kind, .slice sA sn sc, .slice gA gn gc, .slice A m c] (.func g #[] cap)
 obtain ⟨i3, st3⟩ := h.on m2 a
 have hx3 : PtIn (inW s.w C.W #[.int .i64 x.kind, .slice sA sn sc, .slice gA gn gc, .slice A m c] (.func g #[] cap)) (fun b => b < C.base) sA sn sc gA gn gc A m c x := hx.keep (fun _ h => h) (fun p hp => m2.cell (p := p) (Nat.lt_of_lt_of_le hp h.base_le))
 obtain ⟨p0, p1, p2, p3⟩ := hcells4 m4
 have c0 : (inW s.w C.W #[.int .i64 x.kind, .slice sA sn sc, .slice gA gn gc, .slice A m c] (.func g #[] cap)).cell? ⟨s.w.heap.size, 0, none⟩ = some (pb C.W) := by rw [cell_of_row _ _ _ _ _ _ m3]; rfl
 have c2 := m5.cell
 have HI3 := Lib.hid i3
 have HST3 := Lib.hid st3
 have HV := Lib.hid hv
 have H := Lib.hid h
 have HX3 := Lib.hid hx3
 have HM := Lib.hid (And.intro m1 m2)
 rw [hv]
 unfold inW pb at *
 have hbq : Hid (s.mn ≤ 1000000) := by show s.mn ≤ 1000000; omega
 by_cases h1 : x.kind = 1
 ·have HK := Lib.hid h1
  have d1 : (x.kind == 1) = true := by rw [h1]; rfl
  clear h1 hk3 i3 st3 hv h hx hx3 m1 m2 m3 m4 m5 hbud
  go_enter Try.func73, Try.ntmps73
  go_wp2_with fail
  go_ret
  exact ⟨.tl t, _, by rw [← HV.out]; rfl, rfl, HI3.out, HST3.out.slack (Nat.zero_le _), .emp HK.out, rfl, rfl⟩
 have d1 : (x.kind == 1) = false := by simpa using h1
 by_cases h2 : x.kind = 2
 ·have HK := Lib.hid h2
  have d2 : (x.kind == 2) = true := by rw [h2]; rfl
  have HC := Lib.hid (set_any (((s.w.alloc (.cells #[.pointer (some ⟨C.W, 0, none⟩)] 109)).alloc (.cells #[.int .i64 x.kind, .slice sA sn sc, .slice gA gn gc, .slice A m c] 26)).alloc (.cells #[.func g #[] cap] 111)) C.W gA gn gc g cap)
  unfold pb at HC
  have HGS := Lib.hid hx3.signs
  clear h1 h2 hk3 i3 st3 hv h hx hx3 m1 m2 m3 m4 m5 hbud
  go_enter Try.func73, Try.ntmps73
  go_wp2_with fail
  refine HC.out.mono ?_
  rintro en w' ⟨rfl, rfl⟩
  clear HC c0 c2 p0 p1 p2 p3
  generalize hW3 : ((s.w.alloc (.cells #[.pointer (some ⟨C.W, 0, none⟩)] 109)).alloc (.cells #[.int .i64 x.kind, .slice sA sn sc, .slice gA gn gc, .slice A m c] 26)).alloc (.cells #[.func g #[] cap] 111) = w3 at *
  clear hW3
  have HF : Hid (InsP C a s x t (.returned ((Inn.set w3.heap.size).val C.c)) (((w3.alloc (.cells #[.pointer (some ⟨C.W, 0, none⟩)] 109)).alloc (.cells #[.slice gA gn gc] 23)).alloc (.cells #[.func g #[] cap] 111))) := by
   have B1 := kbelow_push w3 (.cells #[.pointer (some ⟨C.W, 0, none⟩)] 109)
   have B2 := B1.alloc B1.size (.cells #[.slice gA gn gc] 23)
   have B3 := B2.alloc B2.size (.cells #[.func g #[] cap] 111)
   obtain ⟨i4, st4⟩ := HI3.out.on B3 a
   have stt := HST3.out.trans st4 HI3.out.g
   have hm := HM.out
   have hsz : (((w3.alloc (.cells #[.pointer (some ⟨C.W, 0, none⟩)] 109)).alloc (.cells #[.slice gA gn gc] 23)).alloc (.cells #[.func g #[] cap] 111)).heap.size = w3.heap.size + 3 := by simp
   have t0 : (((w3.alloc (.cells #[.pointer (some ⟨C.W, 0, none⟩)] 109)).alloc (.cells #[.slice gA gn gc] 23)).alloc (.cells #[.func g #[] cap] 111)).heap[w3.heap.size]? = some (.cells #[.pointer (some ⟨C.W, 0, none⟩)] 109 (0, 0)) := by
    rw [(kbelow_push _ _).block _ (by simp; omega), (kbelow_push _ _).block _ (by simp)]
    exact heap_alloc_new w3 _
   have t1 : (((w3.alloc (.cells #[.pointer (some ⟨C.W, 0, none⟩)] 109)).alloc (.cells #[.slice gA gn gc] 23)).alloc (.cells #[.func g #[] cap] 111)).heap[w3.heap.size + 1]? = some (.cells #[.slice gA gn gc] 23 (0, 0)) := by
    rw [(kbelow_push _ _).block _ (by simp)]
    have := heap_alloc_new (w3.alloc (.cells #[.pointer (some ⟨C.W, 0, none⟩)] 109)) (.cells #[.slice gA gn gc] 23)
    simpa using this
   have t2 : TB (((w3.alloc (.cells #[.pointer (some ⟨C.W, 0, none⟩)] 109)).alloc (.cells #[.slice gA gn gc] 23)).alloc (.cells #[.func g #[] cap] 111)) (w3.heap.size + 2) (.func g #[] cap) := by
    have := tb_new ((w3.alloc (.cells #[.pointer (some ⟨C.W, 0, none⟩)] 109)).alloc (.cells #[.slice gA gn gc] 23)) (.func g #[] cap)
    simpa using this
   have hR : ∀ b, w3.heap.size ≤ b → ¬ s.G.R b := fun b hb hr => by have := (H.out.g.rlt b hr).1; have := hm.1; omega
   have hrow : ∀ v : Value, (∀ b, v.ownBlock = some b → b < s.w.heap.size) → ∀ b, v.ownBlock = some b → ¬ (w3.heap.size ≤ b ∧ b < w3.heap.size + 3) := fun v hv b e hb => by have := hv b e; have := hm.1; omega
   obtain ⟨i5, st5⟩ := Inv.late (V := fun b => w3.heap.size ≤ b ∧ b < w3.heap.size + 3) stt H.out i4 (fun b hb => ⟨by have := hm.1; omega, hsz ▸ hb.2, hR b hb.1⟩) (hrow _ fun b e => (World.ownsRow.lt H.out.st.nr b e).2) (hrow _ fun b e => (World.ownsRow.lt H.out.st.pr b e).2)
   refine ⟨.set w3.heap.size, _, rfl, rfl, i5, st5.slack (Nat.zero_le _), .set _ HK.out ⟨.inr (by omega), .inr (by omega), .inr (by omega)⟩ (by rw [cell_of_row _ _ _ _ _ _ t0]; rfl) ⟨gA, gn, gc, by rw [cell_of_row _ _ _ _ _ _ t1]; rfl, HGS.out.keep (fun _ h => h) (fun p hp => B3.cell (p := p) (Nat.lt_of_lt_of_le hp HI3.out.base_le))⟩ ?_, rfl, rfl⟩
   rw [HV.out]
   exact t2.cell
  go_wp2_with fail
  go_ret
  exact HF.out
 have d2 : (x.kind == 2) = false := by simpa using h2
 have d3 : (x.kind == 3) = false := by simpa using hk3
 by_cases h4 : x.kind = 4
 ·have HK := Lib.hid h4
  have d4 : (x.kind == 4) = true := by rw [h4]; rfl
  have HC := Lib.hid (either_any i3 h4 hx3.kids hbud ht a)
  simp only at HC
  rw [hv] at HC
  unfold pb at HC
  clear h1 h2 h4 hk3 i3 st3 hv h hx hx3 m1 m2 m3 m4 m5 hbud
  go_enter Try.func73, Try.ntmps73
  go_wp2_with fail
  refine HC.out.mono ?_
  rintro en w' hins
  have HF := Lib.hid (InsP.lift HST3.out HI3.out.g rfl rfl hins)
  obtain ⟨u, s', rfl, _⟩ := hins
  obtain ⟨gu, cu, hu⟩ := u.val_func C.c
  rw [hu] at HF ⊢
  go_wp2_with fail
  go_ret
  exact HF.out
 have d4 : (x.kind == 4) = false := by simpa using h4
 have HO := Lib.hid (one_any hx3)
 cases ho : oneF x with
 | true =>
  rw [ho] at HO
  generalize hW3 : ((s.w.alloc (.cells #[.pointer (some ⟨C.W, 0, none⟩)] 109)).alloc (.cells #[.int .i64 x.kind, .slice sA sn sc, .slice gA gn gc, .slice A m c] 26)).alloc (.cells #[.func g #[] cap] 111) = w3 at *
  have HC : Hid (∀ w', Below w3.heap.size w3 w' → Calls Try.prog 89 #[.pointer (some ⟨C.W, 0, none⟩), .agg #[.int .i64 x.kind, .slice sA sn sc, .slice gA gn gc, .slice A m c], .func g #[] cap] w' (InsP C a s x t) ∧ w'.cell? ⟨s.w.heap.size, 0, none⟩ = some (.pointer (some ⟨C.W, 0, none⟩)) ∧ w'.cell? ⟨s.w.heap.size + 1, 0, none⟩ = some (.int .i64 x.kind) ∧ w'.cell? ⟨s.w.heap.size + 1, 1, none⟩ = some (.slice sA sn sc) ∧ w'.cell? ⟨s.w.heap.size + 1, 2, none⟩ = some (.slice gA gn gc) ∧ w'.cell? ⟨s.w.heap.size + 1, 3, none⟩ = some (.slice A m c) ∧ w'.cell? ⟨s.w.heap.size + 2, 0, none⟩ = some (.func g #[] cap)) := by
   intro w' hb
   obtain ⟨i4, st4⟩ := i3.on hb a
   have stt := st3.trans st4 i3.g
   have hc := often_any i4 hbq.out ho (hx3.keep (fun _ h => h) (fun p hp => hb.cell (p := p) (Nat.lt_of_lt_of_le hp i3.base_le))) ht a
   rw [hv] at hc
   exact ⟨hc.mono fun en w2 h2 => InsP.lift stt i4.g rfl rfl h2, (hb.cell (p := ⟨_, 0, none⟩) (by show s.w.heap.size < _; omega)).trans c0, (hb.cell (p := ⟨_, 0, none⟩) (by show s.w.heap.size + 1 < _; omega)).trans p0, (hb.cell (p := ⟨_, 1, none⟩) (by show s.w.heap.size + 1 < _; omega)).trans p1, (hb.cell (p := ⟨_, 2, none⟩) (by show s.w.heap.size + 1 < _; omega)).trans p2, (hb.cell (p := ⟨_, 3, none⟩) (by show s.w.heap.size + 1 < _; omega)).trans p3, (hb.cell (p := ⟨_, 0, none⟩) (by show s.w.heap.size + 2 < _; omega)).trans c2⟩
  rw [← hW3] at HO HC c0 c2 p0 p1 p2 p3
  clear h1 h2 h4 hk3 i3 st3 hv h hx hx3 m1 m2 m3 m4 m5 hbud ho hW3
  go_enter Try.func73, Try.ntmps73
  go_wp2_with fail
  refine HO.out.mono ?_
  rintro en w' ⟨rfl, hb⟩
  obtain ⟨hc, e0, e1, e2, e3, e4, e5⟩ := HC.out w' hb
  have HC2 := Lib.hid hc
  clear hb hc HO HC c0 c2 p0 p1 p2 p3
  go_wp2_with fail
  refine HC2.out.mono ?_
  rintro en w2 hins
  have HF := Lib.hid hins
  obtain ⟨u, s', rfl, _⟩ := hins
  obtain ⟨gu, cu, hu⟩ := u.val_func C.c
  rw [hu] at HF ⊢
  go_wp2_with fail
  go_ret
  exact HF.out
 | false =>
  rw [ho] at HO
  have HNO : Hid (¬ ((1 ≤ x.kind ∧ x.kind ≤ 4) ∨ ((5 ≤ x.kind ∧ x.kind ≤ 7) ∧ x.kids.length = 1))) := by
   intro hh
   rcases hh with hh | ⟨hh, hl⟩
   ·omega
   ·simp [oneF, hh.1, hh.2, hl] at ho
  clear h1 h2 h4 hk3 i3 st3 hv h hx hx3 m1 m2 m3 m4 m5 hbud ho
  go_enter Try.func73, Try.ntmps73
  go_wp2_with fail
  refine HO.out.mono ?_
  rintro en w' ⟨rfl, hb⟩
  have HF : Hid (InsP C a s x t (.returned (Inn.no.val C.c)) w') := by
   obtain ⟨i4, st4⟩ := HI3.out.on hb a
   have stt := HST3.out.trans st4 HI3.out.g
   exact ⟨.no, _, rfl, rfl, i4, stt.slack (Nat.zero_le _), .no HNO.out, rfl, rfl⟩
  clear hb
  go_wp2_with fail
  go_ret
  exact HF.out
end
end Go.Proofs.Ytpllgfhocedgmaa
namespace Go.Proofs.Ytpllgfhocedgmaa
open Go.RowKit Go.Shelf
attribute [local go_sem] Oper.semAt_some

theorem backward_of (w : World) (A : Option Addr) (n c : Nat) : Calls Try.prog 87 #[.slice A n c] w (fun en w' => en = .returned (.func (.func 104) #[] #[.pointer (some ⟨w.heap.size, 0, none⟩)]) ∧ w' = w.alloc (.cells #[.slice A n c] 24)) := by
 have hmf : ∀ (fn : Fn) (first cap : Array Value) (w : World), (Instr.makeFunc fn first cap).run Try.prog w = .ok (.func fn first cap) w := fun _ _ _ _ => rfl
 go_enter Try.func87, Try.ntmps87
 go_wp2_with fail
 go_ret
 exact ⟨rfl, rfl⟩
theorem setCell_cells {w : World} {b : Nat} {cur : Array Value} {ty : TypeId} {fr : Nat × Nat} (h : w.heap[b]? = some (.cells cur ty fr)) (c o : Nat) (v : Value) : ∃ (cur : Array Value) (ty : TypeId) (fr : Nat × Nat), (w.setCell ⟨c, o, none⟩ v).heap[b]? = some (.cells cur ty fr) := by
 by_cases e : b = c
 ·subst e
  refine ⟨cur.setIfInBounds o v, ty, fr, ?_⟩
  unfold World.setCell
  show (w.heap.modify b _)[b]? = _
  rw [Array.getElem?_modify, if_pos rfl, h]
  rfl
 ·exact ⟨cur, ty, fr, (Below.heap_setCell _ _ _ _ e).trans h⟩
section
variable {C : Ctx} {s s1 : Sta}
theorem Inv.same {a k : Nat} (hst : Step C a k s s1) (h0 : Inv C s) (h : Inv C s1) {w' : World} (hs : s1.w.heap.size ≤ w'.heap.size) (hlow : ∀ b, b < s.w.heap.size → w'.heap[b]? = s1.w.heap[b]?) (hR : ∀ b, s1.G.R b → w'.heap[b]? = s1.w.heap[b]?) (hn : ∀ b, s1.nv.ownBlock = some b → w'.heap[b]? = s1.w.heap[b]?) (hp : ∀ b, s1.pv.ownBlock = some b → w'.heap[b]? = s1.w.heap[b]?) (ho : w'.os = s1.w.os ∧ w'.tape = s1.w.tape ∧ w'.output = s1.w.output) :
  Inv C { s1 with w := w' } ∧ Step C a k s { s1 with w := w' } := by
 have gg := h.g
 have st := h.st
 have hbl := h0.base_le
 have hR' : ∀ i, s1.G.R i → i ≠ C.W → i ≠ C.P → w'.heap[i]? = s1.w.heap[i]? := fun i hi _ _ => hR i hi
 have hB : ∀ i, i < C.base → w'.heap[i]? = s1.w.heap[i]? := fun i hi => hlow i (by omega)
 refine ⟨h.turn hs hB hR' ⟨(hR _ gg.rm.1).trans st.wk, st.l.keep (fun _ h => h) (fun p hp => World.cell?_of_block (hB p.block hp)), owns_keep st.nr hn, st.nn, (hR _ gg.rm.2.1).trans st.p0, owns_keep st.pr hp, st.pn, st.np, st.nxe, st.cn⟩, ?_⟩
 refine ⟨hst.ps, hst.inn, hst.rr, hst.fr, fun t he ht => Cov.of gg (fun n x t hp hl => (gg.cov_eq hR' hp a).2 hl) (fun hl => (gg.top_eq hR' a).2 hl) t (hst.ex he) (hst.told t he ht), fun n x t hp hl => ?_, hst.nx, hst.nq, ?_, fun hl => hst.tp ((gg.top_eq hR' a).1 hl), hst.bud, ?_, fun i hi hr' h1 h2 => (hlow i hi).trans (hst.keep i hi hr' h1 h2), hst.nvb, hst.pvb, ⟨ho.1.trans hst.bel.os, ho.2.1.trans hst.bel.tape, ho.2.2.trans hst.bel.output, Nat.le_trans hst.bel.size hs, fun i hi => (hB i hi).trans (hst.bel.block i hi)⟩, hst.uu, fun i hi => (hR i (gg.ur i (hst.uu i hi))).trans (hst.uk i hi), fun n x t z hp hl => hst.lv n x t z hp ((gg.cov_eq hR' hp z).1 hl), fun z hl => hst.lt z ((gg.top_eq hR' z).1 hl)⟩
 ·rcases hst.new n x t hp ((gg.cov_eq hR' hp a).1 hl) with h1 | ⟨u, h1, h2⟩
  ·exact .inl h1
  ·exact .inr ⟨u, h1, CovI.mono ((gg.part n x t hp).inn u h1) (gg.part n x t hp).ex (fun e y t ht => (gg.more e y t ht).kid) (fun t he ht => Cov.of gg (fun n x t hp hl => (gg.cov_eq hR' hp a).2 hl) (fun hl => (gg.top_eq hR' a).2 hl) t he ht) (fun _ h => h) h2⟩
 ·rcases hst.pl with e | ⟨e, h1, h2, h3⟩
  ·exact .inl e
  ·exact .inr ⟨e, h1, (gg.top_eq hR' a).2 h2, h3⟩
 ·have := hst.mu
  show unt w' a s1.G.ps + _ ≤ _
  rw [unt_eq gg hR' a s1.G.ps fun _ h => h]
  exact this
structure JoSt (C : Ctx) (s : Sta) (a d wb tb : Nat) (t : Tl) (L : List Pt) (u : Tl) (sk : Sta) : Prop where
 inv : Inv C sk
 st : Step C a (ptsSize L) s sk
 stk : u.stk = L ++ t.stk
 ex : Ex sk.G u
 inn : sk.G.inn = s.G.inn
 box : sk.w.heap[wb]? = some (.cells #[pb C.W] 109 (0, 0))
 tbx : TB sk.w tb (u.val C.c)
 nr : ¬ sk.G.R tb
 rc : ∀ b, sk.G.R b → b < d ∨ ∃ cur ty fr, sk.w.heap[b]? = some (.cells cur ty fr)
 lo : s.w.heap.size ≤ wb ∧ wb < d ∧ s.w.heap.size ≤ tb ∧ tb < d ∧ wb ≠ tb
 nv : sk.nv = s.nv
 pv : sk.pv = s.pv
 nx : sk.nx = s.nx
theorem JoSt.keeps {a d wb tb : Nat} {t u : Tl} {L : List Pt} {sk : Sta} {B : World} (h : Inv C s) (e : JoSt C s a d wb tb t L u sk) (hb : Below d sk.w B) (hk : Keeps bmine sk.w B) : JoSt C s a d wb tb t L u { sk with w := B } := by
 have hR : ∀ b, sk.G.R b → B.heap[b]? = sk.w.heap[b]? := fun b hb2 => by
  rcases e.rc b hb2 with h1 | ⟨cur, ty, fr, h1⟩
  ·exact hb.block b h1
  ·exact (hk.2 b _ h1 rfl).trans h1.symm
 have hlo := e.lo
 obtain ⟨i1, st1⟩ := Inv.same e.st h e.inv hb.size (fun b hb2 => hb.block b (by omega)) hR (fun b e1 => hb.block b (by rw [e.nv] at e1; have := (World.ownsRow.lt h.st.nr b e1).2; omega)) (fun b e1 => hb.block b (by rw [e.pv] at e1; have := (World.ownsRow.lt h.st.pr b e1).2; omega)) ⟨hb.os, hb.tape, hb.output⟩
 exact ⟨i1, st1, e.stk, e.ex, e.inn, (hb.block _ hlo.2.1).trans e.box, (hb.block _ hlo.2.2.2.1).trans e.tbx, e.nr, fun b hb2 => (e.rc b hb2).imp id fun ⟨cur, ty, fr, h1⟩ => ⟨cur, ty, fr, (hR b hb2).trans h1⟩, hlo, e.nv, e.pv, e.nx⟩
theorem JoSt.next {a d wb tb q : Nat} {t u : Tl} {L : List Pt} {sk : Sta} {y : Pt} {w3 w' : World} {pc : Array Value} (h : Inv C s) (e : JoSt C s a d wb tb t L u sk) (hb3 : Below sk.w.heap.size sk.w w3) (hq : w3.heap.size = q) (hm : PartMem C w3 w' q pc (u.val C.c) sk.nv sk.mn) (hx : PatV C w3 pc y) :
  JoSt C s a d wb tb t (y :: L) (.part q y u) ⟨w'.setCell ⟨tb, 0, none⟩ ((Tl.part q y u).val C.c), sk.G.addp q y u, sk.nv, sk.pv, sk.nx, sk.pl, sk.mn + 1⟩ := by
 obtain ⟨i3, st3⟩ := e.inv.on hb3 a
 obtain ⟨i4, st4⟩ := i3.addp hm hx e.ex a
 have st := (e.st.trans st3 e.inv.g).trans st4 i3.g
 have hgg := e.inv.g
 have hlo := e.lo
 have htl : tb < sk.w.heap.size := (Array.getElem?_eq_some_iff.1 e.tbx).1
 have hwl : wb < sk.w.heap.size := (Array.getElem?_eq_some_iff.1 e.box).1
 have h3 := hb3.size
 have hnr : ¬ (sk.G.addp q y u).R tb := fun hr => by
  rcases hr with h1 | h1
  ·exact e.nr h1
  ·omega
 have hrn : sk.nv.ownBlock ≠ some tb := fun e1 => by rw [e.nv] at e1; have := (World.ownsRow.lt h.st.nr _ e1).2; omega
 have hrp : sk.pv.ownBlock ≠ some tb := fun e1 => by rw [e.pv] at e1; have := (World.ownsRow.lt h.st.pr _ e1).2; omega
 obtain ⟨i5, st5⟩ := Inv.free st h i4 (b := tb) hlo.2.2.1 hnr hrn hrp 0 ((Tl.part q y u).val C.c)
 have hold : ∀ b, b < sk.w.heap.size → b ≠ C.W → w'.heap[b]? = sk.w.heap[b]? := fun b hb hn => (hm.old b (by omega) hn).trans (hb3.block b hb)
 have hWt : tb ≠ C.W := fun e1 => e.nr (e1 ▸ hgg.rm.1)
 have hWlt := (hgg.rlt _ hgg.rm.1).1
 have hWb : wb ≠ C.W := fun e1 => by
  have hbx := e.box
  have hwk := e.inv.st.wk
  rw [e1, hwk] at hbx
  simp at hbx
 have hsz : ptsSize L + 0 + y.size = ptsSize (y :: L) := by rw [ptsSize]; omega
 refine ⟨i5, hsz ▸ st5, by show y :: u.stk = _; rw [e.stk]; rfl, .inr List.mem_cons_self, e.inn, (Below.heap_setCell _ _ _ _ (by show wb ≠ tb; exact hlo.2.2.2.2)).trans ((hold wb hwl hWb).trans e.box), TB.set ((hold tb htl hWt).trans e.tbx) _, hnr, fun b hb => ?_, hlo, e.nv, e.pv, e.nx⟩
 have hset : ∀ (b : Nat) (cur : Array Value) (ty : TypeId) (fr : Nat × Nat), w'.heap[b]? = some (.cells cur ty fr) → ∃ (cur : Array Value) (ty : TypeId) (fr : Nat × Nat), (w'.setCell ⟨tb, 0, none⟩ ((Tl.part q y u).val C.c)).heap[b]? = some (.cells cur ty fr) := fun b cur ty fr hb => by
  exact setCell_cells hb _ _ _
 rcases hb with h1 | h1
 ·rcases e.rc b h1 with h2 | ⟨cur, ty, fr, h2⟩
  ·exact .inl h2
  ·by_cases hbW : b = C.W
   ·exact .inr (hset b _ _ _ (hbW ▸ hm.wk))
   ·exact .inr (hset b _ _ _ ((hold b (hgg.rlt b h1).1 hbW).trans h2))
 ·have : b = q ∨ b = q + 1 ∨ b = q + 2 ∨ b = q + 3 ∨ b = q + 4 ∨ b = q + 5 := by omega
  rcases this with e1 | e1 | e1 | e1 | e1 | e1
  ·have h0 := hm.h0
   have hc : ∃ cur ty fr, w'.heap[q]? = some (.cells cur ty fr) := by
    cases ho : w'.heap[q]? with
    | none => simp [World.cell?, ho] at h0
    | some o =>
     cases o with
     | cells cur ty fr => exact ⟨cur, ty, fr, rfl⟩
     | _ => simp [World.cell?, ho] at h0
   obtain ⟨cur, ty, fr, h2⟩ := hc
   exact .inr (e1 ▸ hset q _ _ _ h2)
  ·exact .inr (e1 ▸ hset _ _ _ _ hm.h1)
  ·exact .inr (e1 ▸ hset _ _ _ _ hm.h2)
  ·exact .inr (e1 ▸ hset _ _ _ _ hm.h3)
  ·exact .inr (e1 ▸ hset _ _ _ _ hm.h4)
  ·exact .inr (e1 ▸ hset _ _ _ _ hm.h5)
end
end Go.Proofs.Ytpllgfhocedgmaa
namespace Go.Proofs.Ytpllgfhocedgmaa
open Go.RowKit Go.Shelf
attribute [local go_sem] Oper.semAt_some

theorem bits_book : ∀ o, book o = true → bits o = false := by intro o h; cases o <;> first | rfl | cases h
theorem ptsSize_bound {M : Nat} : ∀ {l : List Pt}, (∀ y ∈ l, y.size ≤ M) → ptsSize l ≤ l.length * M
 | [], _ => by simp [ptsSize]
 | z :: r, h => by
  have h1 := ptsSize_bound (l := r) fun y hy => h y (List.mem_cons_of_mem _ hy)
  have h2 := h z List.mem_cons_self
  rw [ptsSize, List.length_cons, Nat.succ_mul]
  omega
def revk {n : Nat} (kids : List Pt) (pre : List (Fin n)) : List Pt := (pre.map (fun i => kids.getD i.1 zeroP)).reverse
theorem revk_all {n : Nat} {kids : List Pt} (h : kids.length = n) : revk kids (List.finRange n).reverse = kids := by
 unfold revk
 rw [List.map_reverse, List.reverse_reverse]
 apply List.ext_getElem?
 intro i
 by_cases hi : i < n
 ·rw [List.getElem?_map, List.getElem?_eq_getElem (by simp; exact hi), List.getElem?_eq_getElem (by omega)]
  simp [List.getD, List.getElem?_eq_getElem (show i < kids.length by omega)]
 ·rw [List.getElem?_eq_none (by simp; omega), List.getElem?_eq_none (by omega)]
theorem revk_snoc {n : Nat} (kids : List Pt) (pre : List (Fin n)) (i : Fin n) : revk kids (pre ++ [i]) = kids.getD i.1 zeroP :: revk kids pre := by simp [revk]
theorem bmine_book : ∀ o, book o = true → bmine o = false := by intro o h; cases o <;> first | rfl | cases h
section
variable {C : Ctx} {s : Sta}
set_option maxHeartbeats 4000000 in
theorem inside_join (h : Inv C s) {x : Pt} {sA gA A : Option Addr} {sn sc gn gc n c : Nat} (hk3 : x.kind = 3) (hx : PtIn s.w (fun b => b < C.base) sA sn sc gA gn gc A n c x) (hbud : s.mn + unb s.G.inn s.G.ps + x.size ≤ 1000000) (hxs : x.size ≤ 100000) {t : Tl} (ht : Ex s.G t) (a : Nat) :
  Calls Try.prog 73 #[pb C.W, .agg #[.int .i64 x.kind, .slice sA sn sc, .slice gA gn gc, .slice A n c], t.val C.c] s.w (InsP C a s x t) := by
 obtain ⟨g, cap, hv⟩ := t.val_func C.c
 have hlen := hx.kids.len
 have hn : n ≤ 1000000 := by
  have h1 := x.size_kids
  have h2 : x.kids.length ≤ ptsSize x.kids := by
   have : ∀ l : List Pt, l.length ≤ ptsSize l := fun l => by
    induction l with
    | nil => simp [ptsSize]
    | cons z r ih => have := z.size_pos; simp [ptsSize]; omega
   exact this _
  omega
 obtain ⟨m1, m2, m3, m4, m5⟩ := inW_mem s.w C.W #[.int .i64 x.kind, .slice sA sn sc, .slice gA gn gc, .slice A n c] (.func g #[] cap)
 obtain ⟨i3, st3⟩ := h.on m2 a
 have hx3 : PtIn (inW s.w C.W #[.int .i64 x.kind, .slice sA sn sc, .slice gA gn gc, .slice A n c] (.func g #[] cap)) (fun b => b < C.base) sA sn sc gA gn gc A n c x := hx.keep (fun _ h => h) (fun p hp => m2.cell (p := p) (Nat.lt_of_lt_of_le hp h.base_le))
 obtain ⟨p0, p1, p2, p3⟩ := hcells4 m4
 have c0 : (inW s.w C.W #[.int .i64 x.kind, .slice sA sn sc, .slice gA gn gc, .slice A n c] (.func g #[] cap)).cell? ⟨s.w.heap.size, 0, none⟩ = some (pb C.W) := by rw [cell_of_row _ _ _ _ _ _ m3]; rfl
 have c2 := m5.cell
 have HROW := Lib.hid (row_any i3 hx3.kids hn)
 have HI3 := Lib.hid i3
 have HST3 := Lib.hid st3
 have HV := Lib.hid hv
 have H := Lib.hid h
 have HX3 := Lib.hid hx3
 have HM := Lib.hid (And.intro m1 (And.intro m2 (And.intro m3 m5)))
 have HN := Lib.hid hn
 have HLEN := Lib.hid hlen
 have HBUD := Lib.hid hbud
 rw [hv]
 unfold inW pb at *
 have HK := Lib.hid hk3
 have d1 : (x.kind == 1) = false := by rw [hk3]; rfl
 have d2 : (x.kind == 2) = false := by rw [hk3]; rfl
 have d3 : (x.kind == 3) = true := by rw [hk3]; rfl
 clear hk3 i3 st3 hv h hx hx3 m1 m2 m3 m4 m5 hbud hn hlen
 refine (callsIn_wide (n := 2)).1 ?_
 refine callsIn_of_wp_marks Try.func73 rfl trivial ?_ rfl
 simp only [Try.ntmps73, List.size_toArray, List.length_cons, List.length_nil, Nat.reduceAdd, Nat.reduceSub, Array.replicate_succ, Array.replicate_zero, List.push_toArray, List.append_toArray, List.nil_append, List.cons_append]
 gi_wp2_with fail
 refine ⟨trivial, ?_⟩
 refine (callsIn_wide.2 HROW.out).mono ?_
 rintro en w4 ⟨A4, c4, rfl, hb4, hr4⟩
 have HB4 := Lib.hid hb4
 have HR4 := Lib.hid hr4
 clear hb4 hr4
 gi_wp2_with fail
 refine ⟨trivial, ?_⟩
 refine (callsIn_wide.2 (backward_of _ _ _ _)).mono ?_
 rintro en w5 ⟨rfl, rfl⟩
 gi_wp2_with fail
 obtain ⟨r1, r2, r3, cs, hrow, hcs⟩ := HR4.out
 have hlk : (rwd C.back x.kids).length = n := r1
 have HEX : Hid (∀ i : Fin n, ∃ (sA : Option Addr) (sn sc : Nat) (gA : Option Addr) (gn gc : Nat) (kA : Option Addr) (kn kc : Nat), cs i.1 = [.int .i64 ((rwd C.back x.kids).getD i.1 zeroP).kind, .slice sA sn sc, .slice gA gn gc, .slice kA kn kc] ∧ PtIn w4 (fun b => b < C.base) sA sn sc gA gn gc kA kn kc ((rwd C.back x.kids).getD i.1 zeroP)) := by
  intro i
  have hi : i.1 < (rwd C.back x.kids).length := by rw [hlk]; exact i.2
  have hx := List.getElem?_eq_getElem hi
  have hd : (rwd C.back x.kids).getD i.1 zeroP = (rwd C.back x.kids)[i.1] := by simp [List.getD, hx]
  obtain ⟨sA, sn, sc, gA, gn, gc, kA, kn, kc, e, hr⟩ := (hcs i.1 _ hx).inv
  rw [hd]
  exact ⟨sA, sn, sc, gA, gn, gc, kA, kn, kc, e, hr⟩
 have B5 := kbelow_push w4 (.cells #[.slice A4 n c4] 24)
 have hbox := heap_alloc_new w4 (.cells #[.slice A4 n c4] 24)
 have hrow5 : 0 < n → ∃ b off, A4 = some ⟨b, off, none⟩ ∧ ∀ i, i < n → ∀ j u, (cs i)[j]? = some u → (w4.alloc (.cells #[.slice A4 n c4] 24)).cell? ⟨b, off + (i * 4 + j), none⟩ = some u := fun hn => by
  obtain ⟨b, off, e, hb, hc⟩ := hrow hn
  exact ⟨b, off, e, fun i hi j u hu => (B5.cell (p := ⟨b, _, none⟩) hb).trans (hc i hi j u hu)⟩
 have HIT := Lib.hid (back_any (w := w4.alloc (.cells #[.slice A4 n c4] 24)) (by have := HN.out; omega) hbox hrow5 (fun i hi => by
  obtain ⟨sA, sn, sc, gA, gn, gc, kA, kn, kc, e, _⟩ := HEX.out ⟨i, hi⟩
  exact ⟨_, sA, sn, sc, gA, gn, gc, kA, kn, kc, e⟩))
 have hm := HM.out
 have hw45 : Below s.w.heap.size s.w (w4.alloc (.cells #[.slice A4 n c4] 24)) := by
  have h3 := HB4.out
  exact (hm.2.1.trans (h3.mono hm.2.1.size)).trans (B5.mono (Nat.le_trans hm.2.1.size h3.size))
 have hw35 : Below s.w.heap.size (inW s.w C.W #[.int .i64 x.kind, .slice sA sn sc, .slice gA gn gc, .slice A n c] (.func g #[] cap)) (w4.alloc (.cells #[.slice A4 n c4] 24)) := (HB4.out.mono hm.2.1.size).trans (B5.mono (Nat.le_trans hm.2.1.size HB4.out.size))
 have HJ0 : Hid (JoSt C s a (w4.alloc (.cells #[.slice A4 n c4] 24)).heap.size s.w.heap.size (s.w.heap.size + 1 + 1) t [] t { s with w := w4.alloc (.cells #[.slice A4 n c4] 24) }) := by
  obtain ⟨i5, st5⟩ := H.out.on hw45 a
  have h34 := HB4.out.size
  have h45 := B5.size
  have hsz3 := hm.1
  have e3 : ∀ b, b < s.w.heap.size + 3 → (w4.alloc (.cells #[.slice A4 n c4] 24)).heap[b]? = _ := fun b hb => (B5.block b (by omega)).trans (HB4.out.block b (by omega))
  have hgg := H.out.g
  refine ⟨i5, st5, rfl, ht, rfl, (e3 _ (by omega)).trans hm.2.2.1, ?_, fun hr => by have := (hgg.rlt _ hr).1; omega, fun b hr => .inl (by have := (hgg.rlt _ hr).1; omega), ⟨Nat.le_refl _, by omega, by omega, by omega, by omega⟩, rfl, rfl, rfl⟩
  rw [HV.out]
  exact (e3 _ (by omega)).trans hm.2.2.2
 have HXS : Hid (∀ i : Fin n, ((rwd C.back x.kids).getD i.1 zeroP).size ≤ x.size) := by
  intro i
  have hi : i.1 < (rwd C.back x.kids).length := by rw [hlk]; exact i.2
  have hmem : (rwd C.back x.kids).getD i.1 zeroP ∈ x.kids := by
   have h1 : (rwd C.back x.kids).getD i.1 zeroP ∈ rwd C.back x.kids := by
    simp [List.getD, List.getElem?_eq_getElem hi]
   generalize (rwd C.back x.kids).getD i.1 zeroP = z9 at h1 ⊢
   unfold rwd at h1
   split at h1
   ·exact List.mem_reverse.1 h1
   ·exact h1
  obtain ⟨j, hj⟩ := List.getElem?_of_mem hmem
  have := ptsSize_mem hj
  have := x.size_kids
  omega
 have HXX := Lib.hid hxs
 have HB5 := Lib.hid B5
 have HLK := Lib.hid hlk
 have HW45 := Lib.hid hw45
 clear HROW hrow hcs r1 r2 r3 B5 hbox hrow5 hm hw45 hw35 hxs hlk c0 c2 p0 p1 p2 p3 d1 d2 d3
 refine range_law (n := 0) (gf := 104) (lb := #[.pointer (some ⟨w4.heap.size, 0, none⟩)]) rfl enters_back HIT.out bits_book bmine_book (fun _ => rfl)
  (fun pre W => ∃ u sk, sk.w = W ∧ JoSt C s a (w4.alloc (.cells #[.slice A4 n c4] 24)).heap.size s.w.heap.size (s.w.heap.size + 1 + 1) t (revk (rwd C.back x.kids) pre) u sk) (fun _ _ => False)
  (fun pre A B h hb hk => ?ji) (fun _ _ _ h _ _ => h) ⟨t, _, rfl, HJ0.out⟩
  (fun i a' W' => ∃ bq, W'.heap[bq]? = some (.cells (cs i.1).toArray 26 (0, 0)) ∧ a' = { tmps := #[.pointer (some ⟨C.W, 0, none⟩), .agg #[.int .i64 x.kind, .slice sA sn sc, .slice gA gn gc, .slice A n c], .func g #[] cap, .pointer (some ⟨s.w.heap.size, 0, none⟩), .pointer (some ⟨s.w.heap.size + 1, 0, none⟩), .pointer (some ⟨s.w.heap.size + 1 + 1, 0, none⟩), .nilFunc, undef, .pointer (some ⟨bq, 0, none⟩), .pointer (some ⟨s.w.heap.size + 1, 0, none⟩), .int .i64 x.kind, .bool false, .bool false, undef, .bool false, .bool false, undef, undef, undef, undef, undef, .bool true, .bool true, .pointer (some ⟨C.W, 0, none⟩), .pointer (some ⟨s.w.heap.size + 1, 3, none⟩), .slice A n c, .slice A4 n c4, .func (.func 104) #[] #[.pointer (some ⟨w4.heap.size, 0, none⟩)], .int .i64 i.1, .agg (cs i.1).toArray, undef, undef, undef, undef, undef, undef, undef, undef, undef, undef, undef, undef, undef, undef, undef, undef, undef, undef], defers := [] })
  ?ax ?assign ?body ?done ?stop
 case ji =>
  obtain ⟨u, sk, rfl, hj⟩ := h
  exact ⟨u, _, rfl, hj.keeps H.out hb hk⟩
 case ax =>
  rintro i a' W' W'' ⟨bq, h1, h2⟩ hk
  exact ⟨bq, hk.2 _ _ h1 rfl, h2⟩
 case assign =>
  intro l pre i W K hi hK
  obtain ⟨zA, zn, zc, hA, hn', hc, kA, kn, kc, e, _⟩ := HEX.out i
  have HK9 := Lib.hid hK
  clear hi hK
  simp only [encK, e]
  gi_wp2_with fail
  refine HK9.out _ _ (kbelow_push W _) ⟨W.heap.size, ?_, ?_⟩
  ·rw [e]
   exact heap_alloc_new W _
  ·simp only [e]
   first | rfl | trace_state
 case body =>
  rintro l pre i a' W ⟨u, sk, rfl, hj⟩ ⟨bq, hbq, rfl⟩ hlen
  obtain ⟨zA, zn, zc, hA, hn', hc, kA, kn, kc, e, hpt⟩ := HEX.out i
  rw [e] at hbq
  simp only [e]
  obtain ⟨gu, cu, hu⟩ := u.val_func C.c
  obtain ⟨q0, q1, q2, q3⟩ := hcells4 (t := 26) hbq
  have b0 : sk.w.cell? ⟨s.w.heap.size, 0, none⟩ = some (.pointer (some ⟨C.W, 0, none⟩)) := by rw [cell_of_row _ _ _ _ _ _ hj.box]; rfl
  have b2 := hj.tbx.cell
  rw [hu] at b2
  have hmn : sk.mn ≤ 1000000000000 := by
   have h1 := hj.st.bud
   have h2 := HBUD.out
   have h3 := ptsSize_bound (l := revk (rwd C.back x.kids) pre) (M := x.size) (fun y hy => by
    unfold revk at hy
    rw [List.mem_reverse, List.mem_map] at hy
    obtain ⟨j, _, rfl⟩ := hy
    exact HXS.out j)
   have h4 : (revk (rwd C.back x.kids) pre).length ≤ 1000000 := by have := HN.out; simp [revk]; omega
   have h5 := Nat.mul_le_mul h4 HXX.out
   omega
  have HP := Lib.hid (part_any hj.inv hmn ((rwd C.back x.kids).getD i.1 zeroP).kind zA hA kA zn zc hn' hc kn kc gu cu)
  unfold onceV pb at HP
  have hpl := hj.inv.base_le
  have HPX : Hid (PatV C sk.w #[.int .i64 ((rwd C.back x.kids).getD i.1 zeroP).kind, .slice zA zn zc, .slice hA hn' hc, .slice kA kn kc] ((rwd C.back x.kids).getD i.1 zeroP)) := by
   refine ⟨_, _, _, _, _, _, _, _, _, rfl, hpt.keep (fun _ h => h) (fun p hp => ?_)⟩
   have h0 : w4.heap[p.block]? = s.w.heap[p.block]? := by
    have h1 := H.out.base_le
    have hlt : p.block < s.w.heap.size := Nat.lt_of_lt_of_le hp h1
    have h2 := HM.out.2.1
    exact (HB4.out.block _ (Nat.lt_of_lt_of_le hlt h2.size)).trans (h2.block _ hlt)
   exact World.cell?_of_block ((hj.st.bel.block _ hp).trans h0.symm)
  have HJ := Lib.hid hj
  have HU := Lib.hid hu
  clear hbq hpt hj hu hmn hlen hpl
  gi_wp2_with fail
  refine ⟨trivial, rfl, ?_⟩
  refine (CallsIn.inRound l (callsIn_wide.2 HP.out)).mono ?_
  rintro en w9 ⟨rfl, hm9⟩
  have hk9 : TB w9 (s.w.heap.size + 1 + 1) (.func gu #[] cu) := by
   have hj := HJ.out
   have htl : s.w.heap.size + 1 + 1 < sk.w.heap.size := (Array.getElem?_eq_some_iff.1 hj.tbx).1
   have := (hm9.old _ htl (fun e1 => hj.nr (e1 ▸ hj.inv.g.rm.1))).trans hj.tbx
   rw [HU.out] at this
   exact this
  have kc9 := hk9.cell
  have kf9 := hk9.fr
  have HFIN : Hid (PostR bits (fun pre W => ∃ u sk, sk.w = W ∧ JoSt C s a (w4.alloc (.cells #[.slice A4 n c4] 24)).heap.size s.w.heap.size (s.w.heap.size + 1 + 1) t (revk (rwd C.back x.kids) pre) u sk) (fun _ _ => False) (pre ++ [i]) sk.w .normal { tmps := #[], defers := [] } (w9.setCell ⟨s.w.heap.size + 1 + 1, 0, none⟩ ((Tl.part sk.w.heap.size ((rwd C.back x.kids).getD i.1 zeroP) u).val C.c))) := by
   have hj := HJ.out
   have hm := hm9
   rw [← HU.out] at hm
   have hnx := hj.next H.out (Below.refl _ _) rfl hm HPX.out
   refine ⟨⟨by have := hm.size; simp; omega, fun k o hk ho => ?_⟩, ⟨_, _, rfl, by rw [revk_snoc]; exact hnx⟩⟩
   have hkl : k < sk.w.heap.size := (Array.getElem?_eq_some_iff.1 hk).1
   have hkW : k ≠ C.W := fun e1 => by
    subst e1
    rw [hj.inv.st.wk] at hk
    injection hk with hk
    subst hk
    simp [bits, book, isSl] at ho
   have hkt : k ≠ s.w.heap.size + 1 + 1 := fun e1 => by
    subst e1
    have h1 := hj.tbx
    rw [HU.out] at h1
    unfold TB at h1
    rw [h1] at hk
    injection hk with hk
    subst hk
    simp [bits, book, isFn] at ho
   exact (Below.heap_setCell _ _ _ _ hkt).trans ((hm.old k hkl hkW).trans hk)
  clear hm9 hk9 q0 q1 q2 q3 b0 b2
  gi_wp2_with fail
  exact HFIN.out
 case done =>
  rintro D xs W hD hS ⟨u, sk, rfl, hj⟩ hK
  subst hS
  rw [revk_all HLK.out] at hj
  have hjk := hj.keeps H.out (below_put hD (Array.getElem?_eq_some_iff.1 hK).1 (.deferred none)) (Keeps.put hK rfl (.deferred none))
  have HK2 := Lib.hid hK
  obtain ⟨gu, cu, hu⟩ := u.val_func C.c
  have b2 := hj.tbx.cell
  rw [hu] at b2
  have HF : Hid (InsP C a s x t (.returned (.func gu #[] cu)) (sk.w.putObj D (.deferred none))) := by
   have hst := hjk.st
   have hsz : ptsSize (rwd C.back x.kids) = x.size - 1 := by
    have h1 := x.size_kids
    have h2 : ptsSize (rwd C.back x.kids) = ptsSize x.kids := by
     unfold rwd
     split
     ·have : ∀ l : List Pt, ptsSize l.reverse = ptsSize l := fun l => by
       induction l with
       | nil => rfl
       | cons z r ih => rw [List.reverse_cons, ptsSize_app, ih]; simp [ptsSize]; omega
      exact this _
     ·rfl
    omega
   rw [hsz] at hst
   exact ⟨.tl u, _, by rw [← hu]; rfl, rfl, hjk.inv, hst, .join u HK.out hjk.ex hjk.stk, hjk.inn, hjk.nx⟩
  clear hj hjk hK
  gi_wp2_with fail
  refine ⟨by simp, .inl ⟨_, _, rfl, run_takeDeferred HK2.out, ?_⟩⟩
  generalize sk.w.putObj D (.deferred none) = W3 at *
  exact ⟨.func gu #[] cu, by simp [results, Try.results73, go_sem], HF.out⟩
 case stop =>
  rintro D pre W hD _ hf hK
  exact hf.elim
end
end Go.Proofs.Ytpllgfhocedgmaa
namespace Go.Proofs.Ytpllgfhocedgmaa
open Go.RowKit Go.Shelf

def Tl.fn : Tl → FuncId
 | .top => 74
 | .part _ _ _ => 74
 | .more _ _ _ => 107
def Tl.cap (c : Nat) : Tl → Array Value
 | .top => #[pb (c + 1), pb c]
 | .part n _ _ => #[pb (n + 5), pb (n + 4)]
 | .more e _ _ => #[pb (e + 1), pb (e + 2)]
theorem Tl.val_eq (c : Nat) (t : Tl) : t.val c = .func (.func t.fn) #[] (t.cap c) := by cases t <;> rfl
theorem enters_once : ∀ args w, (callFunc 74 args).run Try.prog w = .ok (.enter 74 args) w := enters_of Try.func74 (by kernel_rfl) rfl
theorem enters_oft2 : ∀ args w, (callFunc 107 args).run Try.prog w = .ok (.enter 107 args) w := enters_of Try.func107 (by kernel_rfl) rfl
theorem enters_oft1 : ∀ args w, (callFunc 106 args).run Try.prog w = .ok (.enter 106 args) w := enters_of Try.func106 (by kernel_rfl) rfl
theorem enters_set1 : ∀ args w, (callFunc 103 args).run Try.prog w = .ok (.enter 103 args) w := enters_of Try.func103 (by kernel_rfl) rfl
theorem enters_eit1 : ∀ args w, (callFunc 105 args).run Try.prog w = .ok (.enter 105 args) w := enters_of Try.func105 (by kernel_rfl) rfl
theorem enters_ins1 : ∀ args w, (callFunc 90 args).run Try.prog w = .ok (.enter 90 args) w := enters_of Try.func90 (by kernel_rfl) rfl
theorem Tl.enters (t : Tl) : ∀ args w, (callFunc t.fn args).run Try.prog w = .ok (.enter t.fn args) w := by
 cases t with
 | top => exact enters_once
 | part n x t => exact enters_once
 | more e y t => exact enters_oft2
def Inn.fn : Inn → FuncId
 | .tl t => t.fn
 | .set _ => 103
 | .or _ _ => 105
 | .may _ _ _ => 106
 | .no => 90
def Inn.cap (c : Nat) : Inn → Array Value
 | .tl t => t.cap c
 | .set m => #[pb m, pb (m + 1), pb (m + 2)]
 | .or m _ => #[pb m]
 | .may a b _ => #[pb a, pb b]
 | .no => #[]
theorem Inn.val_eq (c : Nat) (u : Inn) : u.val c = .func (.func u.fn) #[] (u.cap c) := by
 cases u with
 | tl t => exact t.val_eq c
 | _ => rfl
theorem Inn.enters (u : Inn) : ∀ args w, (callFunc u.fn args).run Try.prog w = .ok (.enter u.fn args) w := by
 cases u with
 | tl t => exact t.enters
 | set m => exact enters_set1
 | or m ts => exact enters_eit1
 | may a b k => exact enters_oft1
 | no => exact enters_ins1
noncomputable def muS (a : Nat) (s : Sta) : Nat := unt s.w a s.G.ps + unb s.G.inn s.G.ps
def TelQ (C : Ctx) (a : Nat) (s : Sta) (t : Tl) (en : Ending) (w' : World) : Prop := en = .returned (.tuple #[]) ∧ ∃ s', s'.w = w' ∧ Inv C s' ∧ Step C a 0 s s' ∧ Cov C w' a t ∧ s'.nx.length + muS a s' ≤ s.nx.length + muS a s
section
variable {C : Ctx} {s s' : Sta} {a : Nat}
def PnOk (C : Ctx) (a : Nat) (s : Sta) : Prop := LB s.w (C.c + 1) a ∨ s.pl.length ≤ 1000000
theorem PnOk.step (h : PnOk C a s) (st : Step C a 0 s s') : PnOk C a s' := by
 rcases h with h | h
 ·exact .inl (st.told .top (.inl rfl) h)
 ·rcases st.pl with e | ⟨e, h1, h2, h3⟩
  ·exact .inr (by rw [e]; exact h)
  ·exact .inl h2
end
structure Can (C : Ctx) (a m : Nat) (s : Sta) : Prop where
 inv : Inv C s
 mu : unt s.w a s.G.ps + unb s.G.inn s.G.ps ≤ m
 bud : s.mn + unb s.G.inn s.G.ps ≤ 10000
 ln : s.nx.length + muS a s ≤ 100000
 pn : PnOk C a s
def Tells (C : Ctx) (a m : Nat) (t : Tl) : Prop := ∀ s, Can C a m s → Ex s.G t → Qs C t.stk a → Calls Try.prog t.fn (#[.int .i64 a] ++ t.cap C.c) s.w (TelQ C a s t)
section
variable {C : Ctx} {s s' : Sta} {a m : Nat}
theorem Can.step (h : Can C a m s) (hi : Inv C s') (st : Step C a 0 s s') (hl : s'.nx.length + muS a s' ≤ s.nx.length + muS a s) : Can C a m s' := ⟨hi, by have := st.mu; have := h.mu; omega, by have := st.bud; have := h.bud; omega, Nat.le_trans hl h.ln, h.pn.step st⟩
theorem Qs.emp {x : Pt} {κ : List Pt} (h : Qs C (x :: κ) a) (hk : x.kind = 1) : Qs C κ a := fun b hb => h b (.emp hk hb)
theorem Qs.join {x : Pt} {κ : List Pt} (h : Qs C (x :: κ) a) (hk : x.kind = 3) : Qs C (rwd C.back x.kids ++ κ) a := fun b hb => h b (.join hk hb)
theorem Qs.or {x y : Pt} {κ : List Pt} (h : Qs C (x :: κ) a) (hk : x.kind = 4) (hy : y ∈ x.kids) : Qs C (y :: κ) a := fun b hb => h b (.or hk hy hb)
theorem Qs.set {x : Pt} {κ : List Pt} {c : Nat} {z : Int} (h : Qs C (x :: κ) a) (hk : x.kind = 2) (hz : z ∈ x.signs) (hs : stp C.back C.l a z c) : Qs C κ c := fun b hb => h b (.set hk hz hs hb)
theorem Cov.step (hg : Good C s.w s.G) (st : Step C a 0 s s') {t : Tl} (he : Ex s.G t) (h : Cov C s.w a t) : Cov C s'.w a t := st.told t he h
theorem more_tells {e : Nat} {y : Pt} {t : Tl} (h1 : Tells C a m t) (h2 : Tells C a m (.kid e y t)) : Tells C a m (.more e y t) := by
 intro s hs he hq
 have hg := hs.inv.g
 have hm := hg.more e y t (he.resolve_left (by intro e; cases e))
 have q1 : Qs C t.stk a := fun b hb => hq b (.starN (y := y) rfl rfl hb)
 have q2 : Qs C (Tl.kid e y t).stk a := fun b hb => hq b (.starY (y := y) rfl rfl hb)
 have c1 := hm.h
 rw [t.val_eq] at c1
 have HC1 := Lib.hid (h1 s hs hm.ex q1)
 have eg1 := t.enters
 have eg2 := (Tl.kid e y t).enters
 have HM := Lib.hid hm
 have H2 : Hid (∀ s', Inv C s' → Step C a 0 s s' → s'.nx.length + muS a s' ≤ s.nx.length + muS a s → s'.w.cell? ⟨e + 2, 0, none⟩ = some (.func (.func (Tl.kid e y t).fn) #[] ((Tl.kid e y t).cap C.c)) ∧ Calls Try.prog (Tl.kid e y t).fn (#[.int .i64 a] ++ (Tl.kid e y t).cap C.c) s'.w (TelQ C a s' (.kid e y t))) := by
  intro s' hi st hl
  have hm' := hi.g.more e y t (st.ps _ (he.resolve_left (by intro e; cases e)))
  refine ⟨by rw [← Tl.val_eq]; exact hm'.k, h2 s' (hs.step hi st hl) (.inr hm'.kid) q2⟩
 have HE := Lib.hid hm.ex
 clear hm hg q1 q2 hq h1 h2
 generalize hf1 : t.fn = f1 at *
 generalize hf2 : (Tl.kid e y t).fn = f2 at *
 generalize hp1 : t.cap C.c = p1 at *
 generalize hp2 : (Tl.kid e y t).cap C.c = p2 at *
 simp only [Tl.fn, Tl.cap, pb, List.push_toArray, List.append_toArray, List.cons_append, List.nil_append]
 go_enter Try.func107, Try.ntmps107
 go_wp2_with fail
 refine HC1.out.mono ?_
 rintro en w1 ⟨rfl, s1, rfl, hi1, st1, cv1, ln1⟩
 obtain ⟨c2, hc2⟩ := H2.out s1 hi1 st1 ln1
 have HC2 := Lib.hid hc2
 have HS1 := Lib.hid (And.intro hi1 (And.intro st1 (And.intro cv1 ln1)))
 have HS := Lib.hid hs
 clear hc2 hi1 st1 cv1 ln1 hs c1
 go_wp2_with fail
 refine HC2.out.mono ?_
 rintro en w2 ⟨rfl, s2, rfl, hi2, st2, cv2, ln2⟩
 obtain ⟨hi1, st1, cv1, ln1⟩ := HS1.out
 have HF : Hid (TelQ C a s (.more e y t) (.returned (.tuple #[])) s2.w) := ⟨rfl, s2, rfl, hi2, st1.trans st2 hi1.g, ⟨st2.told _ (st1.ex HE.out) cv1, cv2⟩, Nat.le_trans ln2 ln1⟩
 clear hi1 st1 cv1 hi2 st2 cv2 ln1 ln2
 go_wp2_with fail
 go_end0
 exact HF.out
end
end Go.Proofs.Ytpllgfhocedgmaa
namespace Go.Proofs.Ytpllgfhocedgmaa
open Go.RowKit Go.Shelf

def InnQ (C : Ctx) (a j : Nat) (s : Sta) (x : Pt) (t : Tl) (u : Inn) (en : Ending) (w' : World) : Prop := en = .returned (.tuple #[]) ∧ ∃ s', s'.w = w' ∧ Inv C s' ∧ Step C a 0 s s' ∧ CovI C w' s'.nx a x t u ∧ s'.nx.length + muS a s' ≤ s.nx.length + muS a s + j
section
variable {C : Ctx} {s s' : Sta} {a m : Nat}
theorem TelQ.inn {t u : Tl} {x : Pt} {en : Ending} {w' : World} (h : TelQ C a s u en w') : InnQ C a 1 s x t (.tl u) en w' := by
 obtain ⟨e, s', e2, hi, st, cv, ln⟩ := h
 exact ⟨e, s', e2, hi, st, cv, by omega⟩
theorem no_tells {x : Pt} {t : Tl} (h : Inv C s) : Calls Try.prog 90 #[.int .i64 a] s.w (InnQ C a 1 s x t .no) := by
 have HF : Hid (InnQ C a 1 s x t .no (.returned (.tuple #[])) s.w) := ⟨rfl, s, rfl, h, Step.refl _ _ _, trivial, by omega⟩
 go_enter Try.func90, Try.ntmps90
 go_wp2_with fail
 go_end0
 exact HF.out
theorem may_tells {x y : Pt} {t k : Tl} {ba bb : Nat} (h1 : Tells C a m t) (h2 : Tells C a m k) (hs : Can C a m s) (et : Ex s.G t) (ek : Ex s.G k) (q1 : Qs C t.stk a) (q2 : Qs C k.stk a) (hU : s.G.U bb) (c1 : s.w.cell? ⟨ba, 0, none⟩ = some (t.val C.c)) (c2 : ∀ s', Inv C s' → Step C a 0 s s' → s'.w.cell? ⟨bb, 0, none⟩ = some (k.val C.c)) :
  Calls Try.prog 106 #[.int .i64 a, pb ba, pb bb] s.w (InnQ C a 1 s x t (.may ba bb k)) := by
 rw [t.val_eq] at c1
 have HC1 := Lib.hid (h1 s hs et q1)
 have eg1 := t.enters
 have eg2 := k.enters
 have H2 : Hid (∀ s', Inv C s' → Step C a 0 s s' → s'.nx.length + muS a s' ≤ s.nx.length + muS a s → s'.w.cell? ⟨bb, 0, none⟩ = some (.func (.func k.fn) #[] (k.cap C.c)) ∧ Calls Try.prog k.fn (#[.int .i64 a] ++ k.cap C.c) s'.w (TelQ C a s' k)) := by
  intro s' hi st hl
  exact ⟨by rw [← Tl.val_eq]; exact c2 s' hi st, h2 s' (hs.step hi st hl) (st.ex ek) q2⟩
 have HE := Lib.hid et
 clear q1 q2 h1 h2 hs c2
 generalize hf1 : t.fn = f1 at *
 generalize hf2 : k.fn = f2 at *
 generalize hp1 : t.cap C.c = p1 at *
 generalize hp2 : k.cap C.c = p2 at *
 unfold pb
 go_enter Try.func106, Try.ntmps106
 go_wp2_with fail
 refine HC1.out.mono ?_
 rintro en w1 ⟨rfl, s1, rfl, hi1, st1, cv1, ln1⟩
 obtain ⟨c2, hc2⟩ := H2.out s1 hi1 st1 ln1
 have HC2 := Lib.hid hc2
 have HS1 := Lib.hid (And.intro hi1 (And.intro st1 (And.intro cv1 ln1)))
 clear hc2 hi1 st1 cv1 ln1 c1
 go_wp2_with fail
 refine HC2.out.mono ?_
 rintro en w2 ⟨rfl, s2, rfl, hi2, st2, cv2, ln2⟩
 obtain ⟨hi1, st1, cv1, ln1⟩ := HS1.out
 have HF : Hid (InnQ C a 1 s x t (.may ba bb k) (.returned (.tuple #[])) s2.w) := ⟨rfl, s2, rfl, hi2, st1.trans st2 hi1.g, ⟨st2.told _ (st1.ex HE.out) cv1, cv2⟩, by omega⟩
 clear hi1 st1 cv1 hi2 st2 cv2 ln1 ln2
 go_wp2_with fail
 go_end0
 exact HF.out
structure OrSt (C : Ctx) (s : Sta) (a : Nat) (ts : List Tl) (k : Nat) (sk : Sta) : Prop where
 inv : Inv C sk
 st : Step C a 0 s sk
 cov : ∀ u ∈ ts.take k, Cov C sk.w a u
 ln : sk.nx.length + muS a sk ≤ s.nx.length + muS a s
set_option maxHeartbeats 1000000 in
theorem or_tells {x : Pt} {t : Tl} {ts : List Tl} {bm : Nat} {A : Option Addr} {n c : Nat} (hT : ∀ u ∈ ts, Tells C a m u) (hs : Can C a m s) (he : ∀ u ∈ ts, Ex s.G u) (hq : ∀ u ∈ ts, Qs C u.stk a) (hn : ts.length = n) (hm : n ≤ maxLen)
  (c0 : s.w.cell? ⟨bm, 0, none⟩ = some (.slice A n c)) (hr : ∀ s', Inv C s' → Step C a 0 s s' → 0 < n → ∃ b, A = some ⟨b, 0, none⟩ ∧ ∀ (i : Nat) (u : Tl), ts[i]? = some u → s'.w.cell? ⟨b, i, none⟩ = some (u.val C.c)) :
  Calls Try.prog 105 #[.int .i64 a, pb bm] s.w (InnQ C a 1 s x t (.or bm ts)) := by
 have HT : Hid (∀ u ∈ ts, Tells C a m u) := hT
 have HS := Lib.hid hs
 have HE : Hid (∀ u ∈ ts, Ex s.G u) := he
 have HQ : Hid (∀ u ∈ ts, Qs C u.stk a) := hq
 have HR := Lib.hid hr
 have HN := Lib.hid hn
 unfold maxLen at hm
 have HM := Lib.hid hm
 clear hT hs he hq hr hn hm
 unfold pb
 go_enter Try.func105, Try.ntmps105
 go_wp2_with fail
 go_loopw [7] (fun iv wx => ∃ (k : Nat) (sk : Sta), k ≤ n ∧ iv = .int .i64 k ∧ sk.w = wx ∧ OrSt C s a ts k sk) (fun iv _ => n - (intOf iv).toNat)
 case atStart => exact ⟨0, s, Nat.zero_le _, rfl, rfl, HS.out.inv, Step.refl _ _ _, fun u hu => by simp at hu, Nat.le_refl _⟩
 case round =>
  obtain ⟨k, sk, hk, rfl, rfl, ho⟩ := hrel
  by_cases hlt : k < n
  ·obtain ⟨b, rfl, hc⟩ := HR.out sk ho.inv ho.st (by omega)
   have hkl : k < ts.length := by have := HN.out; omega
   have hu := List.getElem?_eq_getElem hkl
   have hmem : ts[k] ∈ ts := List.getElem_mem _
   have c1 := hc k _ hu
   rw [Tl.val_eq] at c1
   have HC := Lib.hid (HT.out _ hmem sk (HS.out.step ho.inv ho.st ho.ln) (ho.st.ex (HE.out _ hmem)) (HQ.out _ hmem))
   have eg := ts[k].enters
   have hz0 : (0 : Int) ≤ (k : Int) := by omega
   have hz1 : (k : Int) < (n : Int) := by omega
   have hzk : IntKind.i64.wrap ((k : Int) + 1) = (k : Int) + 1 := IntWalk.i64_in _ (by have := HM.out; omega)
   have HO := Lib.hid ho
   have HK := Lib.hid (And.intro hlt (And.intro hu hkl))
   have HEX := Lib.hid hmem
   clear hc hu ho hmem
   generalize hf : ts[k].fn = f1 at *
   generalize hp : ts[k].cap C.c = p1 at *
   clear hf hp
   go_wp2_with fail
   refine HC.out.mono ?_
   rintro en w1 ⟨rfl, s1, rfl, hi1, st1, cv1, ln1⟩
   have HN1 : Hid (OrSt C s a ts (k + 1) s1) := by
    have ho := HO.out
    refine ⟨hi1, ho.st.trans st1 ho.inv.g, fun u hu => ?_, Nat.le_trans ln1 ho.ln⟩
    rw [List.take_add_one, HK.out.2.1] at hu
    rcases List.mem_append.1 hu with h1 | h1
    ·exact st1.told _ (ho.st.ex (HE.out _ (List.mem_of_mem_take h1))) (ho.cov _ h1)
    ·simp at h1; subst h1; exact cv1
   clear hi1 st1 cv1 ln1 c1
   go_wp2_with fail
   go_roundw
   case rel => exact ⟨k + 1, s1, by have := HK.out; omega, by go_num, rfl, HN1.out⟩
   case measure => have := HK.out; simp [intOf]; omega
  ·have HF : Hid (InnQ C a 1 s x t (.or bm ts) (.returned (.tuple #[])) sk.w) := ⟨rfl, sk, rfl, ho.inv, ho.st, fun u hu => ho.cov u (by rw [List.take_of_length_le (by have := HN.out; omega)]; exact hu), by have := ho.ln; omega⟩
   clear ho
   go_wp2_with fail
   go_end0
   exact HF.out
end
end Go.Proofs.Ytpllgfhocedgmaa
namespace Go.Proofs.Ytpllgfhocedgmaa
open Go.RowKit Go.Shelf

def SetS (W bm : Nat) (nv tv : Value) (w' : World) : Prop := w'.cell? ⟨bm, 0, none⟩ = some (.pointer (some ⟨W, 0, none⟩)) ∧ w'.cell? ⟨W, 2, none⟩ = some nv ∧ w'.cell? ⟨bm + 2, 0, none⟩ = some tv
section
variable {C : Ctx} {s s' : Sta} {a m : Nat}
set_option maxHeartbeats 4000000 in
theorem set_tells {x : Pt} {t : Tl} {bm : Nat} {A : Option Addr} {n c : Nat} (hs : Can C a m s) (et : Ex s.G t) (ha : a ≤ C.l.length) (hk : x.kind = 2) (hq : Qs C (x :: t.stk) a) (hU : s.G.U bm ∧ s.G.U (bm + 2)) (c0 : s.w.cell? ⟨bm, 0, none⟩ = some (pb C.W)) (c1 : s.w.cell? ⟨bm + 1, 0, none⟩ = some (.slice A n c)) (hL : InAt s.w (fun b => b < C.base) A n c x.signs) (c2 : s.w.cell? ⟨bm + 2, 0, none⟩ = some (t.val C.c)) :
  Calls Try.prog 103 #[.int .i64 a, pb bm, pb (bm + 1), pb (bm + 2)] s.w (InnQ C a 1 s x t (.set bm)) := by
 obtain ⟨g, cap, hv⟩ := t.val_func C.c
 have h := hs.inv
 have HME := Lib.hid (meets_any h hL a ha)
 unfold pb at HME c0 ⊢
 cases hmt : metF C.back C.l x.signs a with
 | false =>
  have HF : Hid (InnQ C a 1 s x t (.set bm) (.returned (.tuple #[])) s.w) := ⟨rfl, s, rfl, h, Step.refl _ _ _, fun z d hz hst => absurd hst (met_none hmt z d hz), by omega⟩
  rw [hmt] at HME
  clear hq hL h hv c2 hU
  go_enter Try.func103, Try.ntmps103
  go_wp2_with fail
  refine HME.out.mono ?_
  rintro en w' ⟨rfl, rfl⟩
  go_wp2_with fail
  go_end0
  exact HF.out
 | true =>
  rw [hmt] at HME
  obtain ⟨z, hz, hsg⟩ := met_some hmt
  have hst : stp C.back C.l a z (nextF C.back a) := stp_iff.2 ⟨hsg, rfl⟩
  have hq' : Qs C t.stk (nextF C.back a) := hq.set hk hz hst
  have HCV : Hid (∀ s' : Sta, t ∈ s'.nx → CovI C s'.w s'.nx a x t (.set bm)) := fun s' h1 z' d hz' hs' => h1
  rw [hv] at c2
  obtain ⟨k0, k1, k2, k3⟩ := hcells4 h.st.wk
  have hnxl : s.nx.length ≤ 1000000 := by have := hs.ln; omega
  have hW := (h.g.rlt _ h.g.rm.1).1
  have hbl := h.base_le
  have HV := Lib.hid hv
  have H := Lib.hid h
  have HST := Lib.hid (And.intro hst (And.intro hq' et))
  have HU2 := Lib.hid hU
  clear hq hL hst hq' et hv hs hz hsg hmt hU h
  go_enter Try.func103, Try.ntmps103
  go_wp2_with fail
  refine HME.out.mono ?_
  rintro en w' ⟨rfl, rfl⟩
  clear HME
  go_upto_region 1 with fail
  obtain ⟨i0, hi0, hz0, hz1, hz2⟩ := info_k info_tell
  have SS : SetS C.W bm s.nv (.func g #[] cap) s.w.drew := ⟨c0, k2, c2⟩
  have HSS := Lib.hid SS
  refine region_plain (SetS C.W bm s.nv (.func g #[] cap)) 10 11 (by kernel_rfl) rfl ?_
  refine Z_takeW 0 (v := .pointer (some ⟨C.W, 0, none⟩)) rfl (by kernel_rfl) (by kernel_rfl) (by kernel_rfl) (by kernel_rfl) (fun _ _ _ h => h) SS rfl (fun w' hS => ?_) ?_
  ·obtain ⟨s0, s1, s2⟩ := hS; go_simp
  refine Z_takeW 1 (v := .pointer (some ⟨C.W, 0, none⟩)) rfl (by kernel_rfl) (by kernel_rfl) (by kernel_rfl) (by kernel_rfl) (fun _ _ _ h => h) SS rfl (fun w' hS => ?_) ?_
  ·obtain ⟨s0, s1, s2⟩ := hS; go_simp
  refine Z_takeW 2 (v := .pointer (some ⟨C.W, 0, none⟩)) rfl (by kernel_rfl) (by kernel_rfl) (by kernel_rfl) (by kernel_rfl) (fun _ _ _ h => h) SS rfl (fun w' hS => ?_) ?_
  ·obtain ⟨s0, s1, s2⟩ := hS; go_simp
  refine Z_takeW 3 (v := .pointer (some ⟨C.W, 2, none⟩)) rfl (by kernel_rfl) (by kernel_rfl) (by kernel_rfl) (by kernel_rfl) (fun _ _ _ h => h) SS rfl (fun w' hS => ?_) ?_
  ·obtain ⟨s0, s1, s2⟩ := hS; go_simp
  refine Z_takeW 4 (v := s.nv) rfl (by kernel_rfl) (by kernel_rfl) (by kernel_rfl) (by kernel_rfl) (fun _ _ _ h => h) SS rfl (fun w' hS => ?_) ?_
  ·obtain ⟨s0, s1, s2⟩ := hS; go_simp
  refine Z_takeW 5 (v := .func g #[] cap) rfl (by kernel_rfl) (by kernel_rfl) (by kernel_rfl) (by kernel_rfl) (fun _ _ _ h => h) SS rfl (fun w' hS => ?_) ?_
  ·obtain ⟨s0, s1, s2⟩ := hS; go_simp
  refine Z_one 6 rfl (by kernel_rfl) rfl ?_
  go_simp
  generalize hW3 : (s.w.alloc (.cells #[.func g #[] cap] 111)).drew = w3
  have hB3 : Below s.w.heap.size s.w w3 := by rw [← hW3]; exact (kbelow_push s.w _).drew
  have hN3 : w3.heap[s.w.heap.size]? = some (.cells #[.func g #[] cap] 111 (0, 0)) := by rw [← hW3]; exact heap_alloc_new s.w _
  clear hW3
  obtain ⟨i3, st3⟩ := H.out.on hB3 a
  have hlb : bm < s.w.heap.size := klt_of_cell c0
  have hlb2 : bm + 2 < s.w.heap.size := klt_of_cell c2
  have HS3 : Hid (SetS C.W bm s.nv (.func g #[] cap) w3) := ⟨(hB3.cell (p := ⟨bm, 0, none⟩) hlb).trans c0, (hB3.cell (p := ⟨C.W, 2, none⟩) hW).trans k2, (hB3.cell (p := ⟨bm + 2, 0, none⟩) hlb2).trans c2⟩
  refine ⟨HS3.out, ?_⟩
  refine Z_one 7 rfl (by kernel_rfl) rfl ?_
  refine app_v (.tmp 13) (.tmp 15) 64 rfl C.base 111 (z := .nilFunc) (bytes := 8) Try.underlying64 info_tell rfl (by decide) s.nv s.nx.length (s.nx.map (Tl.val C.c)) rfl i3.st.nr s.w.heap.size (.func g #[] cap) 111 rfl hN3 rfl hnxl i3.base_le ?_
  intro v' w4 hown hgr hat
  have hown' : w4.ownsRow C.base 111 1 v' (s.nx.length + 1) (s.nx.map (Tl.val C.c) ++ [t.val C.c]) := by rw [HV.out]; exact hown
  obtain ⟨i5, st5⟩ := i3.note HST.out.2.2 hown' hgr hat HST.out.1 HST.out.2.1
  have hgg := H.out.g
  have hR4 : ∀ b, s.G.R b → w4.heap[b]? = w3.heap[b]? := fun b hb => hgr.block b (i3.g.rlt b hb).1 (fun e => i3.st.nn b e.symm hb)
  have hkW := (hR4 _ hgg.rm.1).trans i3.st.wk
  have c54 : w4.cell? ⟨C.W, 2, none⟩ = some s.nv := (hcells4 hkW).2.2.1
  have f54 : w4.frozen? ⟨C.W, 2, none⟩ = false := frozen_of_row _ _ _ _ _ hkW
  have HS4 : Hid (SetS C.W bm s.nv (.func g #[] cap) w4) := ⟨(cell_eq (hR4 _ (hgg.ur _ HU2.out.1))).trans HS3.out.1, c54, (cell_eq (hR4 _ (hgg.ur _ HU2.out.2))).trans HS3.out.2.2⟩
  have HF : Hid (InnQ C a 1 s x t (.set bm) (.returned (.tuple #[])) (w4.setCell ⟨C.W, 2, none⟩ v')) := by
   have stt := st3.trans st5 i3.g
   refine ⟨rfl, _, rfl, i5, stt, HCV.out _ (List.mem_append_right _ List.mem_cons_self), ?_⟩
   have hmu := stt.mu
   show (s.nx ++ [t]).length + muS a _ ≤ s.nx.length + muS a s + 1
   have h1 : muS a (⟨w4.setCell ⟨C.W, 2, none⟩ v', s.G, v', s.pv, s.nx ++ [t], s.pl, s.mn⟩ : Sta) ≤ muS a s := hmu
   simp only [List.length_append, List.length_cons, List.length_nil]
   omega
  obtain ⟨gq, capq, hgv⟩ : ∃ A4 c4, v' = .slice A4 (s.nx.length + 1) c4 := by
   rcases hown.2 with ⟨e, h0⟩ | ⟨gg, cp, cur, e, _⟩
   ·omega
   ·exact ⟨_, _, e⟩
  subst hgv
  clear hown hown' hgr hat hR4 hkW i5 st5 i3 st3 hN3 hB3 SS HSS k0 k1 k2 k3 c0 c1 c2
  refine ⟨fun _ => HS4.out, ?_⟩
  refine Z_one 8 rfl (by kernel_rfl) rfl ?_
  go_simp
  refine ⟨HS4.out, ?_⟩
  refine Z_one 9 rfl (by kernel_rfl) rfl ?_
  go_simp
  refine ⟨HS4.out, ?_⟩
  refine Z_one 10 rfl (by kernel_rfl) rfl ?_
  go_simp
  refine Z_done (by kernel_rfl) ?_
  unfold OnlyN
  simp only []
  go_wp2_with fail
  first | exact bodyPost_ret (v := .tuple #[]) (by simp [results, Try.results103, go_sem]) rfl HF.out | (go_end0; exact HF.out)
end
end Go.Proofs.Ytpllgfhocedgmaa
namespace Go.Proofs.Ytpllgfhocedgmaa
open Go.RowKit Go.Shelf

theorem sum_mem {f : Tl → Nat} : ∀ {l : List Tl} {t : Tl}, t ∈ l → f t ≤ (l.map f).sum
 | z :: r, t, h => by
  simp only [List.map_cons, List.sum_cons]
  rcases List.mem_cons.1 h with rfl | h
  ·omega
  ·have := sum_mem (f := f) h; omega
theorem eqIn_nilF (w : World) (d : Nat) : (Op.equalIn (d + 1) 111 .nilFunc .nilFunc).run Try.prog w = .ok true w := by
 simp [Op.equalIn, run_underlying Try.underlying111]
theorem eqIn_func (w : World) (d : Nat) (f : Fn) (fs cap : Array Value) : (Op.equalIn (d + 1) 111 (.func f fs cap) .nilFunc).run Try.prog w = .ok false w := by
 simp [Op.equalIn, run_underlying Try.underlying111]
theorem eql_nilF (w : World) : (binOp .eql 111 .nilFunc .nilFunc).run Try.prog w = .ok (.bool true) w := by
 have h1 : (Op.equal 111 .nilFunc .nilFunc).run Try.prog w = .ok true w := eqIn_nilF w 9999
 simp [binOp, h1]
theorem eql_func (w : World) (f : Fn) (fs cap : Array Value) : (binOp .eql 111 (.func f fs cap) .nilFunc).run Try.prog w = .ok (.bool false) w := by
 have h1 : (Op.equal 111 (.func f fs cap) .nilFunc).run Try.prog w = .ok false w := eqIn_func w 9999 f fs cap
 simp [binOp, h1]
section
variable {C : Ctx} {s s' : Sta} {a m : Nat}
theorem inn_tells {n : Nat} {x : Pt} {t : Tl} {u : Inn} (hT : ∀ u, Tells C a m u) (hs : Can C a m s) (hp : .part n x t ∈ s.G.ps) (hi : s.G.inn n = some u) (ha : a ≤ C.l.length) (hq : Qs C (x :: t.stk) a) :
  Calls Try.prog u.fn (#[.int .i64 a] ++ u.cap C.c) s.w (InnQ C a 1 s x t u) := by
 have hpk := hs.inv.g.part n x t hp
 have ho := hpk.inn u hi
 have het := hpk.ex
 cases ho with
 | emp hk => exact (hT t s hs het (hq.emp hk)).mono fun _ _ h => h.inn
 | set bm hk hu h0 h1 h2 =>
  obtain ⟨A, n', c, h3, h4⟩ := h1
  have := set_tells hs het ha hk hq ⟨hu.1, hu.2.2⟩ h0 h3 h4 h2
  simp only [Inn.fn, Inn.cap, List.push_toArray, List.append_toArray, List.cons_append, List.nil_append]
  exact this
 | join u hk he hst => exact (hT u s hs he (by rw [hst]; exact hq.join hk)).mono fun _ _ h => h.inn
 | or bm ts A n' c hk hu h0 hn hc hm hA he hst =>
  have := or_tells (x := x) (t := t) (fun u _ => hT u) hs he (fun u hu' => by
   have h1 : u.stk ∈ ts.map Tl.stk := List.mem_map_of_mem hu'
   rw [hst, List.mem_map] at h1
   obtain ⟨y, hy, e⟩ := h1
   rw [← e]
   exact hq.or hk hy) hn (Nat.le_trans hc hm) h0 (fun s' _ st hn0 => by
   obtain ⟨b, e, hb, hcell⟩ := hA hn0
   exact ⟨b, e, fun i u hu' => (cell_eq (st.uk b hb)).trans (hcell i u hu')⟩)
  simp only [Inn.fn, Inn.cap, List.push_toArray, List.append_toArray, List.cons_append, List.nil_append]
  exact this
 | star e y hk hy he => exact (hT _ s hs he (fun b hb => by
   refine hq b ?_
   cases hb with
   | starN _ hy' h => exact .starN hk hy h
   | starY hk' hy' h =>
    obtain rfl := (List.cons.inj hy').1
    exact .starY hk hy h
   | emp hk' | set hk' | join hk' | or hk' | plus hk' | mayN hk' | mayY hk' => cases hk')).mono fun _ _ h => h.inn
 | plus e y hk hy he => exact (hT _ s hs (.inr (hs.inv.g.more e y t (he.resolve_left (by intro e; cases e))).kid) (fun b hb => hq b (.plus hk hy hb))).mono fun _ _ h => h.inn
 | may ba bb k y hk hy hu h0 h1 he hst =>
  have := may_tells (x := x) (y := y) (hT t) (hT k) hs het he (fun b hb => hq b (.mayN hk hy hb)) (by rw [hst]; exact fun b hb => hq b (.mayY hk hy hb)) hu.2 h0 (fun s' _ st => (cell_eq (st.uk bb hu.2)).trans h1)
  simp only [Inn.fn, Inn.cap, List.push_toArray, List.append_toArray, List.cons_append, List.nil_append]
  exact this
 | no hk =>
  have := no_tells (x := x) (t := t) (a := a) hs.inv
  simp only [Inn.fn, Inn.cap, List.push_toArray, List.append_toArray, List.cons_append, List.nil_append]
  exact this
theorem inside_any (h : Inv C s) {x : Pt} {sA gA A : Option Addr} {sn sc gn gc n c : Nat} (hx : PtIn s.w (fun b => b < C.base) sA sn sc gA gn gc A n c x) (hbud : s.mn + unb s.G.inn s.G.ps + x.size ≤ 1000000) (hxs : x.size ≤ 100000) {t : Tl} (ht : Ex s.G t) (a : Nat) :
  Calls Try.prog 73 #[pb C.W, .agg #[.int .i64 x.kind, .slice sA sn sc, .slice gA gn gc, .slice A n c], t.val C.c] s.w (InsP C a s x t) := by
 by_cases hk : x.kind = 3
 ·exact inside_join h hk hx hbud hxs ht a
 ·exact inside_not3 h hk hx hbud ht a
def ParQ (C : Ctx) (a : Nat) (s : Sta) (n : Nat) (x : Pt) (t : Tl) (en : Ending) (w' : World) : Prop := en = .returned (.tuple #[]) ∧ ∃ s', s'.w = w' ∧ Inv C s' ∧ Step C a 0 s s' ∧ Comp C w' s'.G s'.nx a n x t ∧ s'.nx.length + muS a s' ≤ s.nx.length + muS a s + 1
theorem InnQ.par {n : Nat} {x : Pt} {t : Tl} {u : Inn} {s3 : Sta} {en : Ending} {w' : World} (h3 : Inv C s3) (st3 : Step C a 0 s s3) (hl3 : s3.nx.length + muS a s3 ≤ s.nx.length + muS a s) (hi : s3.G.inn n = some u) (h : InnQ C a 1 s3 x t u en w') : ParQ C a s n x t en w' := by
 obtain ⟨e, s', e2, hi', st, cv, ln⟩ := h
 exact ⟨e, s', e2, hi', st3.trans st h3.g, ⟨u, st.inn n u hi, cv⟩, by omega⟩
set_option maxHeartbeats 2000000 in
theorem part_tells {n : Nat} {x : Pt} {t : Tl} (hT : ∀ u, Tells C a m u) (hs : Can C a m s) (hp : .part n x t ∈ s.G.ps) (ha : a ≤ C.l.length) (hq : Qs C (x :: t.stk) a) :
  Calls Try.prog 72 #[.int .i64 a, pb n, pb (n + 3), pb (n + 1), pb (n + 2)] s.w (ParQ C a s n x t) := by
 have h := hs.inv
 have hpk := h.g.part n x t hp
 obtain ⟨sA, sn, sc, gA, gn, gc, A, kn, kc, hpc, hpt⟩ := hpk.p
 obtain ⟨p0, p1, p2, p3⟩ := hcells4 hpc
 obtain ⟨k0, k1, k2, k3⟩ := hcells4 h.st.wk
 have c0 := hpk.w0
 have c2 := hpk.h
 have cI := hpk.i
 obtain ⟨g, cap, hv⟩ := t.val_func C.c
 have hmn : ¬ (10000 : Int) < (s.mn : Int) := by have := hs.bud; omega
 have hmd : decide ((10000 : Int) < (s.mn : Int)) = false := decide_eq_false hmn
 have en1 := eql_nilF
 have en2 := eql_func
 cases hi : s.G.inn n with
 | some u =>
  rw [hi] at cI
  have cu : s.w.cell? ⟨n + 3, 0, none⟩ = some (.func (.func u.fn) #[] (u.cap C.c)) := by rw [← Inn.val_eq]; exact cI.cell
  have HC := Lib.hid ((inn_tells hT hs hp hi ha hq).mono fun en w' hh => InnQ.par (n := n) h (Step.refl C a s) (Nat.le_refl _) hi hh)
  have eg := u.enters
  clear hpt hpk hT hs hp hq h hpc hv cI c2 hi p0 p1 p2 p3
  generalize hf : u.fn = f1 at *
  generalize hc : u.cap C.c = p9 at *
  clear hf hc
  unfold pb at c0 ⊢
  go_enter Try.func72, Try.ntmps72
  go_wp2_with fail
  refine HC.out.mono ?_
  rintro en w1 hh
  obtain ⟨rfl, hrest⟩ := hh
  have HF : Hid (ParQ C a s n x t (.returned (.tuple #[])) w1) := ⟨rfl, hrest⟩
  clear hrest
  go_wp2_with fail
  go_end0
  exact HF.out
 | none =>
  rw [hi] at cI
  have cu : s.w.cell? ⟨n + 3, 0, none⟩ = some .nilFunc := cI.cell
  have hxu : x.size - 1 ≤ unb s.G.inn s.G.ps := by
   have := sum_mem (f := unb1 s.G.inn) hp
   simp only [unb1, hi, Option.isNone_none, if_true] at this
   exact this
  have HIN := Lib.hid (inside_any h hpt (by have := hs.bud; omega) (by have := hs.bud; omega) hpk.ex a)
  rw [hv] at HIN c2
  have HNX : Hid (∀ (w2 : World) (u : Inn) (s2 : Sta), s2.w = w2 → Inv C s2 → Step C a (x.size - 1) s s2 → InnOk C w2 s2.G x t u → s2.G.inn = s.G.inn → s2.nx = s.nx → TB w2 (n + 3) .nilFunc ∧ (w2.setCell ⟨n + 3, 0, none⟩ (.func (.func u.fn) #[] (u.cap C.c))).cell? ⟨n + 3, 0, none⟩ = some (.func (.func u.fn) #[] (u.cap C.c)) ∧ Calls Try.prog u.fn (#[.int .i64 a] ++ u.cap C.c) (w2.setCell ⟨n + 3, 0, none⟩ (.func (.func u.fn) #[] (u.cap C.c))) (ParQ C a s n x t)) := by
   intro w2 u s2 e2 hi2 st2 ho hin hnx
   subst e2
   have hp2 := st2.ps _ hp
   have hn2 : s2.G.inn n = none := by rw [hin]; exact hi
   obtain ⟨i3, st3, hub, hut⟩ := hi2.build hp2 hn2 ho a
   have hI2 := (hi2.g.part n x t hp2).i
   rw [hn2] at hI2
   rw [Inn.val_eq] at i3 st3 hut
   have stt := st2.trans st3 hi2.g
   have hb2 := st2.bud
   have hm2 := st2.mu
   have stz : Step C a 0 s ⟨s2.w.setCell ⟨n + 3, 0, none⟩ (.func (.func u.fn) #[] (u.cap C.c)), s2.G.lay n u, s2.nv, s2.pv, s2.nx, s2.pl, s2.mn⟩ := ⟨stt.ps, stt.inn, stt.rr, stt.fr, stt.told, stt.new, stt.nx, stt.nq, stt.pl, stt.tp, by
    show s2.mn + unb (s2.G.lay n u).inn s2.G.ps ≤ s.mn + unb s.G.inn s.G.ps + 0
    have hub' : unb (s2.G.lay n u).inn s2.G.ps + (x.size - 1) ≤ unb s2.G.inn s2.G.ps := hub
    omega, by
    show unt (s2.w.setCell ⟨n + 3, 0, none⟩ (.func (.func u.fn) #[] (u.cap C.c))) a s2.G.ps + unb (s2.G.lay n u).inn s2.G.ps ≤ unt s.w a s.G.ps + unb s.G.inn s.G.ps + 0
    have hub' : unb (s2.G.lay n u).inn s2.G.ps + (x.size - 1) ≤ unb s2.G.inn s2.G.ps := hub
    have hut' : unt (s2.w.setCell ⟨n + 3, 0, none⟩ (.func (.func u.fn) #[] (u.cap C.c))) a s2.G.ps ≤ unt s2.w a s2.G.ps := hut
    omega, stt.keep, stt.nvb, stt.pvb, stt.bel, stt.uu, stt.uk, stt.lv, stt.lt⟩
   have hl3 : s2.nx.length + muS a ⟨s2.w.setCell ⟨n + 3, 0, none⟩ (.func (.func u.fn) #[] (u.cap C.c)), s2.G.lay n u, s2.nv, s2.pv, s2.nx, s2.pl, s2.mn⟩ ≤ s.nx.length + muS a s := by
    have := stz.mu
    have e : s2.nx.length = s.nx.length := by rw [hnx]
    show s2.nx.length + (unt (s2.w.setCell ⟨n + 3, 0, none⟩ (.func (.func u.fn) #[] (u.cap C.c))) a s2.G.ps + unb (s2.G.lay n u).inn s2.G.ps) ≤ s.nx.length + (unt s.w a s.G.ps + unb s.G.inn s.G.ps)
    have h9 : unt (s2.w.setCell ⟨n + 3, 0, none⟩ (.func (.func u.fn) #[] (u.cap C.c))) a s2.G.ps + unb (s2.G.lay n u).inn s2.G.ps ≤ unt s.w a s.G.ps + unb s.G.inn s.G.ps + 0 := this
    omega
   have hin3 : (s2.G.lay n u).inn n = some u := by simp [Gh.lay]
   have hc := (inn_tells hT (hs.step i3 stz hl3) hp2 hin3 ha hq).mono fun en w' hh => InnQ.par (n := n) i3 stz hl3 hin3 hh
   exact ⟨hI2, cell_set hI2.cell _, hc⟩
  clear hpt hpk hT hs hp hq h hpc hv cI hi hxu
  unfold pb at c0 HIN ⊢
  go_enter Try.func72, Try.ntmps72
  go_wp2_with fail
  refine HIN.out.mono ?_
  rintro en w2 ⟨u, s2, rfl, e2, hi2, st2, ho, hin, hnx⟩
  obtain ⟨b1, b2, hcall⟩ := HNX.out w2 u s2 e2 hi2 st2 ho hin hnx
  have HC := Lib.hid hcall
  have eg := u.enters
  have b3 := b1.cell
  have b4 := b1.fr
  clear hi2 st2 ho hin hnx hcall b1 e2
  rw [Inn.val_eq]
  generalize hf : u.fn = f1 at *
  generalize hc : u.cap C.c = p9 at *
  clear hf hc
  go_wp2_with fail
  refine HC.out.mono ?_
  rintro en w3 hh
  obtain ⟨rfl, hrest⟩ := hh
  have HF : Hid (ParQ C a s n x t (.returned (.tuple #[])) w3) := ⟨rfl, hrest⟩
  clear hrest
  go_wp2_with fail
  go_end0
  exact HF.out
end
end Go.Proofs.Ytpllgfhocedgmaa
namespace Go.Proofs.Ytpllgfhocedgmaa
open Go.RowKit Go.Shelf

section
variable {C : Ctx} {s s' : Sta} {a m : Nat}
theorem once_part {n : Nat} {x : Pt} {t : Tl} (ha : a ≤ C.l.length) (ih : ∀ m', m' < m → ∀ u, Tells C a m' u) : Tells C a m (.part n x t) := by
 intro s hs he hq
 have hp : Tl.part n x t ∈ s.G.ps := he.resolve_left (by intro e; cases e)
 have hq' : Qs C (x :: t.stk) a := hq
 have h := hs.inv
 have hpk := h.g.part n x t hp
 have cO := hpk.o
 simp only [Tl.fn, Tl.cap, pb, List.push_toArray, List.append_toArray, List.cons_append, List.nil_append]
 by_cases hl : LB s.w (n + 5) a
 ·have HF : Hid (TelQ C a s (.part n x t) (.returned (.tuple #[])) s.w) := ⟨rfl, s, rfl, h, Step.refl _ _ _, hl, Nat.le_refl _⟩
  have cL := hl.cell
  clear hpk hs he hq hq' ih h hl hp
  go_enter Try.func74, Try.ntmps74
  go_wp2_with fail
  go_end0
  exact HF.out
 ·obtain ⟨z, hz⟩ := hpk.l
  have hne : z ≠ (a : Int) := fun e => hl (e ▸ hz)
  obtain ⟨i1, hl1, hmu⟩ := h.mark hp a hl
  have hlo := hpk.lo
  have hord := h.g.ord
  have hs1 : Can C a (m - 1) { s with w := s.w.setCell ⟨n + 5, 0, none⟩ (.int .i64 a) } := ⟨i1, by
   have h1 := hs.mu
   show unt (s.w.setCell ⟨n + 5, 0, none⟩ (.int .i64 a)) a s.G.ps + unb s.G.inn s.G.ps ≤ m - 1
   omega, hs.bud, by
   have h1 := hs.ln
   show s.nx.length + (unt (s.w.setCell ⟨n + 5, 0, none⟩ (.int .i64 a)) a s.G.ps + unb s.G.inn s.G.ps) ≤ 100000
   have h2 : s.nx.length + (unt s.w a s.G.ps + unb s.G.inn s.G.ps) ≤ 100000 := h1
   omega, hs.pn.imp (fun h0 => (LB.other _ _ (by omega)).2 h0) id⟩
  have hm0 : m - 1 < m := by have := hs.mu; omega
  have HC := Lib.hid (part_tells (ih _ hm0) hs1 hp ha hq')
  have hoth : ∀ b z', b ≠ n + 5 → (LB (s.w.setCell ⟨n + 5, 0, none⟩ (.int .i64 a)) b z' ↔ LB s.w b z') := fun b z' hb => LB.other _ _ hb
  have HFIN : Hid (∀ w', ParQ C a { s with w := s.w.setCell ⟨n + 5, 0, none⟩ (.int .i64 a) } n x t (.returned (.tuple #[])) w' → TelQ C a s (.part n x t) (.returned (.tuple #[])) w') := by
   rintro w' ⟨_, s', e2, hi, st, cp, ln⟩
   have hgg := h.g
   have hcv : ∀ u, Ex s.G u → Cov C s.w a u → Cov C (s.w.setCell ⟨n + 5, 0, none⟩ (.int .i64 a)) a u := fun u hu hc => Cov.of hgg (fun n' x' t' hp' hl' => by
    by_cases e : n' = n
    ·subst e; exact hl1
    ·exact (hoth _ _ (by omega)).2 hl') (fun hl' => (hoth _ _ (by omega)).2 hl') u hu hc
   refine ⟨rfl, s', e2, hi, ⟨st.ps, st.inn, st.rr, fun b hb => by have := st.fr b hb; simpa using this, fun u hu hc => st.told u hu (hcv u hu hc), fun n' x' t' hp' hl' => ?_, st.nx, st.nq, ?_, fun hl' => ?_, st.bud, by have := st.mu; have h9 : unt s'.w a s'.G.ps + unb s'.G.inn s'.G.ps ≤ unt (s.w.setCell ⟨n + 5, 0, none⟩ (.int .i64 a)) a s.G.ps + unb s.G.inn s.G.ps + 0 := this; omega, fun b hb hr hn' hp' => ?_, ?_, ?_, ?_, st.uu, fun b hb => ?_, fun n' x' t' z' hp' hl' => ?_, fun z' hl' => (st.lt z' hl').imp id fun h0 => (hoth _ _ (by omega)).1 h0⟩, ?_, ?_⟩
   ·rcases st.new n' x' t' hp' hl' with ⟨h1, h2⟩ | h1
    ·by_cases e : n' = n
     ·subst e
      obtain ⟨_, e3, e4⟩ : n' = n' ∧ x = x' ∧ t = t' := (hgg.sep n' x t n' x' t' hp h1).resolve_right (by omega)
      subst e3 e4
      subst e2
      exact .inr cp
     ·exact .inl ⟨h1, (hoth _ _ (by omega)).1 h2⟩
    ·exact .inr h1
   ·rcases st.pl with e | ⟨e, h1, h2, h3⟩
    ·exact .inl e
    ·exact .inr ⟨e, fun h0 => h1 ((hoth _ _ (by omega)).2 h0), h2, h3⟩
   ·exact (st.tp hl').imp (fun h0 => (hoth _ _ (by omega)).1 h0) id
   ·refine (st.keep b (by simpa using hb) hr hn' hp').trans (Below.heap_setCell _ _ _ _ ?_)
    show b ≠ n + 5
    exact fun e => hr (e ▸ hpk.r.2)
   ·exact st.nvb.imp id fun h0 b hb => by have := h0 b hb; simpa using this
   ·exact st.pvb.imp id fun h0 b hb => by have := h0 b hb; simpa using this
   ·exact ((Below.refl C.base s.w).setCell (p := ⟨n + 5, 0, none⟩) (by show C.base ≤ n + 5; omega) _).trans st.bel
   ·refine (st.uk b hb).trans (Below.heap_setCell _ _ _ _ ?_)
    show b ≠ n + 5
    exact fun e => hpk.nu.2 (e ▸ hb)
   ·rcases st.lv n' x' t' z' hp' hl' with h1 | h1 | ⟨h1, h2⟩
    ·exact .inl h1
    ·exact .inr (.inl h1)
    ·by_cases e : n' = n
     ·subst e
      unfold LB at h2 hl1
      rw [hl1] at h2
      simp at h2
      exact .inl h2.symm
     ·exact .inr (.inr ⟨h1, (hoth _ _ (by omega)).1 h2⟩)
   ·have := st.told (.part n x t) (.inr hp) hl1
    rw [e2] at this
    exact this
   ·have h9 : s'.nx.length + muS a s' ≤ s.nx.length + (unt (s.w.setCell ⟨n + 5, 0, none⟩ (.int .i64 a)) a s.G.ps + unb s.G.inn s.G.ps) + 1 := ln
    show s'.nx.length + muS a s' ≤ s.nx.length + (unt s.w a s.G.ps + unb s.G.inn s.G.ps)
    omega
  have cL := hz.cell
  have fL := hz.fr
  have cO1 : (s.w.setCell ⟨n + 5, 0, none⟩ (.int .i64 a)).cell? ⟨n + 4, 0, none⟩ = some (partV n) := (cell_other _ (.inl (by omega))).trans cO
  have hb1 : ((a : Int) != z) = true := by simp; exact fun e => hne e.symm
  have hb2 : ((a : Int) == z) = false := by simp; exact fun e => hne e.symm
  unfold partV pb at cO1
  unfold pb at HC
  simp only at HC
  clear hpk hs he hq hq' ih h hl hp hz hne i1 hl1 hmu hs1 hoth hord cO hlo
  go_enter Try.func74, Try.ntmps74
  go_wp2_with fail
  refine HC.out.mono ?_
  rintro en w2 hh
  have HF0 := Lib.hid hh
  obtain ⟨rfl, _⟩ := hh
  have HF := Lib.hid (HFIN.out _ HF0.out)
  go_wp2_with fail
  go_end0
  exact HF.out
theorem hinfo_int : (Try.prog.info? 3).map (fun i => (i.zero, i.size, i.bytes)) = some (some (.int .i64 0), 1, 8) := by kernel_rfl
set_option maxHeartbeats 1000000 in
theorem top_app (h : Inv C s) (hpl : s.pl.length ≤ 1000000) : Calls Try.prog 62 #[.int .i64 a, pb C.P] s.w (fun en w' => en = .returned (.tuple #[]) ∧ ∃ v', s.w.heap.size ≤ w'.heap.size ∧ Inv C ⟨w', s.G, s.nv, v', s.nx, s.pl ++ [(a : Int)], s.mn⟩ ∧ (∀ b, s.G.R b → b ≠ C.W → b ≠ C.P → w'.heap[b]? = s.w.heap[b]?) ∧ (∀ b, b < s.w.heap.size → ¬ s.G.R b → s.nv.ownBlock ≠ some b → s.pv.ownBlock ≠ some b → w'.heap[b]? = s.w.heap[b]?) ∧ Below C.base s.w w' ∧ (v'.ownBlock = s.pv.ownBlock ∨ ∀ b, v'.ownBlock = some b → s.w.heap.size ≤ b)) := by
 have hB3 := kbelow_push s.w (.cells #[.int .i64 a] 3)
 have hN3 := heap_alloc_new s.w (.cells #[.int .i64 a] 3)
 obtain ⟨i3, st3⟩ := h.on hB3 a
 have cP : s.w.cell? ⟨C.P, 0, none⟩ = some s.pv := by rw [cell_of_row _ _ _ _ _ _ h.st.p0]; rfl
 have HI3 := Lib.hid i3
 have HB3 := Lib.hid hB3
 have H := Lib.hid h
 have HN := Lib.hid hN3
 have HPL := Lib.hid hpl
 clear hB3 hN3 i3 st3 h hpl
 unfold pb
 go_enter Try.func62, Try.ntmps62
 go_wp2_with (at_builtin; refine app_k .i64 rfl _ _ 23 rfl C.base 3 8 Try.underlying23 hinfo_int (by decide) s.pv s.pl.length s.pl rfl HI3.out.st.pr ⟨s.w.heap.size, 0, none⟩ 1 1 [(a : Int)] rfl rfl (fun j u hu => by
  rw [kadd_none, cell_of_row _ _ _ _ _ _ HN.out, Nat.zero_add]
  match j, hu with
  | 0, hu => injection hu with hu; subst hu; rfl) (by have := HPL.out; omega) HI3.out.base_le ?_; intro v' w4 ho4 hg4 hat4; have HO4 := Lib.hid (And.intro ho4 (And.intro hg4 hat4)); obtain ⟨A4, c4, hv4, _⟩ := ho4.rd; subst hv4; have c54 : w4.cell? ⟨C.P, 0, none⟩ = some s.pv := ((cell_eq (hg4.block _ (Nat.lt_of_lt_of_le (H.out.g.rlt _ H.out.g.rm.2.1).1 HB3.out.size) (fun e => HI3.out.st.pn _ e.symm H.out.g.rm.2.1))).trans (HB3.out.cell (p := ⟨C.P, 0, none⟩) (H.out.g.rlt _ H.out.g.rm.2.1).1)).trans cP; have f54 : w4.frozen? ⟨C.P, 0, none⟩ = false := frozen_of_row _ _ _ _ _ ((hg4.block _ (Nat.lt_of_lt_of_le (H.out.g.rlt _ H.out.g.rm.2.1).1 HB3.out.size) (fun e => HI3.out.st.pn _ e.symm H.out.g.rm.2.1)).trans HI3.out.st.p0); clear ho4 hg4 hat4)
 go_end0
 obtain ⟨ho, hg, hat⟩ := HO4.out
 obtain ⟨i5, r5, k5, b5⟩ := HI3.out.place ho hg hat
 have hgg := H.out.g
 have hb3 := HB3.out
 refine ⟨rfl, _, Nat.le_trans hb3.size (by simpa using hg.size), i5, fun b hb h1 h2 => (r5 b hb h1 h2).trans (hb3.block b (hgg.rlt b hb).1), fun b hlt hr h1 h2 => (k5 b (Nat.lt_of_lt_of_le hlt hb3.size) hr h1 h2).trans (hb3.block b hlt), (hb3.mono H.out.base_le).trans b5, ?_⟩
 rcases hat with e | e
 ·exact .inl e
 ·refine .inr fun b hb => ?_
  rw [e] at hb
  injection hb with hb
  have := hb3.size
  omega
theorem once_top : Tells C a m .top := by
 intro s hs _ hq
 have h := hs.inv
 have cO := h.g.topT
 simp only [Tl.fn, Tl.cap, pb, List.push_toArray, List.append_toArray, List.cons_append, List.nil_append]
 by_cases hl : LB s.w (C.c + 1) a
 ·have HF : Hid (TelQ C a s .top (.returned (.tuple #[])) s.w) := ⟨rfl, s, rfl, h, Step.refl _ _ _, hl, Nat.le_refl _⟩
  have cL := hl.cell
  clear hs hq h hl
  go_enter Try.func74, Try.ntmps74
  go_wp2_with fail
  go_end0
  exact HF.out
 ·obtain ⟨z, hz⟩ := h.g.topL
  have hne : z ≠ (a : Int) := fun e => hl (e ▸ hz)
  obtain ⟨i1, hl1⟩ := h.mark_top a
  have hord := h.g.ord
  have hgg := h.g
  have hR1 : ∀ b, b ≠ C.c + 1 → (s.w.setCell ⟨C.c + 1, 0, none⟩ (.int .i64 a)).heap[b]? = s.w.heap[b]? := fun b hb => Below.heap_setCell _ _ _ _ hb
  have hpl : s.pl.length ≤ 1000000 := hs.pn.resolve_left hl
  have HC := Lib.hid (top_app i1 hpl (a := a))
  have HFIN : Hid (∀ (w' : World) (v' : Value), s.w.heap.size ≤ w'.heap.size → Inv C ⟨w', s.G, s.nv, v', s.nx, s.pl ++ [(a : Int)], s.mn⟩ → (∀ b, s.G.R b → b ≠ C.W → b ≠ C.P → w'.heap[b]? = (s.w.setCell ⟨C.c + 1, 0, none⟩ (.int .i64 a)).heap[b]?) → (∀ b, b < s.w.heap.size → ¬ s.G.R b → s.nv.ownBlock ≠ some b → s.pv.ownBlock ≠ some b → w'.heap[b]? = (s.w.setCell ⟨C.c + 1, 0, none⟩ (.int .i64 a)).heap[b]?) → Below C.base (s.w.setCell ⟨C.c + 1, 0, none⟩ (.int .i64 a)) w' → (v'.ownBlock = s.pv.ownBlock ∨ ∀ b, v'.ownBlock = some b → s.w.heap.size ≤ b) → TelQ C a s .top (.returned (.tuple #[])) w') := by
   intro w' v' hsz hi hR hkp hbl hvb
   have hlo : ∀ n x t, Tl.part n x t ∈ s.G.ps → n + 5 ≠ C.c + 1 ∧ C.c + 1 < n := fun n x t hp => by have := (hgg.part n x t hp).lo; omega
   have hLo : ∀ n x t, Tl.part n x t ∈ s.G.ps → ∀ z', LB w' (n + 5) z' ↔ LB s.w (n + 5) z' := fun n x t hp z' => by
    have h1 := hlo n x t hp
    unfold LB
    rw [hR _ (hgg.part n x t hp).r.2 (by omega) (by omega), hR1 _ h1.1]
   have hTop : LB w' (C.c + 1) a := by
    unfold LB
    rw [hR _ hgg.rm.2.2 (by omega) (by omega)]
    exact hl1
   have hmu : unt w' a s.G.ps = unt s.w a s.G.ps := by
    unfold unt
    congr 1
    refine List.map_congr_left fun t ht => ?_
    cases t with
    | top => rfl
    | more e y t => rfl
    | part n x t =>
     by_cases hl' : LB s.w (n + 5) a
     ·rw [unt1_pos hl', unt1_pos ((hLo n x t ht _).2 hl')]
     ·rw [unt1_neg hl', unt1_neg fun h0 => hl' ((hLo n x t ht _).1 h0)]
   have hmu2 : muS a (⟨w', s.G, s.nv, v', s.nx, s.pl ++ [(a : Int)], s.mn⟩ : Sta) = muS a s := by
    show unt w' a s.G.ps + _ = unt s.w a s.G.ps + _
    rw [hmu]
   refine ⟨rfl, _, rfl, hi, ⟨fun _ h => h, fun _ _ h => h, fun _ h => h, fun _ h => .inl h, fun u hu hc => Cov.of hgg (fun n x t hp hl' => (hLo n x t hp _).2 hl') (fun _ => hTop) u hu hc, fun n x t hp hl' => .inl ⟨hp, (hLo n x t hp _).1 hl'⟩, fun _ h => h, fun _ h => .inl h, .inr ⟨rfl, hl, hTop, hq a (.nil a)⟩, fun _ => .inr (List.mem_append_right _ List.mem_cons_self), Nat.le_refl _, Nat.le_of_eq hmu2, fun b hlt hr h1 h2 => (hkp b hlt hr h1 h2).trans (hR1 b (fun e => hr (e ▸ hgg.rm.2.2))), .inl rfl, hvb, ((Below.refl C.base s.w).setCell (p := ⟨C.c + 1, 0, none⟩) (by show C.base ≤ C.c + 1; omega) _).trans hbl, fun _ h => h, fun b hb => ?_, fun n x t z' hp hl' => .inr (.inr ⟨hp, (hLo n x t hp z').1 hl'⟩), fun z' hl' => .inl ?_⟩, hTop, by rw [hmu2]; exact Nat.le_refl _⟩
   ·exact (hR b (hgg.ur b hb) (fun e => hgg.um.1 (e ▸ hb)) (fun e => hgg.um.2.1 (e ▸ hb))).trans (hR1 b (fun e => hgg.um.2.2.1 (e ▸ hb)))
   ·have hTop' := hTop
    change LB w' (C.c + 1) z' at hl'
    unfold LB at hl' hTop'
    rw [hTop'] at hl'
    simp at hl'
    exact hl'.symm
  have cL := hz.cell
  have fL := hz.fr
  have cO1 : (s.w.setCell ⟨C.c + 1, 0, none⟩ (.int .i64 a)).cell? ⟨C.c, 0, none⟩ = some (.func (.func 62) #[] #[.pointer (some ⟨C.P, 0, none⟩)]) := (cell_other _ (.inl (by omega))).trans cO
  have hb1 : ((a : Int) != z) = true := by simp; exact fun e => hne e.symm
  have hb2 : ((a : Int) == z) = false := by simp; exact fun e => hne e.symm
  unfold pb at HC
  simp only at HC
  clear hs hq h hl hz hne i1 hl1 hord cO hgg hR1 hpl
  go_enter Try.func74, Try.ntmps74
  go_wp2_with fail
  refine HC.out.mono ?_
  rintro en w2 ⟨rfl, v', h1, h2, h3, h4, h5, h6⟩
  have HF := Lib.hid (HFIN.out w2 v' (by simpa using h1) h2 h3 (fun b hb => h4 b (by simpa using hb)) h5 (h6.imp id fun h0 b hb => by have := h0 b hb; simpa using this))
  clear h1 h2 h3 h4 h5 h6
  go_wp2_with fail
  go_end0
  exact HF.out
theorem tell_any (ha : a ≤ C.l.length) : ∀ (m : Nat) (t : Tl), Tells C a m t := by
 intro m
 induction m using Nat.strongRecOn with
 | ind m ih =>
  intro t
  induction t with
  | top => exact once_top
  | part n x t _ => exact once_part ha fun m' hm' u => ih m' hm' u
  | more e y t iht => exact more_tells iht (once_part ha fun m' hm' u => ih m' hm' u)
end
end Go.Proofs.Ytpllgfhocedgmaa
namespace Go.Proofs.Ytpllgfhocedgmaa
open Go.RowKit

def SqC (C : Ctx) (κ : List Pt) (a b : Nat) : Prop := Sq (stp C.back C.l) (rwd C.back) κ a b
def Past (C : Ctx) (a : Nat) (z : Int) : Prop := if C.back then (a : Int) < z else z < a
def Dir (C : Ctx) (y z : Int) : Prop := if C.back then z < y else y < z
theorem cov_done {C : Ctx} {w : World} {G : Gh} {nx : List Tl} {pl : List Int} {a : Nat} (hg : Good C w G) (hcp : ∀ n x t, .part n x t ∈ G.ps → LB w (n + 5) a → Comp C w G nx a n x t) (htp : LB w (C.c + 1) a → (a : Int) ∈ pl) {κ : List Pt} {b : Nat} (h : SqC C κ a b) :
  ∀ v, Ex G v → v.stk = κ → Cov C w a v → (b : Int) ∈ pl ∨ ∃ t ∈ nx, SqC C t.stk (nextF C.back a) b := by
 unfold SqC at h
 have hmk : ∀ {e y t}, Ex G (.more e y t) → MoreOk C w G e y t := fun he => hg.more _ _ _ (he.resolve_left (by intro e; cases e))
 have hpk : ∀ {n x t}, Ex G (.part n x t) → Tl.part n x t ∈ G.ps := fun he => he.resolve_left (by intro e; cases e)
 have hin : ∀ {n x t}, Tl.part n x t ∈ G.ps → LB w (n + 5) a → ∃ u, InnOk C w G x t u ∧ CovI C w nx a x t u ∧ Ex G t := fun hp hl => by
  obtain ⟨u, hu, hc⟩ := hcp _ _ _ hp hl
  exact ⟨u, (hg.part _ _ _ hp).inn u hu, hc, (hg.part _ _ _ hp).ex⟩
 generalize ha : a = a' at h
 induction h with
 | nil b =>
  subst ha
  intro v hv hs hc
  cases v with
  | top => exact .inl (htp hc)
  | part n x t => cases hs
  | more e y t => cases hs
 | @emp x κ a0 b hk h ih =>
  subst ha
  intro v hv hs hc
  cases v with
  | top => cases hs
  | part n x' t =>
   injection hs with e1 e2
   subst e1
   obtain ⟨u, ho, hci, he⟩ := hin (hpk hv) hc
   cases ho with
   | emp _ => exact ih rfl t he e2 hci
   | set _ hk' | join _ hk' | or _ _ _ _ _ hk' | star _ _ hk' | plus _ _ hk' | may _ _ _ _ hk' => omega
   | no hk' => omega
  | more e y t =>
   injection hs with e1 e2
   subst e1
   cases hk
 | @set x κ a0 c b z hk hz hst h ih =>
  subst ha
  intro v hv hs hc
  cases v with
  | top => cases hs
  | part n x' t =>
   injection hs with e1 e2
   subst e1
   obtain ⟨u, ho, hci, he⟩ := hin (hpk hv) hc
   cases ho with
   | set m _ => exact .inr ⟨t, hci z c hz hst, by rw [e2]; have := (stp_iff.1 hst).2; subst this; exact h⟩
   | emp hk' | join _ hk' | or _ _ _ _ _ hk' | star _ _ hk' | plus _ _ hk' | may _ _ _ _ hk' => omega
   | no hk' => omega
  | more e y t =>
   injection hs with e1 e2
   subst e1
   cases hk
 | @join x κ a0 b hk h ih =>
  subst ha
  intro v hv hs hc
  cases v with
  | top => cases hs
  | part n x' t =>
   injection hs with e1 e2
   subst e1
   obtain ⟨u, ho, hci, he⟩ := hin (hpk hv) hc
   cases ho with
   | join u _ he' hst => exact ih rfl u he' (by rw [hst, e2]) hci
   | emp hk' | set _ hk' | or _ _ _ _ _ hk' | star _ _ hk' | plus _ _ hk' | may _ _ _ _ hk' => omega
   | no hk' => omega
  | more e y t =>
   injection hs with e1 e2
   subst e1
   cases hk
 | @or x y κ a0 b hk hy h ih =>
  subst ha
  intro v hv hs hc
  cases v with
  | top => cases hs
  | part n x' t =>
   injection hs with e1 e2
   subst e1
   obtain ⟨u, ho, hci, he⟩ := hin (hpk hv) hc
   cases ho with
   | or m ts A n' c' _ _ _ _ _ _ _ he' hst =>
    have h1 : (y :: t.stk) ∈ ts.map Tl.stk := by rw [hst]; exact List.mem_map_of_mem hy
    obtain ⟨u, hu, e3⟩ := List.mem_map.1 h1
    exact ih rfl u (he' u hu) (by rw [e3, e2]) (hci u hu)
   | emp hk' | set _ hk' | join _ hk' | star _ _ hk' | plus _ _ hk' | may _ _ _ _ hk' => omega
   | no hk' => omega
  | more e y t =>
   injection hs with e1 e2
   subst e1
   cases hk
 | @starN x y κ a0 b hk hy h ih =>
  subst ha
  intro v hv hs hc
  cases v with
  | top => cases hs
  | part n x' t =>
   injection hs with e1 e2
   subst e1
   obtain ⟨u, ho, hci, he⟩ := hin (hpk hv) hc
   cases ho with
   | star e y' _ hy' he' => exact ih rfl t he e2 hci.1
   | emp hk' | set _ hk' | join _ hk' | or _ _ _ _ _ hk' | plus _ _ hk' | may _ _ _ _ hk' => omega
   | no hk' => exact absurd (.inr ⟨by omega, by rw [hy]; rfl⟩) hk'
  | more e y' t =>
   injection hs with e1 e2
   exact ih rfl t (hmk hv).ex e2 hc.1
 | @starY x y κ a0 b hk hy h ih =>
  subst ha
  intro v hv hs hc
  cases v with
  | top => cases hs
  | part n x' t =>
   injection hs with e1 e2
   subst e1
   obtain ⟨u, ho, hci, he⟩ := hin (hpk hv) hc
   cases ho with
   | star e y' _ hy' he' =>
    rw [hy] at hy'
    obtain rfl := (List.cons.inj hy').1
    exact ih rfl (.kid e y t) (.inr (hmk he').kid) (by show y :: manyT y :: t.stk = _; rw [e2]) hci.2
   | emp hk' | set _ hk' | join _ hk' | or _ _ _ _ _ hk' | plus _ _ hk' | may _ _ _ _ hk' => omega
   | no hk' => exact absurd (.inr ⟨by omega, by rw [hy]; rfl⟩) hk'
  | more e y' t =>
   injection hs with e1 e2
   subst e1
   obtain rfl := (List.cons.inj hy).1
   exact ih rfl (.kid e y' t) (.inr (hmk hv).kid) (by show y' :: manyT y' :: t.stk = _; rw [e2]) hc.2
 | @plus x y κ a0 b hk hy h ih =>
  subst ha
  intro v hv hs hc
  cases v with
  | top => cases hs
  | part n x' t =>
   injection hs with e1 e2
   subst e1
   obtain ⟨u, ho, hci, he⟩ := hin (hpk hv) hc
   cases ho with
   | plus e y' _ hy' he' =>
    rw [hy] at hy'
    obtain rfl := (List.cons.inj hy').1
    exact ih rfl (.kid e y t) (.inr (hmk he').kid) (by show y :: manyT y :: t.stk = _; rw [e2]) hci
   | emp hk' | set _ hk' | join _ hk' | or _ _ _ _ _ hk' | star _ _ hk' | may _ _ _ _ hk' => omega
   | no hk' => exact absurd (.inr ⟨by omega, by rw [hy]; rfl⟩) hk'
  | more e y' t =>
   injection hs with e1 e2
   subst e1
   cases hk
 | @mayN x y κ a0 b hk hy h ih =>
  subst ha
  intro v hv hs hc
  cases v with
  | top => cases hs
  | part n x' t =>
   injection hs with e1 e2
   subst e1
   obtain ⟨u, ho, hci, he⟩ := hin (hpk hv) hc
   cases ho with
   | may a1 b1 k1 y' _ hy' _ _ _ he' hst => exact ih rfl t he e2 hci.1
   | emp hk' | set _ hk' | join _ hk' | or _ _ _ _ _ hk' | star _ _ hk' | plus _ _ hk' => omega
   | no hk' => exact absurd (.inr ⟨by omega, by rw [hy]; rfl⟩) hk'
  | more e y' t =>
   injection hs with e1 e2
   subst e1
   cases hk
 | @mayY x y κ a0 b hk hy h ih =>
  subst ha
  intro v hv hs hc
  cases v with
  | top => cases hs
  | part n x' t =>
   injection hs with e1 e2
   subst e1
   obtain ⟨u, ho, hci, he⟩ := hin (hpk hv) hc
   cases ho with
   | may a1 b1 k1 y' _ hy' _ _ _ he' hst =>
    rw [hy] at hy'
    obtain rfl := (List.cons.inj hy').1
    exact ih rfl k1 he' (by rw [hst, e2]) hci.2
   | emp hk' | set _ hk' | join _ hk' | or _ _ _ _ _ hk' | star _ _ hk' | plus _ _ hk' => omega
   | no hk' => exact absurd (.inr ⟨by omega, by rw [hy]; rfl⟩) hk'
  | more e y' t =>
   injection hs with e1 e2
   subst e1
   cases hk
end Go.Proofs.Ytpllgfhocedgmaa
namespace Go.Proofs.Ytpllgfhocedgmaa
open Go.RowKit

def Rnd (C : Ctx) (a : Nat) (k : Nat) : Prop := if C.back then k + a ≤ C.l.length else k ≤ a
structure AllSt (C : Ctx) (now : List Tl) (a : Nat) (s : Sta) : Prop where
 inv : Inv C s
 le : a ≤ C.l.length
 bud : s.mn + unb s.G.inn s.G.ps ≤ 10000
 lv : ∀ n x t (z : Int), .part n x t ∈ s.G.ps → LB s.w (n + 5) z → z = -1 ∨ Past C a z
 lt : ∀ z : Int, LB s.w (C.c + 1) z → z = -1 ∨ Past C a z
 ex : ∀ t ∈ now, Ex s.G t
 snd : ∀ t ∈ now, Qs C t.stk a
 cmp : ∀ b, C.Rs b → (b : Int) ∈ s.pl ∨ ∃ t ∈ now, SqC C t.stk a b
 ok : ∀ z ∈ s.pl, ∃ b : Nat, z = b ∧ C.Rs b
 ord : s.pl.Pairwise (Dir C)
 past : ∀ z ∈ s.pl, Past C a z
 rnd : Rnd C a s.pl.length
structure DoneSt (C : Ctx) (s : Sta) : Prop where
 inv : Inv C s
 bud : s.mn + unb s.G.inn s.G.ps ≤ 10000
 cmp : ∀ b, C.Rs b → (b : Int) ∈ s.pl
 ok : ∀ z ∈ s.pl, ∃ b : Nat, z = b ∧ C.Rs b
 ord : s.pl.Pairwise (Dir C)
section
variable {C : Ctx} {s s2 : Sta} {a : Nat} {now : List Tl}
theorem past_ne {z : Int} (h : Past C a z) : z ≠ a := by
 unfold Past at h
 split at h <;> omega
theorem past_next {z : Int} (h : Past C a z ∨ z = a) (hb : C.back = true → 1 ≤ a) : Past C (nextF C.back a) z := by
 unfold Past nextF at *
 cases hc : C.back with
 | true =>
  have := hb hc
  rw [hc] at h
  simp only [if_true] at h ⊢
  omega
 | false =>
  rw [hc] at h
  simp only [Bool.false_eq_true, if_false] at h ⊢
  omega
def Sta.fresh (C : Ctx) (s : Sta) : Sta := ⟨s.w.setCell ⟨C.W, 2, none⟩ (.slice none 0 0), s.G, .slice none 0 0, s.pv, [], s.pl, s.mn⟩
theorem AllSt.fresh_lb (h : AllSt C now a s) : (∀ n x t (z : Int), .part n x t ∈ s.G.ps → (LB (s.fresh C).w (n + 5) z ↔ LB s.w (n + 5) z)) ∧ (∀ z : Int, LB (s.fresh C).w (C.c + 1) z ↔ LB s.w (C.c + 1) z) := by
 have hg := h.inv.g
 have hord := hg.ord
 exact ⟨fun n x t z hp => LB.other _ _ (by have := (hg.part n x t hp).lo; omega), fun z => LB.other _ _ (by omega)⟩
theorem unt_le (w : World) (a : Nat) (l : List Tl) : unt w a l ≤ cntP l := by
 unfold unt cntP
 induction l with
 | nil => simp
 | cons t r ih =>
  simp only [List.map_cons, List.sum_cons]
  have h1 : unt1 w a t ≤ cnt1 t := by
   cases t with
   | top => exact Nat.le_refl _
   | more e y t => exact Nat.le_refl _
   | part n x t =>
    by_cases hl : LB w (n + 5) a
    ·rw [unt1_pos hl]; exact Nat.zero_le _
    ·rw [unt1_neg hl]; exact Nat.le_refl _
  omega
theorem AllSt.can (h : AllSt C now a s) (hlen : C.l.length ≤ 1000000) : Can C a (muS a (s.fresh C)) (s.fresh C) := by
 have hi := h.inv.fresh
 refine ⟨hi, Nat.le_refl _, h.bud, ?_, .inr ?_⟩
 ·have h1 := unt_le (s.fresh C).w a s.G.ps
  have h2 := h.inv.st.cn
  have h3 := h.bud
  show 0 + (unt (s.fresh C).w a s.G.ps + unb s.G.inn s.G.ps) ≤ 100000
  omega
 ·have h1 := h.rnd
  have h2 := h.le
  unfold Rnd at h1
  show s.pl.length ≤ 1000000
  split at h1 <;> omega
theorem AllSt.comp (h : AllSt C now a s) (st : Step C a 0 (s.fresh C) s2) : (∀ n x t, .part n x t ∈ s2.G.ps → LB s2.w (n + 5) a → Comp C s2.w s2.G s2.nx a n x t) ∧ (LB s2.w (C.c + 1) a → (a : Int) ∈ s2.pl) := by
 obtain ⟨f1, f2⟩ := h.fresh_lb
 refine ⟨fun n x t hp hl => ?_, fun hl => ?_⟩
 ·rcases st.new n x t hp hl with ⟨h1, h2⟩ | h1
  ·have h3 := h.lv n x t a h1 ((f1 n x t a h1).1 h2)
   rcases h3 with h3 | h3
   ·omega
   ·exact absurd rfl (past_ne h3)
  ·exact h1
 ·rcases st.tp hl with h1 | h1
  ·rcases h.lt a ((f2 a).1 h1) with h3 | h3
   ·omega
   ·exact absurd rfl (past_ne h3)
  ·exact h1
theorem AllSt.next (h : AllSt C now a s) (hi : Inv C s2) (st : Step C a 0 (s.fresh C) s2) (hc : ∀ t ∈ now, Cov C s2.w a t) : (s2.nx = [] → DoneSt C s2) ∧ (s2.nx ≠ [] → AllSt C s2.nx (nextF C.back a) s2 ∧ (C.back = true → 1 ≤ a)) := by
 obtain ⟨hcp, htp⟩ := h.comp st
 obtain ⟨f1, f2⟩ := h.fresh_lb
 have hcmp : ∀ b, C.Rs b → (b : Int) ∈ s2.pl ∨ ∃ t ∈ s2.nx, SqC C t.stk (nextF C.back a) b := fun b hb => by
  have hsub : ∀ z ∈ s.pl, z ∈ s2.pl := by
   rcases st.pl with e | ⟨e, _⟩
   ·rw [e]; exact fun z hz => hz
   ·rw [e]; exact fun z hz => List.mem_append_left _ hz
  rcases h.cmp b hb with h1 | ⟨t, ht, hs⟩
  ·exact .inl (hsub _ h1)
  ·exact cov_done hi.g hcp htp hs t (st.ex (h.ex t ht)) rfl (hc t ht)
 have hok : ∀ z ∈ s2.pl, ∃ b : Nat, z = b ∧ C.Rs b := by
  rcases st.pl with e | ⟨e, _, _, h3⟩
  ·rw [e]; exact h.ok
  ·rw [e]
   intro z hz
   rcases List.mem_append.1 hz with h1 | h1
   ·exact h.ok z h1
   ·exact ⟨a, List.mem_singleton.1 h1, h3⟩
 have hord : s2.pl.Pairwise (Dir C) := by
  rcases st.pl with e | ⟨e, _⟩
  ·rw [e]; exact h.ord
  ·rw [e]
   refine List.pairwise_append.2 ⟨h.ord, List.pairwise_singleton _ _, fun y hy z hz => ?_⟩
   rw [List.mem_singleton.1 hz]
   have := h.past y hy
   unfold Past at this
   unfold Dir
   exact this
 have hbud : s2.mn + unb s2.G.inn s2.G.ps ≤ 10000 := by
  have h1 := st.bud
  have h2 := h.bud
  have h3 : s2.mn + unb s2.G.inn s2.G.ps ≤ s.mn + unb s.G.inn s.G.ps + 0 := h1
  omega
 refine ⟨fun he => ⟨hi, hbud, (fun b hb => (hcmp b hb).resolve_right fun ⟨t, ht, _⟩ => by rw [he] at ht; cases ht), hok, hord⟩, fun hne => ?_⟩
 obtain ⟨t0, ht0⟩ := List.exists_mem_of_ne_nil _ hne
 have hst : ∃ z c, stp C.back C.l a z c := by
  rcases st.nq t0 ht0 with h1 | ⟨z, c, h1, _⟩
  ·cases h1
  ·exact ⟨z, c, h1⟩
 obtain ⟨z0, c0, hst⟩ := hst
 obtain ⟨hsg, hc0⟩ := stp_iff.1 hst
 have hb1 : C.back = true → 1 ≤ a := fun hb => by
  rw [hb] at hsg
  cases a with
  | zero => cases hsg
  | succ n => omega
 have hle : nextF C.back a ≤ C.l.length := by
  have h1 := h.le
  unfold nextF
  cases hb : C.back with
  | true => simp; omega
  | false =>
   rw [hb] at hsg
   have h2 : C.l[a]? = some z0 := hsg
   have := (List.getElem?_eq_some_iff.1 h2).1
   simp; omega
 refine ⟨⟨hi, hle, hbud, fun n x t z hp hl => ?_, fun z hl => ?_, hi.st.nxe, fun t ht => ?_, hcmp, hok, hord, ?_, ?_⟩, hb1⟩
 ·rcases st.lv n x t z hp hl with h1 | h1 | ⟨h1, h2⟩
  ·exact .inr (past_next (.inr h1) hb1)
  ·exact .inl h1
  ·exact (h.lv n x t z h1 ((f1 n x t z h1).1 h2)).imp id fun h3 => past_next (.inl h3) hb1
 ·rcases st.lt z hl with h1 | h1
  ·exact .inr (past_next (.inr h1) hb1)
  ·exact (h.lt z ((f2 z).1 h1)).imp id fun h3 => past_next (.inl h3) hb1
 ·rcases st.nq t ht with h1 | ⟨z, c, h1, h2⟩
  ·cases h1
  ·have := (stp_iff.1 h1).2
   subst this
   exact h2
 ·rcases st.pl with e | ⟨e, _⟩
  ·rw [e]; exact fun z hz => past_next (.inl (h.past z hz)) hb1
  ·rw [e]
   intro z hz
   rcases List.mem_append.1 hz with h1 | h1
   ·exact past_next (.inl (h.past z h1)) hb1
   ·exact past_next (.inr (List.mem_singleton.1 h1)) hb1
 ·have h1 := h.rnd
  have h2 : s2.pl.length ≤ s.pl.length + 1 := by
   rcases st.pl with e | ⟨e, _⟩
   ·rw [e]; exact Nat.le_succ _
   ·rw [e]; simp [Sta.fresh]
  unfold Rnd nextF at *
  cases hb : C.back with
  | true =>
   have := hb1 hb
   rw [hb] at h1
   simp only [if_true] at h1 ⊢
   omega
  | false =>
   rw [hb] at h1
   simp only [Bool.false_eq_true, if_false] at h1 ⊢
   omega
end
end Go.Proofs.Ytpllgfhocedgmaa
namespace Go.Proofs.Ytpllgfhocedgmaa
open Go.RowKit Go.Shelf

def NowRow (C : Ctx) (sk : Sta) (now : List Tl) (v : Value) : Prop := ∃ A n c, v = .slice A n c ∧ now.length = n ∧ n ≤ c ∧ c ≤ maxLen ∧ (0 < n → ∃ b, A = some ⟨b, 0, none⟩ ∧ b < sk.w.heap.size ∧ ¬ sk.G.R b ∧ sk.pv.ownBlock ≠ some b ∧ ∀ (i : Nat) (u : Tl), now[i]? = some u → sk.w.cell? ⟨b, i, none⟩ = some (u.val C.c))
section
variable {C : Ctx} {s sk : Sta} {a : Nat}
theorem NowRow.of_nv (h : Inv C sk) : NowRow C sk sk.nx sk.nv := by
 have hr := h.st.nr
 have hlt := World.ownsRow.lt hr
 obtain ⟨hl, h2⟩ := hr
 rcases h2 with ⟨e, h0⟩ | ⟨g, cap, cur, e, hB, hg, h3, h4, h5, h6⟩
 ·exact ⟨none, 0, 0, e, h0, Nat.le_refl _, by unfold maxLen; omega, fun h => absurd h (by omega)⟩
 ·refine ⟨some ⟨g, 0, none⟩, sk.nx.length, cap, e, rfl, h3, h4, fun hn => ⟨g, rfl, (Array.getElem?_eq_some_iff.1 hg).1, h.st.nn g (by rw [e]; rfl), fun e2 => h.st.np g e2 (by rw [e]; rfl), fun i u hu => ?_⟩⟩
  rw [cell_of_row _ _ _ _ _ _ hg]
  have hi := (List.getElem?_eq_some_iff.1 hu).1
  have h7 : (cur.toList.take (sk.nx.length * 1))[i]? = (sk.nx.map (Tl.val C.c))[i]? := by rw [h6]
  rw [List.getElem?_take, if_pos (by omega), Array.getElem?_toList, List.getElem?_map, hu] at h7
  exact h7
theorem AllSt.fin {now : List Tl} (h : AllSt C now a s) (he : now = []) : DoneSt C s := ⟨h.inv, h.bud, (fun b hb => (h.cmp b hb).resolve_right fun ⟨t, ht, _⟩ => by rw [he] at ht; cases ht), h.ok, h.ord⟩
def G0 (W P c : Nat) : Gh := ⟨[], fun _ => none, fun b => b = c, fun b => b = W ∨ b = P ∨ b = c ∨ b = c + 1⟩
theorem all_init {w w2 : World} {base W : Nat} {back : Bool} {l : List Int} {lA : Option Addr} {ln lc : Nat} {Rs : Nat → Prop} (hl : InAt w (fun b => b < base) lA ln lc l) (hwk : w.heap[W]? = some (.cells #[.slice lA ln lc, .bool back, .slice none 0 0, .int .i64 0] 66 (0, 0))) (hbW : base ≤ W)
  (hb : Below w.heap.size w w2) (hs : w2.heap.size = w.heap.size + 2) (hP : w2.heap[w.heap.size + 1]? = some (.cells #[.slice none 0 0] 23 (0, 0))) :
  Inv ⟨base, W, w.heap.size + 1, w.heap.size + 2, back, l, lA, ln, lc, Rs⟩ ⟨onceW w2 (.func (.func 62) #[] #[pb (w.heap.size + 1)]), G0 W (w.heap.size + 1) (w.heap.size + 2), .slice none 0 0, .slice none 0 0, [], [], 0⟩ := by
 have hWl : W < w.heap.size := (Array.getElem?_eq_some_iff.1 hwk).1
 obtain ⟨m1, m2, m3, m4, m5⟩ := onceW_mem w2 (.func (.func 62) #[] #[pb (w.heap.size + 1)])
 rw [hs] at m1 m3 m4
 have hold : ∀ b, b < w.heap.size → (onceW w2 (.func (.func 62) #[] #[pb (w.heap.size + 1)])).heap[b]? = w.heap[b]? := fun b hb' => (m2 b (by omega)).trans (hb.block b hb')
 refine ⟨⟨(fun n x t hp => by cases hp), (fun e y t hp => by cases hp), (fun n x t n' x' t' hp => by cases hp), List.nodup_nil, m3.cell, ⟨_, m4⟩, fun b e => .inr (.inr (.inl e)), fun b e => ?_, ⟨?_, ?_, ?_, rfl⟩, ⟨.inl rfl, .inr (.inl rfl), .inr (.inr (.inr rfl))⟩, ⟨hbW, ?_, ?_⟩, (fun n u e => by cases e)⟩, ⟨(hold W hWl).trans hwk, hl.keep (fun _ h => h) (fun p hp => World.cell?_of_block (hold p.block (by omega))), World.ownsRow_nil _ _ _ _, (fun b e => by cases e), (m2 (w.heap.size + 1) (by omega)).trans hP, World.ownsRow_nil _ _ _ _, (fun b e => by cases e), (fun b e => by cases e), (fun t ht => by cases ht), Nat.le_refl _⟩⟩
 ·show b < (onceW w2 _).heap.size ∧ base ≤ b
  rw [m1]
  have e' : b = W ∨ b = w.heap.size + 1 ∨ b = w.heap.size + 2 ∨ b = w.heap.size + 2 + 1 := e
  omega
 ·show ¬ W = w.heap.size + 2; omega
 ·show ¬ w.heap.size + 1 = w.heap.size + 2; omega
 ·show ¬ w.heap.size + 2 + 1 = w.heap.size + 2; omega
 ·show W < w.heap.size + 1; omega
 ·show w.heap.size + 1 < w.heap.size + 2; omega
end
end Go.Proofs.Ytpllgfhocedgmaa
namespace Go.Proofs.Ytpllgfhocedgmaa
open Go.RowKit Go.Shelf

def AllP (C : Ctx) (w : World) (en : Ending) (w' : World) : Prop := ∃ sk, sk.w = w' ∧ en = .returned sk.pv ∧ DoneSt C sk ∧ Below C.base w w'
section
variable {C : Ctx} {s sk : Sta} {a : Nat}
structure InSt (C : Ctx) (s : Sta) (a : Nat) (now : List Tl) (k : Nat) (sk : Sta) : Prop where
 inv : Inv C sk
 st : Step C a 0 (s.fresh C) sk
 cov : ∀ u ∈ now.take k, Cov C sk.w a u
 ln : sk.nx.length + muS a sk ≤ (s.fresh C).nx.length + muS a (s.fresh C)
set_option maxHeartbeats 4000000 in
theorem all_any {w : World} {base W : Nat} {back : Bool} {l : List Int} {lA : Option Addr} {ln lc : Nat} (hl : InAt w (fun b => b < base) lA ln lc l) (hwk : w.heap[W]? = some (.cells #[.slice lA ln lc, .bool back, .slice none 0 0, .int .i64 0] 66 (0, 0))) (hbW : base ≤ W) (hlen : l.length ≤ 1000000)
  {x : Pt} {sA gA A : Option Addr} {sn sc gn gc m c : Nat} (hx : PtIn w (fun b => b < base) sA sn sc gA gn gc A m c x) (hxs : x.size ≤ 10000) (ha : a ≤ l.length) :
  Calls Try.prog 46 #[pb W, .agg #[.int .i64 x.kind, .slice sA sn sc, .slice gA gn gc, .slice A m c], .int .i64 a] w (AllP ⟨base, W, w.heap.size + 1, w.heap.size + 2, back, l, lA, ln, lc, fun b => Sq (stp back l) (rwd back) [x] a b⟩ w) := by
 have hmf : ∀ (fn : Fn) (first cap : Array Value) (w : World), (Instr.makeFunc fn first cap).run Try.prog w = .ok (.func fn first cap) w := fun _ _ _ _ => rfl
 have hWl : W < w.heap.size := (Array.getElem?_eq_some_iff.1 hwk).1
 have B1 := kbelow_push w (.cells #[.int .i64 x.kind, .slice sA sn sc, .slice gA gn gc, .slice A m c] 26)
 have B2 := B1.alloc B1.size (.cells #[.slice none 0 0] 23)
 have hpb : ((w.alloc (.cells #[.int .i64 x.kind, .slice sA sn sc, .slice gA gn gc, .slice A m c] 26)).alloc (.cells #[.slice none 0 0] 23)).heap[w.heap.size]? = some (.cells #[.int .i64 x.kind, .slice sA sn sc, .slice gA gn gc, .slice A m c] 26 (0, 0)) := ((kbelow_push _ _).block _ (by simp)).trans (heap_alloc_new _ _)
 have hP : ((w.alloc (.cells #[.int .i64 x.kind, .slice sA sn sc, .slice gA gn gc, .slice A m c] 26)).alloc (.cells #[.slice none 0 0] 23)).heap[w.heap.size + 1]? = some (.cells #[.slice none 0 0] 23 (0, 0)) := by
  have := heap_alloc_new (w.alloc (.cells #[.int .i64 x.kind, .slice sA sn sc, .slice gA gn gc, .slice A m c] 26)) (.cells #[.slice none 0 0] 23)
  simpa using this
 have hs2 : ((w.alloc (.cells #[.int .i64 x.kind, .slice sA sn sc, .slice gA gn gc, .slice A m c] 26)).alloc (.cells #[.slice none 0 0] 23)).heap.size = w.heap.size + 2 := by simp
 unfold pb
 go_enter Try.func46, Try.ntmps46
 go_upto_region 2 with fail
 generalize hW2 : (w.alloc (.cells #[.int .i64 x.kind, .slice sA sn sc, .slice gA gn gc, .slice A m c] 26)).alloc (.cells #[.slice none 0 0] 23) = w2 at *
 clear hW2
 have D2 : Below w.heap.size w w2.drew := B2.drew
 have i0 := all_init (Rs := fun b => Sq (stp back l) (rwd back) [x] a b) hl hwk hbW D2 hs2 hP
 have hx0 : PtIn w2.drew (fun b => b < base) sA sn sc gA gn gc A m c x := hx.keep (fun _ h => h) (fun p hp => D2.cell (p := p) (by show p.block < w.heap.size; have : p.block < base := hp; omega))
 obtain ⟨o1, o2, o3, o4, o5⟩ := onceW_mem w2.drew (.func (.func 62) #[] #[pb (w.heap.size + 1)])
 have ho1 : (onceW w2.drew (.func (.func 62) #[] #[pb (w.heap.size + 1)])).heap.size = w.heap.size + 4 := by rw [o1]; show w2.heap.size + 2 = _; omega
 have HP := Lib.hid (part_any i0 (by show 0 ≤ _; omega) x.kind sA gA A sn sc gn gc m c (.func 74) #[pb (w.heap.size + 3), pb (w.heap.size + 2)])
 have HO := Lib.hid (once_any w2.drew (.func 62) #[pb (w.heap.size + 1)])
 obtain ⟨p0, p1, p2, p3⟩ := hcells4 hpb
 have HSf : Hid (∀ w' : World, (∀ b, b < w2.heap.size → b ≠ W → w'.heap[b]? = w2.heap[b]?) → w'.cell? ⟨w.heap.size, 0, none⟩ = some (.int .i64 x.kind) ∧ w'.cell? ⟨w.heap.size, 1, none⟩ = some (.slice sA sn sc) ∧ w'.cell? ⟨w.heap.size, 2, none⟩ = some (.slice gA gn gc) ∧ w'.cell? ⟨w.heap.size, 3, none⟩ = some (.slice A m c)) := by
  intro w' hb
  have e := hb w.heap.size (by omega) (by omega)
  exact ⟨(cell_eq e).trans p0, (cell_eq e).trans p1, (cell_eq e).trans p2, (cell_eq e).trans p3⟩
 simp only at HP
 unfold pb at HP HO ho1 o2 o5 i0
 rw [ho1] at HP
 unfold onceV pb at HP
 have HO2 : Hid (Calls Try.prog 61 #[.func (.func 62) #[] #[.pointer (some ⟨w.heap.size + 1, 0, none⟩)]] w2.drew (fun en w' => en = .returned (.func (.func 74) #[] #[.pointer (some ⟨w.heap.size + 3, 0, none⟩), .pointer (some ⟨w.heap.size + 2, 0, none⟩)]) ∧ w' = onceW w2.drew (.func (.func 62) #[] #[.pointer (some ⟨w.heap.size + 1, 0, none⟩)]))) := by
  refine HO.out.mono ?_
  rintro en w' ⟨rfl, rfl⟩
  have e : w2.drew.heap.size = w.heap.size + 2 := hs2
  refine ⟨?_, rfl⟩
  rw [e]
  rfl
 have HS0 := Lib.hid (HSf.out w2.drew fun b hb _ => rfl)
 have HS1 := Lib.hid (HSf.out (onceW w2.drew (.func (.func 62) #[] #[.pointer (some ⟨w.heap.size + 1, 0, none⟩)])) fun b hb _ => o2 b hb)
 have HO9 : Hid (∀ b, b < w2.heap.size → (onceW w2.drew (.func (.func 62) #[] #[.pointer (some ⟨w.heap.size + 1, 0, none⟩)])).heap[b]? = w2.heap[b]?) := fun b hb => o2 b hb
 have HI0 := Lib.hid i0
 have HX0 := Lib.hid (hx0.keep (w' := onceW w2.drew (.func (.func 62) #[] #[.pointer (some ⟨w.heap.size + 1, 0, none⟩)])) (fun _ h => h) (fun p hp => o5.cell (p := p) (by show p.block < w2.heap.size; have : p.block < base := hp; omega)))
 have HD2 := Lib.hid D2
 have HZ := Lib.hid (And.intro hs2 (And.intro ho1 (And.intro hWl (And.intro hbW (And.intro hxs (And.intro ha hlen))))))
 have HO5 : Hid (Below w2.heap.size w2.drew (onceW w2.drew (.func (.func 62) #[] #[.pointer (some ⟨w.heap.size + 1, 0, none⟩)]))) := o5
 clear HO p0 p1 p2 p3 i0 hx0 o1 o2 o3 o4 o5 hpb hP D2 B1 B2 hwk hl hx hWl hbW hxs ha hlen
 go_region_held_law (fun w' => w'.cell? ⟨w.heap.size, 0, none⟩ = some (.int .i64 x.kind) ∧ w'.cell? ⟨w.heap.size, 1, none⟩ = some (.slice sA sn sc) ∧ w'.cell? ⟨w.heap.size, 2, none⟩ = some (.slice gA gn gc) ∧ w'.cell? ⟨w.heap.size, 3, none⟩ = some (.slice A m c)) (first | with_reducible exact HSw.out | exact HSf.out _ (fun b hb hn => ((kbelow_push w4 _).block b (HW4.out b hb hn).1).trans (HW4.out b hb hn).2) | with_reducible exact HS1.out | with_reducible exact HS0.out) (first
  | (go_at_call 61; (with_reducible refine HO2.out.mono ?_); rintro en w3 ⟨rfl, rfl⟩)
  | (go_at_call 60; (with_reducible refine HP.out.mono ?_); rintro en w4 ⟨rfl, hm4⟩; have HM4 := Lib.hid hm4; have HW4 : Hid (∀ b, b < w2.heap.size → b ≠ W → b < w4.heap.size ∧ w4.heap[b]? = w2.heap[b]?) := (fun b hb hn => ⟨by have h1 := HM4.out.size; have h2 := HZ.out.1; omega, (HM4.out.old b (by have h2 := HZ.out.1; omega) hn).trans (HO9.out b hb)⟩); have HSw := Lib.hid (HSf.out w4 fun b hb hn => (HW4.out b hb hn).2); clear hm4))
 have HA0 : Hid (∃ now sk, sk.w = w4.alloc (.cells #[.func (.func 74) #[] #[.pointer (some ⟨w.heap.size + 4 + 5, 0, none⟩), .pointer (some ⟨w.heap.size + 4 + 4, 0, none⟩)]] 111) ∧ AllSt (⟨base, W, w.heap.size + 1, w.heap.size + 2, back, l, lA, ln, lc, fun b => Sq (stp back l) (rwd back) [x] a b⟩ : Ctx) now a sk ∧ NowRow (⟨base, W, w.heap.size + 1, w.heap.size + 2, back, l, lA, ln, lc, fun b => Sq (stp back l) (rwd back) [x] a b⟩ : Ctx) sk now (.slice (some ⟨w4.heap.size, 0, none⟩) 1 1) ∧ Below base w sk.w) := by
  obtain ⟨z1, z2, z3, z4, z5, z6, z7⟩ := HZ.out
  have hm := HM4.out
  obtain ⟨i1, st1⟩ := Inv.addp (x := x) (t := .top) HI0.out hm ⟨_, _, _, _, _, _, _, _, _, rfl, HX0.out⟩ (.inl rfl) a
  have hb5 := kbelow_push w4 (.cells #[.func (.func 74) #[] #[.pointer (some ⟨w.heap.size + 4 + 5, 0, none⟩), .pointer (some ⟨w.heap.size + 4 + 4, 0, none⟩)]] 111)
  obtain ⟨i5, st5⟩ := i1.on hb5 a
  have hn5 := heap_alloc_new w4 (.cells #[.func (.func 74) #[] #[.pointer (some ⟨w.heap.size + 4 + 5, 0, none⟩), .pointer (some ⟨w.heap.size + 4 + 4, 0, none⟩)]] 111)
  have hsz := hm.size
  have hbud := st5.bud
  have hbud1 := st1.bud
  have hlb : LB (w4.alloc (.cells #[.func (.func 74) #[] #[.pointer (some ⟨w.heap.size + 4 + 5, 0, none⟩), .pointer (some ⟨w.heap.size + 4 + 4, 0, none⟩)]] 111)) (w.heap.size + 4 + 5) (-1) := (hb5.block _ (by omega)).trans hm.h5
  refine ⟨[.part (w.heap.size + 4) x .top], _, rfl, ⟨i5, z6, ?_, fun n x' t z hp hl => ?_, fun z hl => ?_, fun t ht => ?_, fun t ht => ?_, fun b hb => .inr ⟨_, List.mem_cons_self, hb⟩, (fun z hz => by cases hz), List.Pairwise.nil, (fun z hz => by cases hz), ?_⟩, ⟨_, 1, 1, rfl, rfl, Nat.le_refl _, by unfold maxLen; omega, fun _ => ⟨w4.heap.size, rfl, by simp, fun hr => ?_, (fun e => by cases e), fun i u hu => ?_⟩⟩, ?_⟩
  ·have hb1 := hbud1
   have hb2 := hbud
   have e0 : unb (G0 W (w.heap.size + 1) (w.heap.size + 2)).inn (G0 W (w.heap.size + 1) (w.heap.size + 2)).ps = 0 := rfl
   simp only [e0] at hb1
   have hb3 : 0 + 1 + unb ((G0 W (w.heap.size + 1) (w.heap.size + 2)).addp (w.heap.size + 4) x .top).inn ((G0 W (w.heap.size + 1) (w.heap.size + 2)).addp (w.heap.size + 4) x .top).ps = x.size := by
    have hxp := x.size_pos
    show 0 + 1 + ((if Option.isNone (none : Option Inn) then x.size - 1 else 0) + 0) = x.size
    simp
    omega
   show 0 + 1 + unb ((G0 W (w.heap.size + 1) (w.heap.size + 2)).addp (w.heap.size + 4) x .top).inn ((G0 W (w.heap.size + 1) (w.heap.size + 2)).addp (w.heap.size + 4) x .top).ps ≤ 10000
   omega
  ·have hp' : Tl.part n x' t ∈ [Tl.part (w.heap.size + 4) x .top] := hp
   rw [List.mem_singleton] at hp'
   injection hp' with e1 e2 e3
   subst e1
   have hl' : LB (w4.alloc (.cells #[.func (.func 74) #[] #[.pointer (some ⟨w.heap.size + 4 + 5, 0, none⟩), .pointer (some ⟨w.heap.size + 4 + 4, 0, none⟩)]] 111)) (w.heap.size + 4 + 5) z := hl
   unfold LB at hl' hlb
   rw [hlb] at hl'
   simp at hl'
   exact .inl hl'.symm
  ·have h1 := HI0.out.g.topL
   have ho := HO9.out
   have hl' : LB (w4.alloc (.cells #[.func (.func 74) #[] #[.pointer (some ⟨w.heap.size + 4 + 5, 0, none⟩), .pointer (some ⟨w.heap.size + 4 + 4, 0, none⟩)]] 111)) (w.heap.size + 2 + 1) z := hl
   have hl3 : LB (onceW w2.drew (.func (.func 62) #[] #[.pointer (some ⟨w.heap.size + 1, 0, none⟩)])) (w.heap.size + 2 + 1) (-1) := by
    have h4 := (onceW_mem w2.drew (.func (.func 62) #[] #[.pointer (some ⟨w.heap.size + 1, 0, none⟩)])).2.2.2.1
    have e : w2.drew.heap.size = w.heap.size + 2 := z1
    rw [e] at h4
    exact h4
   have hl4 : LB (w4.alloc (.cells #[.func (.func 74) #[] #[.pointer (some ⟨w.heap.size + 4 + 5, 0, none⟩), .pointer (some ⟨w.heap.size + 4 + 4, 0, none⟩)]] 111)) (w.heap.size + 2 + 1) (-1) := (hb5.block _ (by omega)).trans ((hm.old _ (by omega) (by show w.heap.size + 2 + 1 ≠ W; omega)).trans hl3)
   unfold LB at hl' hl4
   rw [hl4] at hl'
   simp at hl'
   exact .inl hl'.symm
  ·rw [List.mem_singleton.1 ht]
   exact .inr List.mem_cons_self
  ·rw [List.mem_singleton.1 ht]
   exact fun b hb => hb
  ·unfold Rnd
   split
   ·show 0 + a ≤ l.length; omega
   ·show 0 ≤ a; omega
  ·have hr' : (W = w4.heap.size ∨ True) := .inr trivial
   rcases hr with h1 | h1
   ·have h2 : w4.heap.size = W ∨ w4.heap.size = w.heap.size + 1 ∨ w4.heap.size = w.heap.size + 2 ∨ w4.heap.size = w.heap.size + 2 + 1 := h1
    omega
   ·have h2 : w.heap.size + 4 ≤ w4.heap.size ∧ w4.heap.size < w.heap.size + 4 + 6 := h1
    omega
  ·match i, hu with
   | 0, hu =>
    injection hu with hu
    subst hu
    rw [cell_of_row _ _ _ _ _ _ hn5]
    rfl
  ·have q1 : Below base w w2.drew := HD2.out.mono (by omega)
   have q2 : Below base w2.drew (onceW w2.drew (.func (.func 62) #[] #[.pointer (some ⟨w.heap.size + 1, 0, none⟩)])) := HO5.out.mono (by omega)
   have q3 : Below base (onceW w2.drew (.func (.func 62) #[] #[.pointer (some ⟨w.heap.size + 1, 0, none⟩)])) w4 := hm.bel
   have q4 := hb5.mono (show base ≤ w4.heap.size by omega)
   exact ((q1.trans q2).trans q3).trans q4
 clear HP HO2 HS0 HS1 HSf HO9 HI0 HX0 HO5 HD2 HM4 HW4 HSw
 have HCW : Hid ((⟨base, W, w.heap.size + 1, w.heap.size + 2, back, l, lA, ln, lc, fun b => Sq (stp back l) (rwd back) [x] a b⟩ : Ctx).W = W ∧ (⟨base, W, w.heap.size + 1, w.heap.size + 2, back, l, lA, ln, lc, fun b => Sq (stp back l) (rwd back) [x] a b⟩ : Ctx).l.length ≤ 1000000 ∧ (⟨base, W, w.heap.size + 1, w.heap.size + 2, back, l, lA, ln, lc, fun b => Sq (stp back l) (rwd back) [x] a b⟩ : Ctx).P = w.heap.size + 1 ∧ (⟨base, W, w.heap.size + 1, w.heap.size + 2, back, l, lA, ln, lc, fun b => Sq (stp back l) (rwd back) [x] a b⟩ : Ctx).base = base) := ⟨rfl, HZ.out.2.2.2.2.2.2, rfl, rfl⟩
 generalize hC : (⟨base, W, w.heap.size + 1, w.heap.size + 2, back, l, lA, ln, lc, fun b => Sq (stp back l) (rwd back) [x] a b⟩ : Ctx) = C at HA0 HCW
 have HC := Lib.hid hC
 clear hC HZ hs2 ho1
 generalize w4.alloc (.cells #[.func (.func 74) #[] #[.pointer (some ⟨w.heap.size + 4 + 5, 0, none⟩), .pointer (some ⟨w.heap.size + 4 + 4, 0, none⟩)]] 111) = w5 at HA0 ⊢
 go_wp2_with fail
 go_loopw [8, 9] (fun nowv atv wx => ∃ (now : List Tl) (sk : Sta) (z : Int), sk.w = wx ∧ atv = .int .i64 z ∧ NowRow C sk now nowv ∧ Below base w sk.w ∧ ((∃ k : Nat, z = k ∧ AllSt C now k sk) ∨ (now = [] ∧ DoneSt C sk))) (fun _ atv _ => if C.back then (intOf atv + 1).toNat else ((C.l.length : Int) + 1 - intOf atv).toNat)
 case atStart =>
  obtain ⟨now, sk, e, h1, h2, h3⟩ := HA0.out
  exact ⟨now, sk, a, e, rfl, h2, h3, .inl ⟨a, rfl, h1⟩⟩
 case round =>
  obtain ⟨now, sk, z, rfl, rfl, hrow, hbel, hst⟩ := hrel
  obtain ⟨rA, rn, rc, rfl, hnl, hnc, hncm, hcells⟩ := hrow
  by_cases hn0 : rn = 0
  ·have hne : now = [] := List.eq_nil_of_length_eq_zero (by omega)
   have hdone : DoneSt C sk := by
    rcases hst with ⟨k, _, h1⟩ | ⟨_, h1⟩
    ·exact h1.fin hne
    ·exact h1
   subst hn0
   obtain ⟨pA, pc, hpv, _⟩ := hdone.inv.st.pr.rd
   have cP : sk.w.cell? ⟨w.heap.size + 1, 0, none⟩ = some (.slice pA sk.pl.length pc) := by
    have := hdone.inv.st.p0
    rw [HCW.out.2.2.1] at this
    rw [cell_of_row _ _ _ _ _ _ this, hpv]; rfl
   have HF : Hid (AllP (⟨base, W, w.heap.size + 1, w.heap.size + 2, back, l, lA, ln, lc, fun b => Sq (stp back l) (rwd back) [x] a b⟩ : Ctx) w (.returned (.slice pA sk.pl.length pc)) sk.w) := by
    have e := HC.out
    subst e
    exact ⟨sk, rfl, by rw [hpv], hdone, hbel⟩
   clear hst hdone hcells hbel
   go_wp2_with fail
   go_ret
   exact HF.out
  ·obtain ⟨k, rfl, hal⟩ := hst.resolve_right fun h0 => hn0 (by rw [← hnl, h0.1]; rfl)
   obtain ⟨rb, rfl, hrb, hrR, hrp, hrc⟩ := hcells (by omega)
   have hgg := hal.inv.g
   have hWlt := (hgg.rlt _ hgg.rm.1).1
   rw [HCW.out.1] at hWlt
   have hwkc := hal.inv.st.wk
   rw [HCW.out.1] at hwkc
   have cW2 : sk.w.cell? ⟨W, 2, none⟩ = some sk.nv := (hcells4 hwkc).2.2.1
   have fW2 : sk.w.frozen? ⟨W, 2, none⟩ = false := frozen_of_row _ _ _ _ _ hwkc
   have hz0 : 0 < rn := Nat.pos_of_ne_zero hn0
   have hz00 : decide (0 < rn) = true := decide_eq_true hz0
   have hfr : (sk.fresh C).w = sk.w.setCell ⟨W, 2, none⟩ (.slice none 0 0) := by show sk.w.setCell ⟨C.W, 2, none⟩ _ = _; rw [HCW.out.1]
   have hcan := hal.can HCW.out.2.1
   have HIN0 : Hid (InSt C sk k now 0 (sk.fresh C)) := ⟨hal.inv.fresh, Step.refl _ _ _, fun u hu => by simp at hu, Nat.le_refl _⟩
   have HAL := Lib.hid hal
   have HBEL := Lib.hid hbel
   have HROW : Hid (rb < sk.w.heap.size ∧ ¬ sk.G.R rb ∧ sk.pv.ownBlock ≠ some rb ∧ ∀ (i : Nat) (u : Tl), now[i]? = some u → sk.w.cell? ⟨rb, i, none⟩ = some (u.val C.c)) := ⟨hrb, hrR, hrp, hrc⟩
   have HCAN := Lib.hid hcan
   have HNL := Lib.hid (And.intro hnl (And.intro hnc hncm))
   have HFR := Lib.hid hfr
   obtain ⟨nA, nn, nc, hnv⟩ : ∃ nA nn nc, sk.nv = .slice nA nn nc := by
    obtain ⟨nA, nn, nc, e, _⟩ := NowRow.of_nv hal.inv
    exact ⟨nA, nn, nc, e⟩
   rw [hnv] at cW2
   clear hal hbel hrb hrR hrp hrc hcan hnl hnc hncm hfr hcells hst hgg hwkc hnv
   go_wp2_with fail
   go_loopw [30] (fun iv wx => ∃ (j : Nat) (sj : Sta), j ≤ rn ∧ iv = .int .i64 j ∧ sj.w = wx ∧ InSt C sk k now j sj) (fun iv _ => rn - (intOf iv).toNat)
   case atStart => exact ⟨0, sk.fresh C, Nat.zero_le _, rfl, HFR.out, HIN0.out⟩
   case round =>
    obtain ⟨j, sj, hj, rfl, rfl, hin⟩ := hrel
    by_cases hjl : j < rn
    ·have hjn : j < now.length := by have := HNL.out.1; omega
     have hu := List.getElem?_eq_getElem hjn
     have hmem : now[j] ∈ now := List.getElem_mem _
     have hrbW : rb ≠ C.W := fun e => HROW.out.2.1 (e ▸ HAL.out.inv.g.rm.1)
     have hsame : sj.w.heap[rb]? = sk.w.heap[rb]? := by
      have h1 := hin.st.keep rb (by rw [HFR.out]; simpa using HROW.out.1) HROW.out.2.1 (by intro e; cases e) HROW.out.2.2.1
      refine h1.trans ?_
      rw [HFR.out]
      exact Below.heap_setCell _ _ _ _ (by show rb ≠ W; rw [← HCW.out.1]; exact hrbW)
     have c1 := (cell_eq hsame).trans (HROW.out.2.2.2 j _ hu)
     rw [Tl.val_eq] at c1
     have hcj := HCAN.out.step hin.inv hin.st hin.ln
     have HCL := Lib.hid (tell_any HAL.out.le _ now[j] sj hcj (hin.st.ex (HAL.out.ex _ hmem)) (HAL.out.snd _ hmem))
     have eg := now[j].enters
     have hz1 : (0 : Int) ≤ (j : Int) := Int.natCast_nonneg _
     have hz2 : (j : Int) < (rn : Int) := Int.ofNat_lt.2 hjl
     have hzk : IntKind.i64.wrap ((j : Int) + 1) = (j : Int) + 1 := IntWalk.i64_in _ (by have h1 := HNL.out.2.1; have h2 := HNL.out.2.2; unfold maxLen at h2; omega)
     have HIJ := Lib.hid hin
     have HJ := Lib.hid (And.intro hjl (And.intro hu hmem))
     clear hin hcj hsame hrbW hu hmem
     generalize hf : now[j].fn = f1 at *
     generalize hp : now[j].cap C.c = p1 at *
     clear hf hp
     go_wp2_with fail
     refine HCL.out.mono ?_
     rintro en w6 ⟨rfl, s6, rfl, hi6, st6, cv6, ln6⟩
     have HN6 : Hid (InSt C sk k now (j + 1) s6) := by
      have ho := HIJ.out
      refine ⟨hi6, ho.st.trans st6 ho.inv.g, fun u hu => ?_, Nat.le_trans ln6 ho.ln⟩
      rw [List.take_add_one, HJ.out.2.1] at hu
      rcases List.mem_append.1 hu with h1 | h1
      ·exact st6.told _ (ho.st.ex (HAL.out.ex _ (List.mem_of_mem_take h1))) (ho.cov _ h1)
      ·simp at h1; subst h1; exact cv6
     clear hi6 st6 cv6 ln6 c1
     go_wp2_with fail
     go_roundw
     case rel => exact ⟨j + 1, s6, by have := HJ.out.1; omega, by go_num, rfl, HN6.out⟩
     case measure => have := HJ.out.1; simp [intOf]; omega
    ·have hjr : j = rn := by omega
     have hcov : ∀ t ∈ now, Cov C sj.w k t := fun t ht => hin.cov t (by rw [List.take_of_length_le (by have := HNL.out.1; omega)]; exact ht)
     obtain ⟨hx1, hx2⟩ := HAL.out.next hin.inv hin.st hcov
     have HNX : Hid ((sj.nx = [] → DoneSt C sj) ∧ (sj.nx ≠ [] → AllSt C sj.nx (nextF C.back k) sj ∧ (C.back = true → 1 ≤ k))) := ⟨hx1, hx2⟩
     have hnr := NowRow.of_nv hin.inv
     have HNR := Lib.hid hnr
     obtain ⟨qA, qn, qc, hqv, _⟩ := hnr
     have hwk6 := hin.inv.st.wk
     rw [HCW.out.1] at hwk6
     have d2 : sj.w.cell? ⟨W, 2, none⟩ = some (.slice qA qn qc) := by rw [← hqv]; exact (hcells4 hwk6).2.2.1
     rw [hqv] at HNR
     have hkle := HAL.out.le
     have HBE := Lib.hid (behind_any hin.inv (k : Int) (by have := HCW.out.2.1; omega))
     unfold pb at HBE
     rw [HCW.out.1] at HBE
     have HB6 : Hid (Below base w sj.w) := by
      have hb1 := hin.st.bel
      rw [HCW.out.2.2.2] at hb1
      have hb0 : Below base w (sk.fresh C).w := by
       rw [HFR.out]
       refine HBEL.out.setCell (p := ⟨W, 2, none⟩) ?_ _
       have h1 := HAL.out.inv.g.ord.1
       rw [HCW.out.1, HCW.out.2.2.2] at h1
       exact h1
      exact hb0.trans hb1
     have HKL := Lib.hid hkle
     clear hin hcov hx1 hx2 hqv hwk6 hj hjl hkle
     go_wp2_with fail
     refine HBE.out.mono ?_
     rintro en w7 ⟨rfl, rfl⟩
     go_wp2_with fail
     go_roundw
     case rel =>
      refine ⟨sj.nx, sj, _, rfl, rfl, HNR.out, HB6.out, ?_⟩
      by_cases hnx : sj.nx = []
      ·exact .inr ⟨hnx, HNX.out.1 hnx⟩
      ·obtain ⟨h1, h2⟩ := HNX.out.2 hnx
       refine .inl ⟨_, ?_, h1⟩
       unfold nextF
       cases hb : C.back with
       | true => have := h2 hb; simp; omega
       | false => simp
     case measure =>
      have := HKL.out
      cases hb : C.back with
      | true => first | (simp [intOf]; done) | (simp [intOf]; omega)
      | false => first | (simp [intOf]; done) | (simp [intOf]; omega)
end
end Go.Proofs.Ytpllgfhocedgmaa
namespace Go.Proofs.Ytpllgfhocedgmaa
open Go.RowKit Go.Shelf

structure ResF (back : Bool) (l : List Int) (x : Pt) (a : Nat) (pl : List Int) : Prop where
 mem : ∀ b : Nat, (b : Int) ∈ pl ↔ Sq (stp back l) (rwd back) [x] a b
 pos : ∀ z ∈ pl, 0 ≤ z
 ord : pl.Pairwise (fun y z => if back then z < y else y < z)
def RchP (back : Bool) (l : List Int) (x : Pt) (a : Nat) (w : World) (en : Ending) (w' : World) : Prop := ∃ A n c pl, en = .returned (.slice A n c) ∧ Below w.heap.size w w' ∧ OwnK .i64 w' w.heap.size 3 (.slice A n c) n pl ∧ ResF back l x a pl
theorem OwnK.inAt {w : World} {B : Nat} {A : Option Addr} {n c : Nat} {L : List Int} (h : OwnK .i64 w B 3 (.slice A n c) n L) : InAt w (Bl w) A n c L := by
 obtain ⟨A', c', e, hr⟩ := h.rd
 injection e with e1 _ e3
 subst e1 e3
 exact hr.inAt
set_option maxHeartbeats 1000000 in
theorem reached_any {w : World} {back : Bool} {l : List Int} {lA : Option Addr} {ln lc : Nat} (hl : InAt w (Bl w) lA ln lc l) (hlen : l.length ≤ 1000000) {x : Pt} {sA gA A : Option Addr} {sn sc gn gc m c : Nat} (hx : PtIn w (Bl w) sA sn sc gA gn gc A m c x) (hxs : x.size ≤ 10000) {a : Nat} (ha : a ≤ l.length) :
  Calls Try.prog 29 #[.agg #[.int .i64 x.kind, .slice sA sn sc, .slice gA gn gc, .slice A m c], .agg #[.slice lA ln lc, .bool back, .slice none 0 0, .int .i64 0], .int .i64 a] w (RchP back l x a w) := by
 have B1 := kbelow_push w (.cells #[.int .i64 x.kind, .slice sA sn sc, .slice gA gn gc, .slice A m c] 26)
 have B2 := B1.alloc B1.size (.cells #[.slice lA ln lc, .bool back, .slice none 0 0, .int .i64 0] 66)
 have hpb : ((w.alloc (.cells #[.int .i64 x.kind, .slice sA sn sc, .slice gA gn gc, .slice A m c] 26)).alloc (.cells #[.slice lA ln lc, .bool back, .slice none 0 0, .int .i64 0] 66)).heap[w.heap.size]? = some (.cells #[.int .i64 x.kind, .slice sA sn sc, .slice gA gn gc, .slice A m c] 26 (0, 0)) := ((kbelow_push _ _).block _ (by simp)).trans (heap_alloc_new _ _)
 have hwk : ((w.alloc (.cells #[.int .i64 x.kind, .slice sA sn sc, .slice gA gn gc, .slice A m c] 26)).alloc (.cells #[.slice lA ln lc, .bool back, .slice none 0 0, .int .i64 0] 66)).heap[w.heap.size + 1]? = some (.cells #[.slice lA ln lc, .bool back, .slice none 0 0, .int .i64 0] 66 (0, 0)) := by
  have := heap_alloc_new (w.alloc (.cells #[.int .i64 x.kind, .slice sA sn sc, .slice gA gn gc, .slice A m c] 26)) (.cells #[.slice lA ln lc, .bool back, .slice none 0 0, .int .i64 0] 66)
  simpa using this
 have HB2 := Lib.hid B2
 have HC := Lib.hid (all_any (base := w.heap.size) (hl.keep (S' := fun b => b < w.heap.size) (fun _ h => h) (fun p hp => B2.cell (p := p) hp)) hwk (by omega) hlen (hx.keep (S' := fun b => b < w.heap.size) (fun _ h => h) (fun p hp => B2.cell (p := p) hp)) hxs ha)
 obtain ⟨p0, p1, p2, p3⟩ := hcells4 hpb
 have HL := Lib.hid hlen
 unfold pb at HC
 clear B1 B2 hpb hwk hl hx hlen
 go_enter Try.func29, Try.ntmps29
 go_wp2_with fail
 refine HC.out.mono ?_
 rintro en w4 ⟨sk, rfl, rfl, hd, hb⟩
 have hmn : sk.mn ≤ 10000 := by have := hd.bud; omega
 have hwk4 := hd.inv.st.wk
 obtain ⟨e0, e1, e2, e3⟩ := hcells4 hwk4
 have e3' : sk.w.cell? ⟨w.heap.size + 1, 3, none⟩ = some (.int .i64 sk.mn) := e3
 have hmi : (sk.mn : Int) ≤ 10000 := by omega
 obtain ⟨pA, pc, hpv, _⟩ := hd.inv.st.pr.rd
 have HF : Hid (RchP back l x a w (.returned (.slice pA sk.pl.length pc)) sk.w) := by
  have hpr := hd.inv.st.pr
  rw [hpv] at hpr
  refine ⟨pA, _, pc, sk.pl, rfl, HB2.out.trans (hb.mono (Nat.le_refl _)), hpr, ⟨fun b => ⟨fun hm => ?_, fun hs => hd.cmp b hs⟩, fun z hz => ?_, hd.ord⟩⟩
  ·obtain ⟨b', e, hs⟩ := hd.ok _ hm
   have : b = b' := by omega
   subst this
   exact hs
  ·obtain ⟨b', e, _⟩ := hd.ok _ hz
   omega
 rw [hpv]
 clear hd hb hmn hwk4 e0 e1 e2 e3 hpv
 go_wp2_with fail
 go_ret
 exact HF.out
def MtI (l : List Int) (x : Pt) (f t : Int) : Prop := ∃ a b : Nat, f = a ∧ t = b ∧ a ≤ b ∧ b ≤ l.length ∧ Mt l x a b
structure EndF (l : List Int) (x : Pt) (f : Int) (pl : List Int) : Prop where
 mem : ∀ z : Int, z ∈ pl ↔ MtI l x f z
 ord : pl.Pairwise (· < ·)
def EndP (l : List Int) (x : Pt) (f : Int) (w : World) (en : Ending) (w' : World) : Prop := ∃ A n c pl, en = .returned (.slice A n c) ∧ Below w.heap.size w w' ∧ InAt w' (Bl w') A n c pl ∧ EndF l x f pl
set_option maxHeartbeats 1000000 in
theorem ends_any {w : World} {l : List Int} {lA : Option Addr} {ln lc : Nat} (hl : InAt w (Bl w) lA ln lc l) (hlen : l.length ≤ 1000000) {x : Pt} {sA gA A : Option Addr} {sn sc gn gc m c : Nat} (hx : PtIn w (Bl w) sA sn sc gA gn gc A m c x) (hxs : x.size ≤ 10000) (f : Int) :
  Calls Try.prog 13 #[.agg #[.int .i64 x.kind, .slice sA sn sc, .slice gA gn gc, .slice A m c], .slice lA ln lc, .int .i64 f] w (EndP l x f w) := by
 have B1 := kbelow_push w (.cells #[.int .i64 x.kind, .slice sA sn sc, .slice gA gn gc, .slice A m c] 26)
 have hpb := heap_alloc_new w (.cells #[.int .i64 x.kind, .slice sA sn sc, .slice gA gn gc, .slice A m c] 26)
 obtain ⟨p0, p1, p2, p3⟩ := hcells4 hpb
 have hln := hl.len
 have HB1 := Lib.hid B1
 by_cases hin : 0 ≤ f ∧ f ≤ (ln : Int)
 ·obtain ⟨a, rfl⟩ := Int.eq_ofNat_of_zero_le hin.1
  have hal : a ≤ l.length := by omega
  have HC := Lib.hid (reached_any (back := false) (hl.on B1) hlen (hx.keep (S' := Bl (w.alloc (.cells #[.int .i64 x.kind, .slice sA sn sc, .slice gA gn gc, .slice A m c] 26))) (fun b hb => Nat.lt_of_lt_of_le hb B1.size) (fun p hp => B1.cell (p := p) hp)) hxs hal)
  have g1 : ¬ (a : Int) < 0 := by omega
  have g2 : ¬ (ln : Int) < (a : Int) := by omega
  have g3 : ¬ ln < a := by omega
  clear hl hx B1 hpb hin
  go_enter Try.func13, Try.ntmps13
  go_wp2_with fail
  refine HC.out.mono ?_
  rintro en w2 ⟨A2, n2, c2, pl, rfl, hb2, ho2, hr2⟩
  have HF : Hid (EndP l x (a : Int) w (.returned (.slice A2 n2 c2)) w2) := by
   refine ⟨A2, n2, c2, pl, rfl, HB1.out.trans (hb2.mono HB1.out.size), ho2.inAt, ⟨fun z => ⟨fun hz => ?_, fun hz => ?_⟩, hr2.ord.imp fun h => by simpa using h⟩⟩
   ·obtain ⟨b, rfl⟩ := Int.eq_ofNat_of_zero_le (hr2.pos z hz)
    have hs : Mt l x a b := (hr2.mem b).1 hz
    have hu := hs.up
    exact ⟨a, b, rfl, rfl, hu.1, by omega, hs⟩
   ·obtain ⟨a', b, e1, rfl, _, _, hs⟩ := hz
    have : a = a' := by omega
    subst this
    exact (hr2.mem b).2 hs
  clear hb2 ho2 hr2
  go_wp2_with fail
  go_ret
  exact HF.out
 ·have HF : Hid (EndP l x f w (.returned (.slice none 0 0)) (w.alloc (.cells #[.int .i64 x.kind, .slice sA sn sc, .slice gA gn gc, .slice A m c] 26))) := by
   refine ⟨none, 0, 0, [], rfl, B1, InAt.nil _ _, ⟨fun z => ⟨(fun hz => by cases hz), fun hz => ?_⟩, List.Pairwise.nil⟩⟩
   obtain ⟨a, b, rfl, rfl, h1, h2, _⟩ := hz
   omega
  by_cases h0 : f < 0
  ·clear hl hx B1 hpb hin
   go_enter Try.func13, Try.ntmps13
   go_wp2_with fail
   go_ret
   exact HF.out
  ·have h1 : (ln : Int) < f := by omega
   clear hl hx B1 hpb hin
   go_enter Try.func13, Try.ntmps13
   go_wp2_with fail
   go_ret
   exact HF.out
end Go.Proofs.Ytpllgfhocedgmaa
namespace Go.Proofs.Ytpllgfhocedgmaa
open Go.RowKit Go.Shelf

def BoP (P : Prop) (w : World) (en : Ending) (w' : World) : Prop := ∃ r : Bool, en = .returned (.bool r) ∧ (r = true ↔ P) ∧ Below w.heap.size w w'
theorem InAt.take {w : World} {S : Nat → Prop} {A : Option Addr} {n c : Nat} {L : List Int} (h : InAt w S A n c L) {k : Nat} (hk : k ≤ n) : InAt w S A k c (L.take k) := by
 refine ⟨by rw [List.length_take, h.len]; omega, Nat.le_trans hk h.cap, h.capm, fun hn => ?_⟩
 obtain ⟨b, off, e, hb, hc⟩ := h.at_ (by omega)
 refine ⟨b, off, e, hb, fun j x hx => hc j x ?_⟩
 have := (List.getElem?_eq_some_iff.1 hx).1
 rw [List.length_take] at this
 rwa [List.getElem?_take_of_lt (by omega)] at hx
theorem MtI.take {l : List Int} {x : Pt} {f : Int} {t : Nat} (ht : t ≤ l.length) : MtI (l.take t) x f t ↔ MtI l x f t := by
 constructor
 ·rintro ⟨a, b, rfl, e, h1, h2, hm⟩
  have : t = b := by omega
  subst this
  exact ⟨a, t, rfl, rfl, h1, ht, (Mt.take_iff (Nat.le_refl t)).1 hm⟩
 ·rintro ⟨a, b, rfl, e, h1, h2, hm⟩
  have : t = b := by omega
  subst this
  exact ⟨a, t, rfl, rfl, h1, by rw [List.length_take]; omega, (Mt.take_iff (Nat.le_refl t)).2 hm⟩
set_option maxHeartbeats 2000000 in
theorem matches_any {w : World} {l : List Int} {lA : Option Addr} {ln lc : Nat} (hl : InAt w (Bl w) lA ln lc l) (hlen : l.length ≤ 1000000) {x : Pt} {sA gA A : Option Addr} {sn sc gn gc m c : Nat} (hx : PtIn w (Bl w) sA sn sc gA gn gc A m c x) (hxs : x.size ≤ 10000) (f t : Int) :
  Calls Try.prog 15 #[.agg #[.int .i64 x.kind, .slice sA sn sc, .slice gA gn gc, .slice A m c], .slice lA ln lc, .int .i64 f, .int .i64 t] w (BoP (MtI l x f t) w) := by
 have B1 := kbelow_push w (.cells #[.int .i64 x.kind, .slice sA sn sc, .slice gA gn gc, .slice A m c] 26)
 have hpb := heap_alloc_new w (.cells #[.int .i64 x.kind, .slice sA sn sc, .slice gA gn gc, .slice A m c] 26)
 obtain ⟨p0, p1, p2, p3⟩ := hcells4 hpb
 have hln := hl.len
 have HB1 := Lib.hid B1
 by_cases hin : 0 ≤ f ∧ f ≤ t ∧ t ≤ (ln : Int)
 ·obtain ⟨k, rfl⟩ := Int.eq_ofNat_of_zero_le (show 0 ≤ t by omega)
  have hkl : k ≤ ln := by omega
  have D1 : Below w.heap.size w (w.alloc (.cells #[.int .i64 x.kind, .slice sA sn sc, .slice gA gn gc, .slice A m c] 26)).drew := B1.drew
  have HD1 := Lib.hid D1
  have HC := Lib.hid (ends_any ((hl.take hkl).on D1) (by rw [List.length_take]; omega) (hx.keep (S' := Bl (w.alloc (.cells #[.int .i64 x.kind, .slice sA sn sc, .slice gA gn gc, .slice A m c] 26)).drew) (fun b hb => Nat.lt_of_lt_of_le hb D1.size) (fun p hp => D1.cell (p := p) hp)) hxs f)
  have HMT := Lib.hid (MtI.take (l := l) (x := x) (f := f) (t := k) (by omega))
  have g1 : ¬ f < 0 := by omega
  have g2 : ¬ (k : Int) < f := by omega
  have g3 : ¬ (ln : Int) < (k : Int) := by omega
  have g4 : ¬ ln < k := by omega
  have z1 : (0 : Int) ≤ (k : Int) := by omega
  have z2 : (k : Int) ≤ (lc : Int) := by have := hl.cap; omega
  have HS0 : Hid ((w.alloc (.cells #[.int .i64 x.kind, .slice sA sn sc, .slice gA gn gc, .slice A m c] 26)).drew.cell? ⟨w.heap.size, 0, none⟩ = some (.int .i64 x.kind) ∧ (w.alloc (.cells #[.int .i64 x.kind, .slice sA sn sc, .slice gA gn gc, .slice A m c] 26)).drew.cell? ⟨w.heap.size, 1, none⟩ = some (.slice sA sn sc) ∧ (w.alloc (.cells #[.int .i64 x.kind, .slice sA sn sc, .slice gA gn gc, .slice A m c] 26)).drew.cell? ⟨w.heap.size, 2, none⟩ = some (.slice gA gn gc) ∧ (w.alloc (.cells #[.int .i64 x.kind, .slice sA sn sc, .slice gA gn gc, .slice A m c] 26)).drew.cell? ⟨w.heap.size, 3, none⟩ = some (.slice A m c)) := ⟨p0, p1, p2, p3⟩
  have HSf : Hid (∀ w' : World, Below (w.alloc (.cells #[.int .i64 x.kind, .slice sA sn sc, .slice gA gn gc, .slice A m c] 26)).drew.heap.size (w.alloc (.cells #[.int .i64 x.kind, .slice sA sn sc, .slice gA gn gc, .slice A m c] 26)).drew w' → w'.cell? ⟨w.heap.size, 0, none⟩ = some (.int .i64 x.kind) ∧ w'.cell? ⟨w.heap.size, 1, none⟩ = some (.slice sA sn sc) ∧ w'.cell? ⟨w.heap.size, 2, none⟩ = some (.slice gA gn gc) ∧ w'.cell? ⟨w.heap.size, 3, none⟩ = some (.slice A m c)) := by
   intro w' hb
   have e : w.heap.size < (w.alloc (.cells #[.int .i64 x.kind, .slice sA sn sc, .slice gA gn gc, .slice A m c] 26)).drew.heap.size := by simp
   exact ⟨(hb.cell (p := ⟨_, 0, none⟩) e).trans p0, (hb.cell (p := ⟨_, 1, none⟩) e).trans p1, (hb.cell (p := ⟨_, 2, none⟩) e).trans p2, (hb.cell (p := ⟨_, 3, none⟩) e).trans p3⟩
  have HCA := Lib.hid hl.cap
  clear hl hx B1 hpb hin D1
  go_enter Try.func15, Try.ntmps15
  go_upto_region 3 with fail
  go_region_held_law (fun w' => w'.cell? ⟨w.heap.size, 0, none⟩ = some (.int .i64 x.kind) ∧ w'.cell? ⟨w.heap.size, 1, none⟩ = some (.slice sA sn sc) ∧ w'.cell? ⟨w.heap.size, 2, none⟩ = some (.slice gA gn gc) ∧ w'.cell? ⟨w.heap.size, 3, none⟩ = some (.slice A m c)) (first | with_reducible exact HSw.out | with_reducible exact HS0.out) (first
   | (go_at_call 13; (with_reducible refine HC.out.mono ?_); rintro en w2 ⟨A2, n2, c2, pl, rfl, hb2, ho2, hr2⟩; have HSw := Lib.hid (HSf.out w2 hb2); have HB2 := Lib.hid (HD1.out.trans (hb2.mono HD1.out.size)); have HCO := Lib.hid (contains_any ho2 (k : Int)); have HR2 := Lib.hid hr2; clear hb2 ho2 hr2)
   | (go_at_call 31; (with_reducible refine HCO.out.mono ?_); rintro en w3 ⟨rfl, rfl⟩))
  go_wp2_with fail
  go_ret
  exact ⟨_, rfl, by rw [decide_eq_true_iff, HR2.out.mem]; exact HMT.out, HB2.out⟩
 ·have HF : Hid (BoP (MtI l x f t) w (.returned (.bool false)) (w.alloc (.cells #[.int .i64 x.kind, .slice sA sn sc, .slice gA gn gc, .slice A m c] 26))) := ⟨false, rfl, ⟨(fun h => by cases h), fun ⟨a, b, e1, e2, h1, h2, _⟩ => by omega⟩, B1⟩
  by_cases h0 : f < 0
  ·clear hl hx B1 hpb hin
   go_enter Try.func15, Try.ntmps15
   go_wp2_with fail
   go_ret
   exact HF.out
  ·by_cases h1 : t < f
   ·clear hl hx B1 hpb hin
    go_enter Try.func15, Try.ntmps15
    go_wp2_with fail
    go_ret
    exact HF.out
   ·have h2 : (ln : Int) < t := by omega
    clear hl hx B1 hpb hin
    go_enter Try.func15, Try.ntmps15
    go_wp2_with fail
    go_ret
    exact HF.out
theorem null_any {w : World} {x : Pt} {sA gA A : Option Addr} {sn sc gn gc m c : Nat} (hx : PtIn w (Bl w) sA sn sc gA gn gc A m c x) (hxs : x.size ≤ 10000) :
  Calls Try.prog 17 #[.agg #[.int .i64 x.kind, .slice sA sn sc, .slice gA gn gc, .slice A m c]] w (BoP (Mt [] x 0 0) w) := by
 have B1 := kbelow_push w (.cells #[.int .i64 x.kind, .slice sA sn sc, .slice gA gn gc, .slice A m c] 26)
 have hpb := heap_alloc_new w (.cells #[.int .i64 x.kind, .slice sA sn sc, .slice gA gn gc, .slice A m c] 26)
 obtain ⟨p0, p1, p2, p3⟩ := hcells4 hpb
 have HC := Lib.hid (matches_any (w := w.alloc (.cells #[.int .i64 x.kind, .slice sA sn sc, .slice gA gn gc, .slice A m c] 26)) (InAt.nil _ _) (by simp) (hx.keep (S' := Bl (w.alloc (.cells #[.int .i64 x.kind, .slice sA sn sc, .slice gA gn gc, .slice A m c] 26))) (fun b hb => Nat.lt_of_lt_of_le hb B1.size) (fun p hp => B1.cell (p := p) hp)) hxs 0 0)
 have HB1 := Lib.hid B1
 clear B1 hpb hx
 go_enter Try.func17, Try.ntmps17
 go_wp2_with fail
 refine HC.out.mono ?_
 rintro en w2 ⟨r, rfl, hr, hb⟩
 have HF : Hid (BoP (Mt [] x 0 0) w (.returned (.bool r)) w2) := ⟨r, rfl, hr.trans ⟨fun ⟨a, b, e1, e2, _, h2, hm⟩ => by
  have h3 : b = 0 := by simpa using h2
  have h4 : a = 0 := by omega
  subst h3 h4
  exact hm, fun hm => ⟨0, 0, rfl, rfl, Nat.le_refl _, Nat.zero_le _, hm⟩⟩, HB1.out.trans (hb.mono HB1.out.size)⟩
 clear hr hb
 go_wp2_with fail
 go_ret
 exact HF.out
end Go.Proofs.Ytpllgfhocedgmaa
namespace Go.Proofs.Ytpllgfhocedgmaa
open Go.RowKit Go.Shelf

set_option maxHeartbeats 1000000 in
theorem clone_int {w : World} {A : Option Addr} {n c : Nat} {l : List Int} (h : InAt w (Bl w) A n c l) (hn6 : n ≤ 1000000) : Calls Try.prog 43 #[.slice A n c] w (fun en w' => ∃ A' c', en = .returned (.slice A' n c') ∧ OwnK .i64 w' w.heap.size 3 (.slice A' n c') n l ∧ Below w.heap.size w w') := by
 have hl := h.len
 cases A with
 | none =>
  have h0 : n = 0 := by
   rcases Nat.eq_zero_or_pos n with e | e
   ·exact e
   ·obtain ⟨_, _, _, e2, _⟩ := h.got e
    cases e2
  subst h0
  have e0 := List.eq_nil_of_length_eq_zero hl
  subst e0
  clear h
  have q0 := heql_nil_slice (P := Try.prog) w 23 3 none 0 c Try.underlying23
  go_enter Try.func43, Try.ntmps43
  go_wp2_with fail
  go_ret
  exact ⟨none, 0, rfl, World.ownsRow_nil _ _ _ _, Below.refl _ _⟩
 | some a =>
  have HB : Hid (Below w.heap.size w (w.alloc (.cells #[] 3))) := kbelow_push _ _
  have HO := Lib.hid (own_lit0 .i64 w w.heap.size 3 (Nat.le_refl _))
  have HR := Lib.hid (h.on HB.out).rdk
  have HL := Lib.hid hl
  clear h hl
  have q0 := heql_nil_slice (P := Try.prog) w 23 3 (some a) n c Try.underlying23
  go_enter Try.func43, Try.ntmps43
  go_wp2_with (at_builtin; refine app_rd .i64 rfl _ _ 23 rfl w.heap.size 3 8 Try.underlying23 hinfo_int (by decide) (.slice (some ⟨w.heap.size, 0, none⟩) 0 0) 0 [] rfl HO.out (w.alloc (.cells #[] 3)).heap.size (some a) n c l rfl HR.out (by omega) HB.out.size ?_; intro v5 w5 ho5 hg5 hv5)
  have HO5 : Hid (OwnK .i64 w5 w.heap.size 3 v5 n l) := by
   have := ho5
   rw [Nat.zero_add] at this
   exact this
  obtain ⟨A5, c5, e5, _⟩ := HO5.out.rd
  subst e5
  have HB5 : Hid (Below w.heap.size w w5) := HB.out.grown hg5 (HB.out.size) (fun i hi => (World.ownsRow.lt HO.out i hi).1)
  clear ho5 hg5 hv5 HR HO HB
  go_wp2_with fail
  go_ret
  exact ⟨A5, c5, rfl, HO5.out, HB5.out⟩
set_option maxHeartbeats 1000000 in
theorem turned_int {w : World} {A : Option Addr} {n c : Nat} {l : List Int} (h : InAt w (Bl w) A n c l) (hn6 : n ≤ 1000000) : Calls Try.prog 30 #[.slice A n c] w (fun en w' => ∃ A' c', en = .returned (.slice A' n c') ∧ Below w.heap.size w w' ∧ InAt w' (Bl w') A' n c' l.reverse) := by
 have hl := h.len
 have HC := Lib.hid (clone_int h hn6)
 clear h
 go_enter Try.func30, Try.ntmps30
 go_wp2_with fail
 refine HC.out.mono ?_
 rintro en w1 ⟨A1, c1, rfl, ho, hb⟩
 have HB1 := Lib.hid hb
 by_cases h0 : n = 0
 ·subst h0
  have e0 := List.eq_nil_of_length_eq_zero hl
  subst e0
  have HR := Lib.hid (Any.slices_Reverse_int_empty Try.layIntReverse A1 c1 w1)
  have HI := Lib.hid ho.inAt
  clear ho hb
  go_wp2_with fail
  refine HR.out.mono ?_
  rintro en w2 ⟨rfl, rfl⟩
  go_wp2_with fail
  go_ret
  exact ⟨A1, c1, rfl, HB1.out, HI.out⟩
 ·have hv : (Value.slice A1 n c1) ≠ .slice none 0 0 := by intro e; injection e with _ e2 _; exact h0 e2
  obtain ⟨g, cap, e, hB, hg, h3, h4, h5, hH⟩ := Go.Lib.holds_of_ownsRow (enc := Value.int .i64) ho hv
  injection e with e1 _ e3
  subst e1 e3
  have HR := Lib.hid (Any.slices_Reverse_int Try.layIntReverse g 0 c1 l w1 hH (by omega))
  rw [hl] at HR
  have HFIN : Hid (∀ q, Below w.heap.size w (Go.Sort.putRow (Value.int .i64) (Sort.ahead w1 q) g 0 l.reverse.toArray) ∧ InAt (Go.Sort.putRow (Value.int .i64) (Sort.ahead w1 q) g 0 l.reverse.toArray) (Bl (Go.Sort.putRow (Value.int .i64) (Sort.ahead w1 q) g 0 l.reverse.toArray)) (some ⟨g, 0, none⟩) n c1 l.reverse) := by
   intro q
   refine ⟨Go.Lib.below_putRow hb hB, ?_⟩
   have h9 := Go.Lib.ownsRow_putRow (q := q) (ys := l.reverse) (k := n) ho (by simp [hl]) (Nat.le_refl _)
   rw [List.take_of_length_le (by simp [hl])] at h9
   exact OwnK.inAt (B := w.heap.size) h9
  clear ho hb hH
  go_wp2_with fail
  refine HR.out.mono ?_
  rintro en w2 ⟨rfl, q, rfl⟩
  have HF := Lib.hid (HFIN.out q)
  go_wp2_with fail
  go_ret
  exact ⟨_, _, rfl, HF.out.1, HF.out.2⟩
theorem dec_len : ∀ (l : List Int) (N : Nat), (∀ z ∈ l, 0 ≤ z ∧ z ≤ (N : Int)) → l.Pairwise (fun y z => z < y) → l.length ≤ N + 1
 | [], N, _, _ => by simp
 | y :: r, N, h, hp => by
  obtain ⟨h0, hN⟩ := h y List.mem_cons_self
  rw [List.pairwise_cons] at hp
  obtain ⟨b, rfl⟩ := Int.eq_ofNat_of_zero_le h0
  cases b with
  | zero =>
   have : r = [] := by
    cases r with
    | nil => rfl
    | cons z r =>
     have h1 := (h z (by simp)).1
     have h2 := hp.1 z List.mem_cons_self
     omega
   subst this
   simp
  | succ b =>
   have := dec_len r b (fun z hz => by
    have h1 := (h z (List.mem_cons_of_mem _ hz)).1
    have h2 := hp.1 z hz
    omega) hp.2
   simp only [List.length_cons]
   omega
structure BegF (l : List Int) (x : Pt) (t : Int) (pl : List Int) : Prop where
 mem : ∀ z : Int, z ∈ pl ↔ ∃ a b : Nat, t = a ∧ z = b ∧ a ≤ l.length ∧ Sq (bwd l) List.reverse [x] a b
 ord : pl.Pairwise (· < ·)
def BegP (l : List Int) (x : Pt) (t : Int) (w : World) (en : Ending) (w' : World) : Prop := ∃ A n c pl, en = .returned (.slice A n c) ∧ Below w.heap.size w w' ∧ InAt w' (Bl w') A n c pl ∧ BegF l x t pl
theorem rwd_true : rwd true = List.reverse := by funext l; rfl
theorem stp_true (l : List Int) : stp true l = bwd l := rfl
set_option maxHeartbeats 1000000 in
theorem begins_any {w : World} {l : List Int} {lA : Option Addr} {ln lc : Nat} (hl : InAt w (Bl w) lA ln lc l) (hlen : l.length ≤ 900000) {x : Pt} {sA gA A : Option Addr} {sn sc gn gc m c : Nat} (hx : PtIn w (Bl w) sA sn sc gA gn gc A m c x) (hxs : x.size ≤ 10000) (f : Int) :
  Calls Try.prog 14 #[.agg #[.int .i64 x.kind, .slice sA sn sc, .slice gA gn gc, .slice A m c], .slice lA ln lc, .int .i64 f] w (BegP l x f w) := by
 have B1 := kbelow_push w (.cells #[.int .i64 x.kind, .slice sA sn sc, .slice gA gn gc, .slice A m c] 26)
 have hpb := heap_alloc_new w (.cells #[.int .i64 x.kind, .slice sA sn sc, .slice gA gn gc, .slice A m c] 26)
 obtain ⟨p0, p1, p2, p3⟩ := hcells4 hpb
 have hln := hl.len
 have HB1 := Lib.hid B1
 by_cases hin : 0 ≤ f ∧ f ≤ (ln : Int)
 ·obtain ⟨a, rfl⟩ := Int.eq_ofNat_of_zero_le hin.1
  have hal : a ≤ l.length := by omega
  have HC := Lib.hid (reached_any (back := true) (hl.on B1) (Nat.le_trans hlen (by decide)) (hx.keep (S' := Bl (w.alloc (.cells #[.int .i64 x.kind, .slice sA sn sc, .slice gA gn gc, .slice A m c] 26))) (fun b hb => Nat.lt_of_lt_of_le hb B1.size) (fun p hp => B1.cell (p := p) hp)) hxs hal)
  have g1 : ¬ (a : Int) < 0 := by omega
  have g2 : ¬ (ln : Int) < (a : Int) := by omega
  have g3 : ¬ ln < a := by omega
  have HLN := Lib.hid (And.intro hlen hal)
  clear hl hx B1 hpb hin
  go_enter Try.func14, Try.ntmps14
  go_wp2_with fail
  refine HC.out.mono ?_
  rintro en w2 ⟨A2, n2, c2, pl, rfl, hb2, ho2, hr2⟩
  have hi2 := ho2.inAt
  have hn2 : n2 ≤ 1000000 := by
   have h1 := hi2.len
   have hsub := dec_len pl l.length (fun z hz => ?_) (hr2.ord.imp fun h => by simpa using h)
   rotate_left
   ·obtain ⟨b, rfl⟩ := Int.eq_ofNat_of_zero_le (hr2.pos z hz)
    have hs := (hr2.mem b).1 hz
    rw [stp_true] at hs
    have hd := hs.down
    have h2 := HLN.out.2
    omega
   have h3 := HLN.out.1
   omega
  have HT := Lib.hid (turned_int hi2 hn2)
  have HR := Lib.hid hr2
  have HB2 := Lib.hid (HB1.out.trans (hb2.mono HB1.out.size))
  clear hb2 ho2 hr2 hi2 hn2
  go_wp2_with fail
  refine HT.out.mono ?_
  rintro en w3 ⟨A3, c3, rfl, hb3, hi3⟩
  have HF : Hid (BegP l x (a : Int) w (.returned (.slice A3 n2 c3)) w3) := by
   have hr := HR.out
   refine ⟨A3, n2, c3, pl.reverse, rfl, HB2.out.trans (hb3.mono HB2.out.size), hi3, ⟨fun z => ?_, ?_⟩⟩
   ·rw [List.mem_reverse]
    constructor
    ·intro hz
     obtain ⟨b, rfl⟩ := Int.eq_ofNat_of_zero_le (hr.pos z hz)
     have hs := (hr.mem b).1 hz
     rw [stp_true, rwd_true] at hs
     exact ⟨a, b, rfl, rfl, HLN.out.2, hs⟩
    ·rintro ⟨a', b, e1, rfl, _, hs⟩
     have : a = a' := by omega
     subst this
     refine (hr.mem b).2 ?_
     rw [stp_true, rwd_true]
     exact hs
   ·rw [List.pairwise_reverse]
    exact hr.ord.imp fun h => by simpa using h
  clear hb3 hi3
  go_wp2_with fail
  go_ret
  exact HF.out
 ·have HF : Hid (BegP l x f w (.returned (.slice none 0 0)) (w.alloc (.cells #[.int .i64 x.kind, .slice sA sn sc, .slice gA gn gc, .slice A m c] 26))) := by
   refine ⟨none, 0, 0, [], rfl, B1, InAt.nil _ _, ⟨fun z => ⟨(fun hz => by cases hz), fun hz => ?_⟩, List.Pairwise.nil⟩⟩
   obtain ⟨a, b, rfl, rfl, h1, _⟩ := hz
   omega
  by_cases h0 : f < 0
  ·clear hl hx B1 hpb hin
   go_enter Try.func14, Try.ntmps14
   go_wp2_with fail
   go_ret
   exact HF.out
  ·have h1 : (ln : Int) < f := by omega
   clear hl hx B1 hpb hin
   go_enter Try.func14, Try.ntmps14
   go_wp2_with fail
   go_ret
   exact HF.out
end Go.Proofs.Ytpllgfhocedgmaa
