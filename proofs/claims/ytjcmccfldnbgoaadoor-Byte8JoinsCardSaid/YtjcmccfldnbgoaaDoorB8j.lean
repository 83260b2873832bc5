/- Byte8Joins, walked. -/
import Derived.Test.YtjcmccfldnbgoaaDoorB8h
import Derived.Deep.RegionHeldLaw
import Derived.IntWalk
namespace Go.Proofs.YtjcmccfldnbgoaaDoor
open Go.RowKit
open E (okb encB Fst Upto Dead DecIs offs encV flat)

theorem upto_app {a b : List Int} {p : Nat} {x y : List Int} (h : Upto a a.length x) (h' : Upto b p y) : Upto (a ++ b) (a.length + p) (x ++ y) := by
  refine ⟨fun c hc => ?_, ?_, by have := h'.le; simp; omega⟩
  · rcases List.mem_append.1 hc with hc | hc
    · exact h.ok c hc
    · exact h'.ok c hc
  · have h1 := h.eq
    rw [List.take_length] at h1
    rw [E.flat_app, ← h1, ← h'.eq, List.take_append, Nat.add_sub_cancel_left, List.take_of_length_le (by omega)]
theorem dead_app {a b : List Int} {p : Nat} (h : Dead b p) : Dead (a ++ b) (a.length + p) := by
  unfold E.Dead
  rw [List.drop_append]
  have e : a.drop (a.length + p) = [] := List.drop_of_length_le (by omega)
  rw [e, List.nil_append, Nat.add_sub_cancel_left]
  exact h
/-- A call of a function of two arguments by its contract, as one step of a statement whose order is open. -/
theorem step_call {P : Program} {w : World} {ops : Array Oper} {o : Oper} {a : Act} {K : Act → World → Prop} {Q : Exit → Act → World → Prop} {E : Prop} (hw : Region.wanted o (yielded ops a.tmps) = true)
    (f : FuncId) (s x : Operand) (ts : Array TypeId) (ho : o.op = .call { callee := .value (.func f), args := #[s, x], argTypes := ts })
    (hent : ∀ args w, (callFunc f args).run P w = .ok (.enter f args) w) (vs vx : Value) (hs : a.eval s = vs) (hx : a.eval x = vx)
    (v : Value) (R : World → Prop) (hc : Calls P f #[vs, vx] w fun e w' => e = .returned v ∧ R w')
    (h : ∀ w', R w' → K (a.put o.dst v) w') : if Region.wanted o (yielded ops a.tmps) = true then Oper.wp P o a w K Q else E := by
  have hrun : (execOp a.eval o).run P w = .ok (.enter f #[vs, vx]) w := by
    have hf : a.eval (.func f) = .func (.func f) #[] #[] := rfl
    unfold execOp
    simp [ho, resolve, invoke, hs, hx, hf, hent, Result.andThen, Deferred.ofValue]
  rw [if_pos hw]
  unfold Oper.wp
  rw [hrun, Oper.upon_enter]
  refine hc.mono fun e w'' hh => ?_
  obtain ⟨rfl, hr⟩ := hh
  exact h _ hr
theorem kbelow_drew {B : Nat} {a w : World} (h : Below B a w) : Below B a w.drew := ⟨h.os, h.tape, h.output, h.size, h.block⟩
theorem j_rd1 {k : IntKind} {w : World} {A : Option Addr} {n c : Nat} {L : List Int} {o : Obj} (h : RdK k w w.heap.size A n c L) : RdK k (w.alloc o).drew w.heap.size A n c L :=
  h.keep fun _ hp => (kbelow_drew (kbelow_push w o)).cell hp
theorem j_rd2 {k : IntKind} {w w' : World} {A : Option Addr} {n c : Nat} {L : List Int} (h : RdK k w w.heap.size A n c L) (hb : Below w.heap.size w w') : RdK k w' w.heap.size A n c L :=
  h.keep fun _ hp => hb.cell hp
theorem j_le (w : World) (o : Obj) : w.heap.size ≤ (w.alloc o).drew.heap.size := (kbelow_drew (kbelow_push w o)).size
theorem j_bel {w w8 : World} {o : Obj} {n c : Nat} (hg : (w.alloc o).drew.grownBy w8 (Value.slice (some ⟨w.heap.size, 0, none⟩) n c).ownBlock) : Below w.heap.size w w8 :=
  below_grown (kbelow_drew (kbelow_push w o)) hg (fun i hi => by cases hi; exact Nat.le_refl _)
theorem j_bel2 {w w8 w9 : World} {v : Value} {n : Nat} {L : List Int} {e : TypeId} {k : IntKind} (hb : Below w.heap.size w w8) (ho : OwnK k w8 w.heap.size e v n L) (hg : w8.grownBy w9 v.ownBlock) : Below w.heap.size w w9 :=
  below_grown hb hg (fun i hi => (ho.block i hi).1)
set_option maxHeartbeats 1000000 in
set_option maxRecDepth 100000 in
theorem joins_walk {w : World} {A AB : Option Addr} {n c m cB : Nat} {L M : List Int} (h : RdK .u8 w w.heap.size A n c L) (h' : RdK .u8 w w.heap.size AB m cB M) (ha : Byt L) (hb : Byt M) (hT : Tabs w) :
    Calls Tryd.prog 7 #[.slice A n c, .slice AB m cB] w (BooK w true) := by
  have hsm := h.small
  have hsm' := h'.small
  have H0 := Lib.hid h
  have H0' := Lib.hid h'
  have HBa := Lib.hid ha
  have HBb := Lib.hid hb
  have HT := Lib.hid hT
  have HLA := Lib.hid h.len
  have HLB := Lib.hid h'.len
  clear h h' ha hb hT
  go_enter Tryd.func7, Tryd.ntmps7
  go_wp2_with fail
  refine (alive3_any HT.out).mono ?_
  rintro e w1 ⟨rfl, hb1⟩
  have HB1 := Lib.hid hb1
  clear hb1
  by_cases hn : n ≤ 1400
  · have hn' : ¬ (1400 : Int) < n := by omega
    by_cases hm : m ≤ 1400
    · have hm' : ¬ (1400 : Int) < m := by omega
      have H1 := Lib.hid (H0.out.on HB1.out)
      have H1' := Lib.hid (H0'.out.on HB1.out)
      go_wp2_with fail
      refine (decode_any H1.out HBa.out (HT.out.on HB1.out)).mono ?_
      rintro e w2 ⟨A1, A2, n1, c1, n2, c2, x, p, x1, e1, rfl, r1, r2, hd, hb2⟩
      have H2 := Lib.hid (H1.out.on hb2)
      have H2' := Lib.hid (H1'.out.on hb2)
      have HB2 := Lib.hid (HB1.out.trans (hb2.mono HB1.out.size))
      have R1 := Lib.hid r1
      have R2 := Lib.hid r2
      clear hb2 r1 r2 H1 H1' HB1
      cases hd with
      | long hl => rw [HLA.out] at hl; omega
      | bad p ds hl hp hu hdd =>
        clear hl hp hu hdd
        go_wp2_with fail
        go_ret
        exact ⟨rfl, HB2.out⟩
      | ok _ hl hu =>
        have HU := Lib.hid hu
        have hfx := hu.few
        rw [HLA.out] at hfx
        clear hl hu
        go_wp2_with fail
        refine (decode_any H2'.out HBb.out (HT.out.on HB2.out)).mono ?_
        rintro e w3 ⟨A3, A4, n3, c3, n4, c4, y, q, x3, e3, rfl, r3, r4, hd3, hb3⟩
        have HD3 := Lib.hid hd3
        have H3 := Lib.hid (H2.out.on hb3)
        have H3' := Lib.hid (H2'.out.on hb3)
        have HB3 := Lib.hid (HB2.out.trans (hb3.mono HB2.out.size))
        have Q1 := Lib.hid (R1.out.on hb3)
        have Q2 := Lib.hid (R2.out.on hb3)
        have Q3 := Lib.hid r3
        clear hb3 r3 r4 R1 R2 H2 H2' HB2 hd3
        go_wp2_with (at_builtin; refine app_rd .u8 rfl _ _ 22 rfl w3.heap.size 5 1 Tryd.underlying22 info_u8 (by decide) _ _ _ rfl (own_lit0 .u8 w3 w3.heap.size 5 (Nat.le_refl _)) _ A n c L rfl (H3.out.push _) (by omega) (by simp) ?_)
        intro v4 w4 ho4 hg4 _
        have HB4 := Lib.hid (below_grown (kbelow_push w3 _) hg4 (fun i hi => by cases hi; exact Nat.le_refl _))
        have HO4 := Lib.hid ho4
        clear ho4 hg4
        go_wp2_with (at_builtin; refine app_rd .u8 rfl _ _ 22 rfl w3.heap.size 5 1 Tryd.underlying22 info_u8 (by decide) _ _ _ rfl HO4.out _ AB m cB M rfl (H3'.out.on HB4.out) (by omega) HB4.out.size ?_)
        intro v5 w5 ho5 hg5 _
        have HB5 := Lib.hid (below_grown HB4.out hg5 (fun i hi => (HO4.out.block i hi).1))
        obtain ⟨A5, c5, rfl, r5⟩ := ho5.rd
        have R5 := Lib.hid r5
        have HBB : Hid (Byt ([] ++ L ++ M)) := fun z hz => by
          rcases List.mem_append.1 hz with hz | hz
          · exact HBa.out z (by simpa using hz)
          · exact HBb.out z hz
        have HBW := Lib.hid (HB3.out.trans (HB5.out.mono HB3.out.size))
        have R1 := Lib.hid (Q1.out.on HB5.out)
        have R2 := Lib.hid (Q2.out.on HB5.out)
        have R3 := Lib.hid (Q3.out.on HB5.out)
        clear ho5 hg5 r5 HO4 HB4 H3 H3' Q1 Q2 Q3
        go_wp2_with fail
        refine (decode_any R5.out HBB.out (HT.out.on HBW.out)).mono ?_
        rintro e w6 ⟨A6, A7, n6, c6, n7, c7, z, q7, x6, e6, rfl, r6, r7, hd6, hb6⟩
        have HBX := Lib.hid (HBW.out.trans (hb6.mono HBW.out.size))
        have Q1 := Lib.hid (R1.out.on hb6)
        have Q2 := Lib.hid (R2.out.on hb6)
        have Q3 := Lib.hid (R3.out.on hb6)
        have Q6 := Lib.hid r6
        have Q7 := Lib.hid r7
        have hd3 := HD3.out
        clear hb6 r6 r7 R1 R2 R3 R5 HBW HB5 HB3 HD3 HBB
        cases hd3 with
        | long hl => rw [HLB.out] at hl; omega
        | bad p ds hl hp hu hdd =>
          have hh := hd6.one (DecIs.bad (p + L.length) (x ++ ds) (by rw [List.length_append, HLA.out, HLB.out]; omega) (by rw [List.length_append]; omega) (by rw [Nat.add_comm]; exact upto_app HU.out hu) (by rw [Nat.add_comm]; exact dead_app hdd))
          obtain ⟨rfl, rfl, rfl, rfl⟩ := hh
          rw [HLA.out]
          rw [HLB.out] at hp
          clear hl hu hdd hd6
          go_wp2_with fail
          go_ret
          exact ⟨rfl, HBX.out⟩
        | ok _ hl hu =>
          have hh := hd6.one (DecIs.ok (x ++ y) (by rw [List.length_append, HLA.out, HLB.out]; omega) (by rw [List.length_append]; exact upto_app HU.out hu))
          obtain ⟨rfl, rfl, rfl, rfl⟩ := hh
          have hfy := hu.few
          rw [HLB.out] at hfy
          clear hl hu hd6
          go_wp2_with fail
          have hn1 : n1 = x.length := Q1.out.len.symm
          have hn3 : n3 = y.length := Q3.out.len.symm
          have TB : Hid (0 + n1 ≤ 1099511627776 ∧ 0 + n1 + n3 ≤ 1099511627776) := by show _ ∧ _; omega
          have hn7 : n7 = n1 + n3 + 1 := by have := Q7.out.len; rw [List.length_append, E.offs_len, List.length_append] at this; simp at this; omega
          have hn2 : n2 = n1 + 1 := by have := Q2.out.len; rw [List.length_append, E.offs_len] at this; simp at this; omega
          subst hn2
          have T7 : Hid (RdK .i64 w6 w6.heap.size A7 n1 c7 (offs 0 x)) := by
            have h1 := Q7.out.take (m := n1) (by omega)
            rw [E.offs_app, List.append_assoc, List.take_append_of_le_length (by rw [E.offs_len]; omega), List.take_of_length_le (by rw [E.offs_len]; omega)] at h1
            exact h1
          have T2 : Hid (RdK .i64 w6 w6.heap.size A2 n1 c2 (offs 0 x)) := by
            have h1 := Q2.out.take (m := n1) (by omega)
            rw [List.take_append_of_le_length (by rw [E.offs_len]; omega), List.take_of_length_le (by rw [E.offs_len]; omega)] at h1
            exact h1
          have hb1 : n1 ≤ 1400 := by omega
          have hb3 : n3 ≤ 1400 := by omega
          have hc7 : n1 ≤ c7 := by have := Q7.out.cap; omega
          have hc2 : n1 ≤ c2 := by have := Q2.out.cap; omega
          have HEN : Hid (∀ args w, (callFunc 15 args).run Tryd.prog w = .ok (.enter 15 args) w) := enters_of Tryd.func15 (by kernel_rfl) rfl
          have z1 : IntKind.i64.wrap ((n1 : Int) + (n3 : Int)) = (n1 : Int) + (n3 : Int) := IntWalk.i64_in _ (by omega)
          have z2 : IntKind.i64.wrap ((n1 : Int) + (n3 : Int) + 1) = (n1 : Int) + (n3 : Int) + 1 := IntWalk.i64_in _ (by omega)
          have g7 : ((n7 : Int) == (n1 : Int) + (n3 : Int) + 1) = true := beq_iff_eq.2 (by omega)
          have hn17 : n1 ≤ n7 := by omega
          clear hn1 hn3 hn7
          go_region_held_law (fun _ => True) (exact trivial) (first
            | ((with_reducible refine step_app_rd .i64 ?_ (.tmp 71) (.tmp 72) 24 rfl w6.heap.size 3 8 Tryd.underlying24 info_i64 (Nat.le_refl 8) (.slice (some ⟨w6.heap.size, 0, none⟩) 0 0) 0 [] ?_ ?_ w6.heap.size A1 n1 c1 x ?_ ?_ TB.out.1 ?_ ?_); rfl; rfl; exact own_lit0 .i64 w6 _ _ (Nat.le_refl _); rfl; exact j_rd1 Q1.out; exact j_le w6 _; intro v8 w8 ho8 hg8 hv8; have HO8 := Lib.hid ho8; have HB8 := Lib.hid (j_bel hg8); clear ho8 hg8 hv8)
            | ((with_reducible refine step_app_rd .i64 ?_ (.tmp 73) (.tmp 74) 24 rfl w6.heap.size 3 8 Tryd.underlying24 info_i64 (Nat.le_refl 8) v8 (0 + n1) ([] ++ x) ?_ HO8.out w6.heap.size A3 n3 c3 y ?_ (j_rd2 Q3.out HB8.out) TB.out.2 HB8.out.size ?_); rfl; rfl; rfl; intro v9 w9 ho9 hg9 hv9; have HO9 := Lib.hid ho9; have HB9 := Lib.hid (j_bel2 HB8.out HO8.out hg9); clear ho9 hg9 hv9)
            | (go_at_call 15; obtain ⟨A9, c9, rfl, r9⟩ := HO9.out.rd; (with_reducible refine (kints_yes (Q6.out.on HB9.out) r9 rfl).mono ?_); rintro e w10 ⟨rfl, hb10⟩; have HB10 := Lib.hid (HB9.out.trans (hb10.mono HB9.out.size)); clear hb10 r9)
            | (go_at_call 15; (with_reducible refine (kints_yes (T7.out.on HB10.out) (T2.out.on HB10.out) rfl).mono ?_); rintro e w11 ⟨rfl, hb11⟩; have HB11 := Lib.hid (HB10.out.trans (hb11.mono HB10.out.size)); clear hb11))
          have HBZ := Lib.hid (HBX.out.trans (HB11.out.mono HBX.out.size))
          go_wp2_with fail
          go_ret
          exact ⟨rfl, HBZ.out⟩
    · have hm' : (1400 : Int) < m := by omega
      go_wp2_with fail
      go_ret
      exact ⟨rfl, HB1.out⟩
  · have hn' : (1400 : Int) < n := by omega
    go_wp2_with fail
    go_ret
    exact ⟨rfl, HB1.out⟩
end Go.Proofs.YtjcmccfldnbgoaaDoor
