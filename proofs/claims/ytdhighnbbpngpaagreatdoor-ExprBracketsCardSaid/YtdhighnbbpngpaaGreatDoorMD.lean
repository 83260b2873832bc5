/- The reader of expr: part. The reader of expr: all functions, by induction; items in memory. The reader of expr: item. The reader of expr: items. The reader of expr: items, walked. -/
import Derived.Test.YtdhighnbbpngpaaGreatDoorYP
set_option maxRecDepth 100000
namespace Go.Proofs.YtdhighnbbpngpaaGreatDoor
open Go.RowKit
open Y (Nd It Ps nextP takeP failP noTok noName deepP formP orsP joinP piecesP pieceP bareP setP partsP partP heldP memberP)

/-- Blocks from one on, but for one. -/
def But (lo P hi : Nat) (i : Nat) : Prop := lo ≤ i ∧ i < hi ∧ i ≠ P
/-- The loop of part: where it stands. -/
structure PartR (b : Nat) (w : World) (e : Int) (o L : Nat) (r : Nd × Ps) (PB : Nat) (x : Nd) (s : Ps) (m' : Nat) (wx : World) : Prop where
  rd : RdE b wx e o s
  fe : Fe b w wx
  box : Box5 wx w.heap.size 30
  row : ∃ A n c, wx.heap[PB]? = some (.cells #[.int .i64 x.kind, .string x.name, .int .i64 x.low, .int .i64 x.high, .slice A n c] 30 (0, 0)) ∧ RdN wx (But (w.heap.size + 1) PB wx.heap.size) A n c x.kids
  eq : r = heldP e m' o x s
  fuel : 10 * s.toks.length + 7 ≤ m'
  few : o + s.toks.length ≤ 5000
  lim : s.toks.length ≤ L
  lo : w.heap.size < PB
  hi : PB < wx.heap.size
/-- The cells that the statement loads. -/
def HeldP (TB PB : Nat) (t : Tok) (tx : ByteArray) (x : Nd) (A : Option Addr) (n c : Nat) (w' : World) : Prop :=
  (w'.cell? ⟨TB, 0, none⟩ = some (.int .i64 t.kind) ∧ w'.cell? ⟨TB, 1, none⟩ = some (.string tx) ∧ w'.cell? ⟨TB, 2, none⟩ = some (.int .i64 t.low) ∧ w'.cell? ⟨TB, 3, none⟩ = some (.int .i64 t.high) ∧ w'.cell? ⟨TB, 4, none⟩ = some (.int .i64 t.pos)) ∧
  (w'.cell? ⟨PB, 0, none⟩ = some (.int .i64 x.kind) ∧ w'.cell? ⟨PB, 1, none⟩ = some (.string x.name) ∧ w'.cell? ⟨PB, 2, none⟩ = some (.int .i64 x.low) ∧ w'.cell? ⟨PB, 3, none⟩ = some (.int .i64 x.high) ∧ w'.cell? ⟨PB, 4, none⟩ = some (.slice A n c))
theorem Fe.drew {b : Nat} {a c : World} (h : Fe b a c) : Fe b a c.drew := ⟨h.os, h.tape, h.output, h.size, h.block⟩
theorem RdE.drew {b : Nat} {w : World} {e : Int} {o : Nat} {s : Ps} (h : RdE b w e o s) : RdE b w.drew e o s := by
  obtain ⟨A, n, c, h⟩ := h
  exact ⟨A, n, c, h.drewN 1⟩
/-- A round of part's loop has been gone. -/
theorem PartR.next {b : Nat} {w wr W7 Wl : World} {e : Int} {o L PB LB m' : Nat} {r k : Nd × Ps} {x : Nd} {s' : Ps} {kk : Int} {A A' : Option Addr} {n c n' c' : Nat} (hM : PartR b w e o L r PB x s' (m' + 1) wr) (hV : RdN wr (But (w.heap.size + 1) PB wr.heap.size) A n c x.kids) (hF7 : Fe b wr W7) (hb : b < w.heap.size)
    (hFl : Fe b W7 Wl) (hRl : RdE b Wl e o k.2) (hlit : Wl.heap[LB]? = some (.cells #[.int .i64 x.kind, .string x.name, .int .i64 x.low, .int .i64 x.high, .slice A n c, .int .i64 k.1.kind, .string k.1.name, .int .i64 k.1.low, .int .i64 k.1.high, .slice A' n' c'] 30 (0, 0))) (hLB : W7.heap.size ≤ LB ∧ LB < Wl.heap.size) (hy : RdN Wl (In W7.heap.size Wl.heap.size) A' n' c' k.1.kids)
    (heq : r = heldP e m' o (.mk kk noName 0 0 [x, k.1]) k.2) (hless : k.2.toks.length < s'.toks.length) :
    PartR b w e o L r PB (.mk kk noName 0 0 [x, k.1]) k.2 m' (set5 Wl PB (.int .i64 kk) (.string noName) (.int .i64 0) (.int .i64 0) (.slice (some ⟨LB, 0, none⟩) 2 2)) ∧ lenOf b (set5 Wl PB (.int .i64 kk) (.string noName) (.int .i64 0) (.int .i64 0) (.slice (some ⟨LB, 0, none⟩) 2 2)) < lenOf b wr := by
  have h1 := hM.lo
  have h2 := hM.hi
  have h3 := hF7.size
  have h4 := hFl.size
  have h5 := hM.fuel
  have h6 := hM.few
  have h7 := hM.lim
  have hF := hF7.trans hFl
  obtain ⟨A0, n0, c0, hrow, _⟩ := hM.row
  have hrd : RdE b (set5 Wl PB (.int .i64 kk) (.string noName) (.int .i64 0) (.int .i64 0) (.slice (some ⟨LB, 0, none⟩) 2 2)) e o k.2 := hRl.other5 (by omega) _ _ _ _ _
  have hcell : ∀ p : Addr, p.block ≠ PB → (set5 Wl PB (.int .i64 kk) (.string noName) (.int .i64 0) (.int .i64 0) (.slice (some ⟨LB, 0, none⟩) 2 2)).cell? p = Wl.cell? p := fun p hp => World.cell?_of_block (set5_block _ _ _ _ _ _ _ hp)
  have hx : RdN (set5 Wl PB (.int .i64 kk) (.string noName) (.int .i64 0) (.int .i64 0) (.slice (some ⟨LB, 0, none⟩) 2 2)) (But (w.heap.size + 1) PB (set5 Wl PB (.int .i64 kk) (.string noName) (.int .i64 0) (.int .i64 0) (.slice (some ⟨LB, 0, none⟩) 2 2)).heap.size) A n c x.kids :=
    hV.keep (fun i hi => ⟨hi.1, by rw [set5_size]; have := hi.2.1; omega, hi.2.2⟩) fun p hp => (hcell p hp.2.2).trans (World.cell?_of_block (hF.block _ hp.2.1 (by have := hp.1; omega)))
  have hy' : RdN (set5 Wl PB (.int .i64 kk) (.string noName) (.int .i64 0) (.int .i64 0) (.slice (some ⟨LB, 0, none⟩) 2 2)) (But (w.heap.size + 1) PB (set5 Wl PB (.int .i64 kk) (.string noName) (.int .i64 0) (.int .i64 0) (.slice (some ⟨LB, 0, none⟩) 2 2)).heap.size) A' n' c' k.1.kids :=
    hy.keep (fun i hi => ⟨by have := hi.1; omega, by rw [set5_size]; exact hi.2, by have := hi.1; omega⟩) fun p hp => hcell p (by have := hp.1; omega)
  have hx2 := NdAt.of hx x.kind x.low x.high x.name
  have hy2 := NdAt.of hy' k.1.kind k.1.low k.1.high k.1.name
  rw [nd_eta] at hx2 hy2
  have hlit' := (set5_block Wl PB (.int .i64 kk) (.string noName) (.int .i64 0) (.int .i64 0) (.slice (some ⟨LB, 0, none⟩) 2 2) (i := LB) (by omega)).trans hlit
  refine ⟨⟨hrd, (hM.fe.trans hF).set5 (.inr (by omega)) _ _ _ _ _, ?_, ⟨_, _, _, set5_row ((hF.block _ h2 (by omega)).trans hrow) _ _ _ _ _, rfl, Nat.le_refl _, by unfold maxLen; omega, fun i => if i = 0 then [.int .i64 x.kind, .string x.name, .int .i64 x.low, .int .i64 x.high, .slice A n c] else [.int .i64 k.1.kind, .string k.1.name, .int .i64 k.1.low, .int .i64 k.1.high, .slice A' n' c'], fun _ => ⟨LB, 0, rfl, ⟨by omega, by rw [set5_size]; exact hLB.2, by omega⟩, fun i hi j u hu => ?_⟩, fun i y hy => ?_⟩, heq, by omega, by omega, by omega, h1, by rw [set5_size]; omega⟩, ?_⟩
  · obtain ⟨y0, y1, y2, y3, y4, hN⟩ := hM.box
    exact ⟨y0, y1, y2, y3, y4, (set5_block _ _ _ _ _ _ _ (by omega)).trans ((hF.block _ (by omega) (by omega)).trans hN)⟩
  · rw [cell_of_row _ _ _ _ _ _ hlit']
    have hi2 : i = 0 ∨ i = 1 := by omega
    rcases hi2 with rfl | rfl
    · replace hu : [.int .i64 x.kind, .string x.name, .int .i64 x.low, .int .i64 x.high, .slice A n c][j]? = some u := hu
      have hj : j < 5 := (List.getElem?_eq_some_iff.1 hu).1
      have : j = 0 ∨ j = 1 ∨ j = 2 ∨ j = 3 ∨ j = 4 := by omega
      rcases this with rfl | rfl | rfl | rfl | rfl <;> simpa using hu
    · replace hu : [.int .i64 k.1.kind, .string k.1.name, .int .i64 k.1.low, .int .i64 k.1.high, .slice A' n' c'][j]? = some u := hu
      have hj : j < 5 := (List.getElem?_eq_some_iff.1 hu).1
      have : j = 0 ∨ j = 1 ∨ j = 2 ∨ j = 3 ∨ j = 4 := by omega
      rcases this with rfl | rfl | rfl | rfl | rfl <;> simpa using hu
  · have hi : i < 2 := (List.getElem?_eq_some_iff.1 hy).1
    have hi2 : i = 0 ∨ i = 1 := by omega
    rcases hi2 with rfl | rfl
    · have e : x = y := Option.some.inj hy
      subst e; exact hx2
    · have e : k.1 = y := Option.some.inj hy
      subst e; exact hy2
  · rw [hrd.len, hM.rd.len]; exact hless
set_option maxHeartbeats 8000000 in
theorem part_of {L : Nat} (hmember : CMember L) : CPart L := by
  intro b w e o s hc m hm
  obtain ⟨hr, ho, hl⟩ := hc
  obtain ⟨m, rfl⟩ : ∃ m', m = m' + 1 := ⟨m - 1, by omega⟩
  have hlt := hr.lt
  have hres : partP e (m + 1) o s = heldP e m o (memberP e m o s).1 (memberP e m o s).2 := by rw [partP]
  have HRES := Lib.hid hres
  clear hres
  generalize partP e (m + 1) o s = r at *
  have HW1 := Lib.hid (begN_below w)
  have HR1 := Lib.hid (hr.below HW1.out)
  have HBX := Lib.hid (begN_box w)
  have hs1 := begN_size w
  clear hr
  go_enter Tryz.func205, Tryz.ntmps205
  go_wp2_with fail
  change Calls _ _ _ (begN w) _
  generalize begN w = W1 at *
  have HC := Lib.hid (hmember b W1 e o s ⟨HR1.out, ho, hl⟩ m (by omega))
  have hlen0 : (memberP e m o s).2.toks.length ≤ s.toks.length := (Y.len_all e m).member o s
  generalize memberP e m o s = k at *
  refine HC.out.mono ?_
  rintro en w2 ⟨v, rfl, ⟨A, n, c, rfl, hv⟩, hr2, hf2⟩
  generalize hx1 : k.1 = x at *
  generalize hx2 : k.2 = s2 at *
  have hsz2 := hf2.size
  have hp3 := kbelow_push w2 (.cells #[.int .i64 x.kind, .string x.name, .int .i64 x.low, .int .i64 x.high, .slice A n c] 30)
  have HST : Hid (PartR b w e o L r w2.heap.size x s2 m (w2.alloc (.cells #[.int .i64 x.kind, .string x.name, .int .i64 x.low, .int .i64 x.high, .slice A n c] 30))) := by
    refine ⟨hr2.below hp3, ((Fe.of_below HW1.out).trans hf2).trans (Fe.of_below hp3), (HBX.out.fe hf2 (by omega) (by omega)).fe (b := b) (Fe.of_below hp3) (by omega) (by omega), ⟨A, n, c, heap_alloc_new w2 _, hv.keep (fun i hi => ⟨by have := hi.1; omega, by have := hi.2; have := hp3.size; omega, by have := hi.2; omega⟩) (fun p hp => hp3.cell hp.2)⟩, HRES.out, by omega, by omega, by omega, by omega, by simp⟩
  clear hv hr2 hf2 hp3 HC HRES HR1 HBX HW1
  go_wp2_with fail
  generalize w2.alloc (.cells #[.int .i64 x.kind, .string x.name, .int .i64 x.low, .int .i64 x.high, .slice A n c] 30) = W3 at *
  generalize hPB : w2.heap.size = PB at *
  clear hPB hx1 hx2 hlen0 hm ho hl hsz2 hs1
  go_loopw [] (fun wx => ∃ (x : Nd) (s' : Ps) (m' : Nat), Hid (PartR b w e o L r PB x s' m' wx)) (fun wx => lenOf b wx)
  case atStart => exact ⟨x, s2, m, HST.out⟩
  case round =>
    obtain ⟨x, s', m', HM⟩ := hrel
    clear HST
    have hfu := HM.out.fuel
    have hfew := HM.out.few
    have hlim := HM.out.lim
    have hlo := HM.out.lo
    have hhi := HM.out.hi
    obtain ⟨m', rfl⟩ : ∃ m1, m' = m1 + 1 := ⟨m' - 1, by omega⟩
    have HLN : Hid (lenOf b wr = s'.toks.length) := HM.out.rd.len
    have HL2 := Lib.hid (litW_below wr [16, 17])
    have HR2 := Lib.hid (HM.out.rd.below HL2.out)
    have HK2 := Lib.hid (litW_rd wr [16, 17] wr.heap.size rfl (by decide))
    have HEQ : Hid (r = heldP e (m' + 1) o x s') := HM.out.eq
    have hpn : heldP e (m' + 1) o x s' = if nextP [16, 17] s' = true then heldP e m' o (.mk (Y.kindP (takeP e [16, 17] s').1.kind) noName 0 0 [x, (memberP e m' o (takeP e [16, 17] s').2).1]) (memberP e m' o (takeP e [16, 17] s').2).2 else (x, s') := by rw [heldP]
    have HPN := Lib.hid hpn
    have hsw2 := litW_size wr [16, 17]
    obtain ⟨A, n, c, hrow, hv⟩ := HM.out.row
    have HROW := Lib.hid hrow
    have HV := Lib.hid hv
    clear hpn hrow hv
    cases hx : nextP [16, 17] s' with
    | false =>
      have HK : Hid (r = (x, s')) := by show _ = _; rw [HEQ.out, HPN.out, if_neg (by rw [hx]; decide)]
      have HF2 := Lib.hid (HM.out.fe.trans (Fe.of_below HL2.out))
      have HBX2 : Hid (Box5 (litW wr [16, 17]) w.heap.size 30) := HM.out.box.fe (b := b) (Fe.of_below HL2.out) (by omega) (by omega)
      have HE : Hid (FormQ b w e o r _ _) := HK.out ▸ form_end (x := x) (N := w.heap.size) (lo := w.heap.size + 1) HF2.out HR2.out (Nat.le_refl _) (by omega) hlt (HV.out.keep (fun i hi => (⟨hi.1, by have := hi.2.1; omega⟩ : In _ _ i)) (fun p hp => HL2.out.cell hp.2.1))
      have HQ := Lib.hid (HBX2.out.set (.int .i64 x.kind) (.string x.name) (.int .i64 x.low) (.int .i64 x.high) (.slice A n c))
      have HROW2 : Hid ((litW wr [16, 17]).heap[PB]? = _) := (HL2.out.block _ hhi).trans HROW.out
      clear HPN HEQ HK HV HROW HF2
      go_wp2_with fail
      change Calls _ _ _ (litW wr [16, 17]) _
      generalize litW wr [16, 17] = W2 at *
      refine (nextE HR2.out HK2.out).mono ?_
      rintro en w' ⟨rfl, rfl⟩
      rw [hx]
      obtain ⟨⟨x0, x1, x2, x3, x4, k0, k1, k2, k3, k4⟩, fN⟩ := HBX2.out.facts
      obtain ⟨l0, l1, l2, l3, l4⟩ := cells5 HROW2.out
      clear HBX2 HROW2 HR2 HK2 HL2 HM HLN
      go_wp2_with fail
      change bodyPost _ _ _ _ _ (set5 W2 w.heap.size _ _ _ _ _)
      generalize set5 W2 w.heap.size (.int .i64 x.kind) (.string x.name) (.int .i64 x.low) (.int .i64 x.high) (.slice A n c) = w5 at HE HQ ⊢
      obtain ⟨q0, q1, q2, q3, q4⟩ := cells5 HQ.out
      exact bodyPost_ret (v := .agg #[.int .i64 x.kind, .string x.name, .int .i64 x.low, .int .i64 x.high, .slice A n c]) (by simp [results, Tryz.results205, go_sem, q0, q1, q2, q3, q4]) rfl HE.out
    | true =>
      have HK : Hid (r = heldP e m' o (.mk (Y.kindP (takeP e [16, 17] s').1.kind) noName 0 0 [x, (memberP e m' o (takeP e [16, 17] s').2).1]) (memberP e m' o (takeP e [16, 17] s').2).2) := by show _ = _; rw [HEQ.out, HPN.out, if_pos hx]
      have hless : (takeP e [16, 17] s').2.toks.length < s'.toks.length := Y.take_less e [16, 17] [16, 17] s' hx
      clear HPN HEQ
      go_wp2_with fail
      change Calls _ _ _ (litW wr [16, 17]) _
      generalize litW wr [16, 17] = W2 at *
      refine (nextE HR2.out HK2.out).mono ?_
      rintro en w' ⟨rfl, rfl⟩
      rw [hx]
      have HL3 := Lib.hid (litW_below W2 [16, 17])
      have HR3 := Lib.hid (HR2.out.below HL3.out)
      have HK3 := Lib.hid (litW_rd W2 [16, 17] (wr.heap.size + 1) (by omega) (by decide))
      have hsw3 := litW_size W2 [16, 17]
      have HF3 : Hid (Fe b wr (litW W2 [16, 17])) := (Fe.of_below HL2.out).trans (Fe.of_below HL3.out)
      clear HK2 HR2
      go_wp2_with fail
      change Calls _ _ _ (litW W2 [16, 17]) _
      generalize litW W2 [16, 17] = W3' at *
      refine (takeE HR3.out HK3.out).mono ?_
      rintro en w6 ⟨he, hr6, hf6⟩
      generalize (takeP e [16, 17] s').1 = t at *
      generalize (takeP e [16, 17] s').2 = s1 at *
      have HF6 := Lib.hid (HF3.out.trans hf6)
      have HR6 := Lib.hid hr6
      have hs6 := hf6.size
      have hkk : ∀ w, Calls Tryz.prog 147 #[.agg #[.int .i64 t.kind, .string (strOfNums t.text), .int .i64 t.low, .int .i64 t.high, .int .i64 t.pos]] w fun e w' => e = .returned (.int .i64 (Y.kindP t.kind)) ∧ Below w.heap.size w w' := fun w => kind_any t w
      generalize Y.kindP t.kind = kk at *
      unfold Tok.v at he
      generalize strOfNums t.text = tx at *
      subst he
      have HKK := Lib.hid hkk
      clear hkk hr6 hf6 HF3 HK3 HR3 HL3 HL2
      have hp7 := kbelow_push w6 (.cells #[.int .i64 t.kind, .string tx, .int .i64 t.low, .int .i64 t.high, .int .i64 t.pos] 95)
      have HT7 := Lib.hid (heap_alloc_new w6 (.cells #[.int .i64 t.kind, .string tx, .int .i64 t.low, .int .i64 t.high, .int .i64 t.pos] 95))
      have hs7 : (w6.alloc (.cells #[.int .i64 t.kind, .string tx, .int .i64 t.low, .int .i64 t.high, .int .i64 t.pos] 95)).heap.size = w6.heap.size + 1 := by simp
      have HR7 := Lib.hid (HR6.out.below hp7)
      have HF7 : Hid (Fe b wr (w6.alloc (.cells #[.int .i64 t.kind, .string tx, .int .i64 t.low, .int .i64 t.high, .int .i64 t.pos] 95))) := HF6.out.trans (Fe.of_below hp7)
      clear HF6 HR6 hp7
      go_wp2_with fail
      generalize w6.alloc (.cells #[.int .i64 t.kind, .string tx, .int .i64 t.low, .int .i64 t.high, .int .i64 t.pos] 95) = W7 at *
      generalize hTB : w6.heap.size = TB at *
      have HROW7 : Hid (W7.heap[PB]? = _) := (HF7.out.block _ hhi (by omega)).trans HROW.out
      have hlenM : (memberP e m' o s1).2.toks.length ≤ s1.toks.length := (Y.len_all e m').member o s1
      have HMEM : Hid (∀ W, RdE b W e o s1 → Calls Tryz.prog 220 #[.pointer (some ⟨b, 0, none⟩)] W (FormQ b W e o (memberP e m' o s1))) := fun W h => hmember b W e o s1 ⟨h, by omega, by omega⟩ m' (by omega)
      generalize memberP e m' o s1 = k at *
      have SS : HeldP TB PB t tx x A n c W7.drew := ⟨cells5 HT7.out, cells5 HROW7.out⟩
      have HSS := Lib.hid SS
      have hF7s := HF7.out.size
      have HSF : Hid (∀ W', Fe b W7 W' → HeldP TB PB t tx x A n c W') := fun W' h => ⟨cells5 ((h.block TB (by omega) (by omega)).trans HT7.out), cells5 ((h.block PB (by omega) (by omega)).trans HROW7.out)⟩
      refine region_plain (HeldP TB PB t tx x A n c) 7 8 (by kernel_rfl) rfl ?_
      refine Z_takeW 0 (v := .agg #[.int .i64 t.kind, .string tx, .int .i64 t.low, .int .i64 t.high, .int .i64 t.pos]) rfl (by kernel_rfl) (by kernel_rfl) (by kernel_rfl) (by kernel_rfl) (fun _ _ _ h => h) SS rfl (fun w' hS => ?_) ?_
      · obtain ⟨⟨s0, s1, s2, s3, s4⟩, s5, s6, s7, s8, s9⟩ := hS; go_simp
      refine Z_takeW 2 (v := .agg #[.int .i64 x.kind, .string x.name, .int .i64 x.low, .int .i64 x.high, .slice A n c]) rfl (by kernel_rfl) (by kernel_rfl) (by kernel_rfl) (by kernel_rfl) (fun _ _ _ h => h) SS rfl (fun w' hS => ?_) ?_
      · obtain ⟨⟨s0, s1, s2, s3, s4⟩, s5, s6, s7, s8, s9⟩ := hS; go_simp
      refine Z_takeW 3 (v := .pointer (some ⟨b, 0, none⟩)) rfl (by kernel_rfl) (by kernel_rfl) (by kernel_rfl) (by kernel_rfl) (fun _ _ _ h => h) SS rfl (fun w' hS => ?_) ?_
      · go_simp
      refine Z_one 1 rfl (by kernel_rfl) rfl ?_
      go_simp
      refine (HKK.out _).mono ?_
      rintro en w8 ⟨rfl, hb8⟩
      have HF8 : Hid (Fe b W7 w8) := (Fe.refl b W7).drew.trans (Fe.of_below hb8)
      have HR8 := Lib.hid (HR7.out.drew.below hb8)
      have hz8 := HF8.out.size
      clear hb8
      refine ⟨HSF.out _ HF8.out, ?_⟩
      refine Z_one 4 rfl (by kernel_rfl) rfl ?_
      go_simp
      refine (HMEM.out w8 HR8.out).mono ?_
      rintro en w9 ⟨v, rfl, ⟨A', n', c', rfl, hv9⟩, hr9, hf9⟩
      have HF9 := Lib.hid (HF8.out.trans hf9)
      refine ⟨HSF.out _ HF9.out, ?_⟩
      have hp := kbelow_push w9 (.cells #[.int .i64 x.kind, .string x.name, .int .i64 x.low, .int .i64 x.high, .slice A n c, .int .i64 k.1.kind, .string k.1.name, .int .i64 k.1.low, .int .i64 k.1.high, .slice A' n' c'] 30)
      have HFL := Lib.hid (HF9.out.trans (Fe.of_below hp))
      have HRL := Lib.hid (hr9.below hp)
      have HLIT := Lib.hid (heap_alloc_new w9 (.cells #[.int .i64 x.kind, .string x.name, .int .i64 x.low, .int .i64 x.high, .slice A n c, .int .i64 k.1.kind, .string k.1.name, .int .i64 k.1.low, .int .i64 k.1.high, .slice A' n' c'] 30))
      have hz9 := hf9.size
      have HLB : Hid (W7.heap.size ≤ w9.heap.size ∧ w9.heap.size < (w9.alloc (.cells #[.int .i64 x.kind, .string x.name, .int .i64 x.low, .int .i64 x.high, .slice A n c, .int .i64 k.1.kind, .string k.1.name, .int .i64 k.1.low, .int .i64 k.1.high, .slice A' n' c'] 30)).heap.size) := ⟨by omega, by simp⟩
      have HYL : Hid (RdN (w9.alloc (.cells #[.int .i64 x.kind, .string x.name, .int .i64 x.low, .int .i64 x.high, .slice A n c, .int .i64 k.1.kind, .string k.1.name, .int .i64 k.1.low, .int .i64 k.1.high, .slice A' n' c'] 30)) (In W7.heap.size (w9.alloc (.cells #[.int .i64 x.kind, .string x.name, .int .i64 x.low, .int .i64 x.high, .slice A n c, .int .i64 k.1.kind, .string k.1.name, .int .i64 k.1.low, .int .i64 k.1.high, .slice A' n' c'] 30)).heap.size) A' n' c' k.1.kids) := hv9.keep (fun i hi => ⟨by have := hi.1; omega, by have := hi.2; have := hp.size; omega⟩) (fun p hp' => hp.cell hp'.2)
      clear hv9 hr9 hf9 hp HF9 HF8 HR8
      refine Z_one 5 rfl (by kernel_rfl) rfl ?_
      go_simp
      refine ⟨HSF.out _ HFL.out, ?_⟩
      refine Z_one 6 rfl (by kernel_rfl) rfl ?_
      go_simp
      refine ⟨HSF.out _ HFL.out, ?_⟩
      have hrowl : (w9.alloc (.cells #[.int .i64 x.kind, .string x.name, .int .i64 x.low, .int .i64 x.high, .slice A n c, .int .i64 k.1.kind, .string k.1.name, .int .i64 k.1.low, .int .i64 k.1.high, .slice A' n' c'] 30)).heap[PB]? = _ := (HFL.out.block _ (by omega) (by omega)).trans HROW7.out
      obtain ⟨l0, l1, l2, l3, l4⟩ := cells5 hrowl
      have fl : ∀ j, (w9.alloc (.cells #[.int .i64 x.kind, .string x.name, .int .i64 x.low, .int .i64 x.high, .slice A n c, .int .i64 k.1.kind, .string k.1.name, .int .i64 k.1.low, .int .i64 k.1.high, .slice A' n' c'] 30)).frozen? ⟨PB, j, none⟩ = false := fun j => frozen_of_row _ _ _ _ _ hrowl
      have HD := Lib.hid (PartR.next (kk := kk) (k := k) HM.out HV.out HF7.out hlt HFL.out HRL.out HLIT.out HLB.out HYL.out HK.out (by omega))
      clear hrowl
      generalize w9.alloc (.cells #[.int .i64 x.kind, .string x.name, .int .i64 x.low, .int .i64 x.high, .slice A n c, .int .i64 k.1.kind, .string k.1.name, .int .i64 k.1.low, .int .i64 k.1.high, .slice A' n' c'] 30) = Wl at *
      refine Z_one 7 rfl (by kernel_rfl) rfl ?_
      go_simp
      refine Z_done (by kernel_rfl) ?_
      unfold OnlyN
      simp only []
      change Exit.inBlock 1 _ .normal _ (set5 Wl PB (.int .i64 kk) (.string noName) (.int .i64 0) (.int .i64 0) (.slice (some ⟨w9.heap.size, 0, none⟩) 2 2))
      generalize set5 Wl PB (.int .i64 kk) (.string noName) (.int .i64 0) (.int .i64 0) (.slice (some ⟨w9.heap.size, 0, none⟩) 2 2) = W9 at HD ⊢
      clear HFL HRL HLIT HLB HYL l0 l1 l2 l3 l4 fl SS HSS HSF HM HROW7 HT7 HV HK
      go_wp2_with fail
      go_roundw
      case rel => exact ⟨_, k.2, m', HD.out.1⟩
      case measure => exact HD.out.2
end Go.Proofs.YtdhighnbbpngpaaGreatDoor
namespace Go.Proofs.YtdhighnbbpngpaaGreatDoor
open Go.RowKit
open Y (Nd It Ps nextP takeP failP noTok noName zeroN deepP formP orsP joinP piecesP pieceP bareP setP partsP partP heldP memberP)

theorem all_of : ∀ L : Nat, CForm L ∧ CParts L := by
  have up : ∀ L : Nat, (∀ L', L' + 1 = L → CForm L') → CSet L → CForm L ∧ CParts L := fun L hf hs =>
    ⟨form_of (join_of (piece_of (bare_of hf hs))), parts_of (part_of (member_of hs))⟩
  intro L
  induction L with
  | zero =>
    refine up 0 (fun L' h => by omega) fun b w e o s hc hx => ?_
    exfalso
    have h1 := hc.2.2
    have h2 := Y.take_less e [13] [13] s hx
    omega
  | succ L ih => exact up (L + 1) (fun L' h => by have : L' = L := by omega
                                                  subst this; exact ih.1) (set_of ih.2)
theorem form_all {b : Nat} {w : World} {e : Int} {o : Nat} {s : Ps} (h : RdE b w e o s) (ho : o + s.toks.length ≤ 5000) (m : Nat) (hm : 10 * s.toks.length + 10 ≤ m) :
    Calls Tryz.prog 36 #[.pointer (some ⟨b, 0, none⟩)] w (FormQ b w e o (formP e m o s)) :=
  (all_of s.toks.length).1 b w e o s ⟨h, ho, Nat.le_refl _⟩ m hm
/-- The cells of an item. -/
def itC (x : It) (Ab : Option Addr) (nb cb : Nat) (Aa : Option Addr) (na ca : Nat) : List Value := [.int .i64 x.kind, .string x.name, .int .i64 x.number, .bool x.cut, .int .i64 x.before.kind, .string x.before.name, .int .i64 x.before.low, .int .i64 x.before.high, .slice Ab nb cb, .int .i64 x.after.kind, .string x.after.name, .int .i64 x.after.low, .int .i64 x.after.high, .slice Aa na ca, .int .i64 x.pos]
def itV (x : It) (Ab : Option Addr) (nb cb : Nat) (Aa : Option Addr) (na ca : Nat) : Value := .agg #[.int .i64 x.kind, .string x.name, .int .i64 x.number, .bool x.cut, .int .i64 x.before.kind, .string x.before.name, .int .i64 x.before.low, .int .i64 x.before.high, .slice Ab nb cb, .int .i64 x.after.kind, .string x.after.name, .int .i64 x.after.low, .int .i64 x.after.high, .slice Aa na ca, .int .i64 x.pos]
def ItAt (w : World) (S : Nat → Prop) (cs : List Value) (x : It) : Prop := ∃ Ab nb cb Aa na ca, cs = itC x Ab nb cb Aa na ca ∧ RdN w S Ab nb cb x.before.kids ∧ RdN w S Aa na ca x.after.kids
def IsI (w : World) (S : Nat → Prop) (v : Value) (x : It) : Prop := ∃ Ab nb cb Aa na ca, v = itV x Ab nb cb Aa na ca ∧ RdN w S Ab nb cb x.before.kids ∧ RdN w S Aa na ca x.after.kids
theorem ItAt.keep {w w' : World} {S S' : Nat → Prop} {cs : List Value} {x : It} (h : ItAt w S cs x) (hS : ∀ b, S b → S' b) (hk : ∀ p : Addr, S p.block → w'.cell? p = w.cell? p) : ItAt w' S' cs x := by
  obtain ⟨Ab, nb, cb, Aa, na, ca, e, h1, h2⟩ := h
  exact ⟨Ab, nb, cb, Aa, na, ca, e, h1.keep hS hk, h2.keep hS hk⟩
/-- A slice value reads as these items. -/
structure RdI6 (w : World) (S : Nat → Prop) (A : Option Addr) (n c : Nat) (l : List It) : Prop where
  len : l.length = n
  cap : n ≤ c
  capm : c ≤ maxLen
  at_ : ∃ cs : Nat → List Value, (0 < n → ∃ b off, A = some ⟨b, off, none⟩ ∧ S b ∧ ∀ i, i < n → ∀ j u, (cs i)[j]? = some u → w.cell? ⟨b, off + (i * 15 + j), none⟩ = some u) ∧ ∀ i x, l[i]? = some x → ItAt w S (cs i) x
theorem RdI6.keep {w w' : World} {S S' : Nat → Prop} {A : Option Addr} {n c : Nat} {l : List It} (h : RdI6 w S A n c l) (hS : ∀ b, S b → S' b) (hk : ∀ p : Addr, S p.block → w'.cell? p = w.cell? p) : RdI6 w' S' A n c l := by
  obtain ⟨h1, h2, h3, cs, h4, h5⟩ := h
  refine ⟨h1, h2, h3, cs, fun hn => ?_, fun i x hx => (h5 i x hx).keep hS hk⟩
  obtain ⟨b, off, e, hb, hcc⟩ := h4 hn
  exact ⟨b, off, e, hS b hb, fun i hi j u hu => (hk ⟨b, _, none⟩ hb).trans (hcc i hi j u hu)⟩
theorem RdI6.nil (w : World) (S : Nat → Prop) : RdI6 w S none 0 0 [] := ⟨rfl, Nat.le_refl _, by simp [maxLen], fun _ => [], fun h => absurd h (by omega), fun i x hx => by simp at hx⟩
/-- Fifteen cells are stored. -/
def set15 (w : World) (N : Nat) (a0 a1 a2 a3 a4 a5 a6 a7 a8 a9 a10 a11 a12 a13 a14 : Value) : World := (((((((((((((((w.setCell ⟨N, 0, none⟩ a0).setCell ⟨N, 1, none⟩ a1).setCell ⟨N, 2, none⟩ a2).setCell ⟨N, 3, none⟩ a3).setCell ⟨N, 4, none⟩ a4).setCell ⟨N, 5, none⟩ a5).setCell ⟨N, 6, none⟩ a6).setCell ⟨N, 7, none⟩ a7).setCell ⟨N, 8, none⟩ a8).setCell ⟨N, 9, none⟩ a9).setCell ⟨N, 10, none⟩ a10).setCell ⟨N, 11, none⟩ a11).setCell ⟨N, 12, none⟩ a12).setCell ⟨N, 13, none⟩ a13).setCell ⟨N, 14, none⟩ a14)
theorem set15_row {w : World} {N : Nat} {x0 x1 x2 x3 x4 x5 x6 x7 x8 x9 x10 x11 x12 x13 x14 : Value} {t : TypeId} (h : w.heap[N]? = some (.cells #[x0, x1, x2, x3, x4, x5, x6, x7, x8, x9, x10, x11, x12, x13, x14] t (0, 0))) (a0 a1 a2 a3 a4 a5 a6 a7 a8 a9 a10 a11 a12 a13 a14 : Value) : (set15 w N a0 a1 a2 a3 a4 a5 a6 a7 a8 a9 a10 a11 a12 a13 a14).heap[N]? = some (.cells #[a0, a1, a2, a3, a4, a5, a6, a7, a8, a9, a10, a11, a12, a13, a14] t (0, 0)) := by
  have h0 : (w.setCell ⟨N, 0, none⟩ a0).heap[N]? = some (.cells #[a0, x1, x2, x3, x4, x5, x6, x7, x8, x9, x10, x11, x12, x13, x14] t (0, 0)) := heap_setCell_same _ _ _ _ _ _ h
  have h1 : ((w.setCell ⟨N, 0, none⟩ a0).setCell ⟨N, 1, none⟩ a1).heap[N]? = some (.cells #[a0, a1, x2, x3, x4, x5, x6, x7, x8, x9, x10, x11, x12, x13, x14] t (0, 0)) := heap_setCell_same _ _ _ _ _ _ h0
  have h2 : (((w.setCell ⟨N, 0, none⟩ a0).setCell ⟨N, 1, none⟩ a1).setCell ⟨N, 2, none⟩ a2).heap[N]? = some (.cells #[a0, a1, a2, x3, x4, x5, x6, x7, x8, x9, x10, x11, x12, x13, x14] t (0, 0)) := heap_setCell_same _ _ _ _ _ _ h1
  have h3 : ((((w.setCell ⟨N, 0, none⟩ a0).setCell ⟨N, 1, none⟩ a1).setCell ⟨N, 2, none⟩ a2).setCell ⟨N, 3, none⟩ a3).heap[N]? = some (.cells #[a0, a1, a2, a3, x4, x5, x6, x7, x8, x9, x10, x11, x12, x13, x14] t (0, 0)) := heap_setCell_same _ _ _ _ _ _ h2
  have h4 : (((((w.setCell ⟨N, 0, none⟩ a0).setCell ⟨N, 1, none⟩ a1).setCell ⟨N, 2, none⟩ a2).setCell ⟨N, 3, none⟩ a3).setCell ⟨N, 4, none⟩ a4).heap[N]? = some (.cells #[a0, a1, a2, a3, a4, x5, x6, x7, x8, x9, x10, x11, x12, x13, x14] t (0, 0)) := heap_setCell_same _ _ _ _ _ _ h3
  have h5 : ((((((w.setCell ⟨N, 0, none⟩ a0).setCell ⟨N, 1, none⟩ a1).setCell ⟨N, 2, none⟩ a2).setCell ⟨N, 3, none⟩ a3).setCell ⟨N, 4, none⟩ a4).setCell ⟨N, 5, none⟩ a5).heap[N]? = some (.cells #[a0, a1, a2, a3, a4, a5, x6, x7, x8, x9, x10, x11, x12, x13, x14] t (0, 0)) := heap_setCell_same _ _ _ _ _ _ h4
  have h6 : (((((((w.setCell ⟨N, 0, none⟩ a0).setCell ⟨N, 1, none⟩ a1).setCell ⟨N, 2, none⟩ a2).setCell ⟨N, 3, none⟩ a3).setCell ⟨N, 4, none⟩ a4).setCell ⟨N, 5, none⟩ a5).setCell ⟨N, 6, none⟩ a6).heap[N]? = some (.cells #[a0, a1, a2, a3, a4, a5, a6, x7, x8, x9, x10, x11, x12, x13, x14] t (0, 0)) := heap_setCell_same _ _ _ _ _ _ h5
  have h7 : ((((((((w.setCell ⟨N, 0, none⟩ a0).setCell ⟨N, 1, none⟩ a1).setCell ⟨N, 2, none⟩ a2).setCell ⟨N, 3, none⟩ a3).setCell ⟨N, 4, none⟩ a4).setCell ⟨N, 5, none⟩ a5).setCell ⟨N, 6, none⟩ a6).setCell ⟨N, 7, none⟩ a7).heap[N]? = some (.cells #[a0, a1, a2, a3, a4, a5, a6, a7, x8, x9, x10, x11, x12, x13, x14] t (0, 0)) := heap_setCell_same _ _ _ _ _ _ h6
  have h8 : (((((((((w.setCell ⟨N, 0, none⟩ a0).setCell ⟨N, 1, none⟩ a1).setCell ⟨N, 2, none⟩ a2).setCell ⟨N, 3, none⟩ a3).setCell ⟨N, 4, none⟩ a4).setCell ⟨N, 5, none⟩ a5).setCell ⟨N, 6, none⟩ a6).setCell ⟨N, 7, none⟩ a7).setCell ⟨N, 8, none⟩ a8).heap[N]? = some (.cells #[a0, a1, a2, a3, a4, a5, a6, a7, a8, x9, x10, x11, x12, x13, x14] t (0, 0)) := heap_setCell_same _ _ _ _ _ _ h7
  have h9 : ((((((((((w.setCell ⟨N, 0, none⟩ a0).setCell ⟨N, 1, none⟩ a1).setCell ⟨N, 2, none⟩ a2).setCell ⟨N, 3, none⟩ a3).setCell ⟨N, 4, none⟩ a4).setCell ⟨N, 5, none⟩ a5).setCell ⟨N, 6, none⟩ a6).setCell ⟨N, 7, none⟩ a7).setCell ⟨N, 8, none⟩ a8).setCell ⟨N, 9, none⟩ a9).heap[N]? = some (.cells #[a0, a1, a2, a3, a4, a5, a6, a7, a8, a9, x10, x11, x12, x13, x14] t (0, 0)) := heap_setCell_same _ _ _ _ _ _ h8
  have h10 : (((((((((((w.setCell ⟨N, 0, none⟩ a0).setCell ⟨N, 1, none⟩ a1).setCell ⟨N, 2, none⟩ a2).setCell ⟨N, 3, none⟩ a3).setCell ⟨N, 4, none⟩ a4).setCell ⟨N, 5, none⟩ a5).setCell ⟨N, 6, none⟩ a6).setCell ⟨N, 7, none⟩ a7).setCell ⟨N, 8, none⟩ a8).setCell ⟨N, 9, none⟩ a9).setCell ⟨N, 10, none⟩ a10).heap[N]? = some (.cells #[a0, a1, a2, a3, a4, a5, a6, a7, a8, a9, a10, x11, x12, x13, x14] t (0, 0)) := heap_setCell_same _ _ _ _ _ _ h9
  have h11 : ((((((((((((w.setCell ⟨N, 0, none⟩ a0).setCell ⟨N, 1, none⟩ a1).setCell ⟨N, 2, none⟩ a2).setCell ⟨N, 3, none⟩ a3).setCell ⟨N, 4, none⟩ a4).setCell ⟨N, 5, none⟩ a5).setCell ⟨N, 6, none⟩ a6).setCell ⟨N, 7, none⟩ a7).setCell ⟨N, 8, none⟩ a8).setCell ⟨N, 9, none⟩ a9).setCell ⟨N, 10, none⟩ a10).setCell ⟨N, 11, none⟩ a11).heap[N]? = some (.cells #[a0, a1, a2, a3, a4, a5, a6, a7, a8, a9, a10, a11, x12, x13, x14] t (0, 0)) := heap_setCell_same _ _ _ _ _ _ h10
  have h12 : (((((((((((((w.setCell ⟨N, 0, none⟩ a0).setCell ⟨N, 1, none⟩ a1).setCell ⟨N, 2, none⟩ a2).setCell ⟨N, 3, none⟩ a3).setCell ⟨N, 4, none⟩ a4).setCell ⟨N, 5, none⟩ a5).setCell ⟨N, 6, none⟩ a6).setCell ⟨N, 7, none⟩ a7).setCell ⟨N, 8, none⟩ a8).setCell ⟨N, 9, none⟩ a9).setCell ⟨N, 10, none⟩ a10).setCell ⟨N, 11, none⟩ a11).setCell ⟨N, 12, none⟩ a12).heap[N]? = some (.cells #[a0, a1, a2, a3, a4, a5, a6, a7, a8, a9, a10, a11, a12, x13, x14] t (0, 0)) := heap_setCell_same _ _ _ _ _ _ h11
  have h13 : ((((((((((((((w.setCell ⟨N, 0, none⟩ a0).setCell ⟨N, 1, none⟩ a1).setCell ⟨N, 2, none⟩ a2).setCell ⟨N, 3, none⟩ a3).setCell ⟨N, 4, none⟩ a4).setCell ⟨N, 5, none⟩ a5).setCell ⟨N, 6, none⟩ a6).setCell ⟨N, 7, none⟩ a7).setCell ⟨N, 8, none⟩ a8).setCell ⟨N, 9, none⟩ a9).setCell ⟨N, 10, none⟩ a10).setCell ⟨N, 11, none⟩ a11).setCell ⟨N, 12, none⟩ a12).setCell ⟨N, 13, none⟩ a13).heap[N]? = some (.cells #[a0, a1, a2, a3, a4, a5, a6, a7, a8, a9, a10, a11, a12, a13, x14] t (0, 0)) := heap_setCell_same _ _ _ _ _ _ h12
  have h14 : (((((((((((((((w.setCell ⟨N, 0, none⟩ a0).setCell ⟨N, 1, none⟩ a1).setCell ⟨N, 2, none⟩ a2).setCell ⟨N, 3, none⟩ a3).setCell ⟨N, 4, none⟩ a4).setCell ⟨N, 5, none⟩ a5).setCell ⟨N, 6, none⟩ a6).setCell ⟨N, 7, none⟩ a7).setCell ⟨N, 8, none⟩ a8).setCell ⟨N, 9, none⟩ a9).setCell ⟨N, 10, none⟩ a10).setCell ⟨N, 11, none⟩ a11).setCell ⟨N, 12, none⟩ a12).setCell ⟨N, 13, none⟩ a13).setCell ⟨N, 14, none⟩ a14).heap[N]? = some (.cells #[a0, a1, a2, a3, a4, a5, a6, a7, a8, a9, a10, a11, a12, a13, a14] t (0, 0)) := heap_setCell_same _ _ _ _ _ _ h13
  exact h14
theorem set15_size (w : World) (N : Nat) (a0 a1 a2 a3 a4 a5 a6 a7 a8 a9 a10 a11 a12 a13 a14 : Value) : (set15 w N a0 a1 a2 a3 a4 a5 a6 a7 a8 a9 a10 a11 a12 a13 a14).heap.size = w.heap.size := by simp [set15]
theorem set15_block (w : World) (N : Nat) (a0 a1 a2 a3 a4 a5 a6 a7 a8 a9 a10 a11 a12 a13 a14 : Value) {i : Nat} (hi : i ≠ N) : (set15 w N a0 a1 a2 a3 a4 a5 a6 a7 a8 a9 a10 a11 a12 a13 a14).heap[i]? = w.heap[i]? := by
  unfold set15
  rw [Below.heap_setCell _ _ _ _ hi]; rw [Below.heap_setCell _ _ _ _ hi]; rw [Below.heap_setCell _ _ _ _ hi]; rw [Below.heap_setCell _ _ _ _ hi]; rw [Below.heap_setCell _ _ _ _ hi]; rw [Below.heap_setCell _ _ _ _ hi]; rw [Below.heap_setCell _ _ _ _ hi]; rw [Below.heap_setCell _ _ _ _ hi]; rw [Below.heap_setCell _ _ _ _ hi]; rw [Below.heap_setCell _ _ _ _ hi]; rw [Below.heap_setCell _ _ _ _ hi]; rw [Below.heap_setCell _ _ _ _ hi]; rw [Below.heap_setCell _ _ _ _ hi]; rw [Below.heap_setCell _ _ _ _ hi]; rw [Below.heap_setCell _ _ _ _ hi]
theorem Fe.set15 {b : Nat} {a c : World} (h : Fe b a c) {g : Nat} (hg : g = b ∨ a.heap.size ≤ g) (a0 a1 a2 a3 a4 a5 a6 a7 a8 a9 a10 a11 a12 a13 a14 : Value) : Fe b a (set15 c g a0 a1 a2 a3 a4 a5 a6 a7 a8 a9 a10 a11 a12 a13 a14) :=
  ((((((((((((((h.set hg _ _).set hg _ _).set hg _ _).set hg _ _).set hg _ _).set hg _ _).set hg _ _).set hg _ _).set hg _ _).set hg _ _).set hg _ _).set hg _ _).set hg _ _).set hg _ _).set hg _ _
theorem RdE.other15 {b : Nat} {w : World} {e : Int} {o : Nat} {s : Ps} (h : RdE b w e o s) {g : Nat} (hg : b < g) (a0 a1 a2 a3 a4 a5 a6 a7 a8 a9 a10 a11 a12 a13 a14 : Value) : RdE b (set15 w g a0 a1 a2 a3 a4 a5 a6 a7 a8 a9 a10 a11 a12 a13 a14) e o s := by
  obtain ⟨A, n, c, h⟩ := h
  exact ⟨A, n, c, ((((((((((((((h.other hg _ _).other hg _ _).other hg _ _).other hg _ _).other hg _ _).other hg _ _).other hg _ _).other hg _ _).other hg _ _).other hg _ _).other hg _ _).other hg _ _).other hg _ _).other hg _ _).other hg _ _⟩
theorem cells15 {w : World} {N : Nat} {x0 x1 x2 x3 x4 x5 x6 x7 x8 x9 x10 x11 x12 x13 x14 : Value} {t : TypeId} (h : w.heap[N]? = some (.cells #[x0, x1, x2, x3, x4, x5, x6, x7, x8, x9, x10, x11, x12, x13, x14] t (0, 0))) :
    w.cell? ⟨N, 0, none⟩ = some x0 ∧ w.cell? ⟨N, 1, none⟩ = some x1 ∧ w.cell? ⟨N, 2, none⟩ = some x2 ∧ w.cell? ⟨N, 3, none⟩ = some x3 ∧ w.cell? ⟨N, 4, none⟩ = some x4 ∧ w.cell? ⟨N, 5, none⟩ = some x5 ∧ w.cell? ⟨N, 6, none⟩ = some x6 ∧ w.cell? ⟨N, 7, none⟩ = some x7 ∧ w.cell? ⟨N, 8, none⟩ = some x8 ∧ w.cell? ⟨N, 9, none⟩ = some x9 ∧ w.cell? ⟨N, 10, none⟩ = some x10 ∧ w.cell? ⟨N, 11, none⟩ = some x11 ∧ w.cell? ⟨N, 12, none⟩ = some x12 ∧ w.cell? ⟨N, 13, none⟩ = some x13 ∧ w.cell? ⟨N, 14, none⟩ = some x14 := by
  refine ⟨?_, ?_, ?_, ?_, ?_, ?_, ?_, ?_, ?_, ?_, ?_, ?_, ?_, ?_, ?_⟩ <;> (rw [cell_of_row _ _ _ _ _ _ h]; rfl)
def Box15 (w : World) (N : Nat) : Prop := ∃ x0 x1 x2 x3 x4 x5 x6 x7 x8 x9 x10 x11 x12 x13 x14 : Value, w.heap[N]? = some (.cells #[x0, x1, x2, x3, x4, x5, x6, x7, x8, x9, x10, x11, x12, x13, x14] 43 (0, 0))
theorem Box15.fe {b N : Nat} {w w' : World} (h : Box15 w N) (hf : Fe b w w') (hN : N ≠ b) (hs : N < w.heap.size) : Box15 w' N := by
  obtain ⟨x0, x1, x2, x3, x4, x5, x6, x7, x8, x9, x10, x11, x12, x13, x14, h⟩ := h
  exact ⟨x0, x1, x2, x3, x4, x5, x6, x7, x8, x9, x10, x11, x12, x13, x14, (hf.block N hs hN).trans h⟩
theorem Box15.set {w : World} {N : Nat} (h : Box15 w N) (a0 a1 a2 a3 a4 a5 a6 a7 a8 a9 a10 a11 a12 a13 a14 : Value) : (set15 w N a0 a1 a2 a3 a4 a5 a6 a7 a8 a9 a10 a11 a12 a13 a14).heap[N]? = some (.cells #[a0, a1, a2, a3, a4, a5, a6, a7, a8, a9, a10, a11, a12, a13, a14] 43 (0, 0)) := by
  obtain ⟨x0, x1, x2, x3, x4, x5, x6, x7, x8, x9, x10, x11, x12, x13, x14, h⟩ := h
  exact set15_row h _ _ _ _ _ _ _ _ _ _ _ _ _ _ _
def zeroI : Obj := .cells #[.int .i64 0, .string { data := #[] }, .int .i64 0, .bool false, .int .i64 0, .string { data := #[] }, .int .i64 0, .int .i64 0, .slice none 0 0, .int .i64 0, .string { data := #[] }, .int .i64 0, .int .i64 0, .slice none 0 0, .int .i64 0] 43
def begI (w : World) : World := w.alloc zeroI
theorem begI_box (w : World) : Box15 (begI w) w.heap.size := ⟨_, _, _, _, _, _, _, _, _, _, _, _, _, _, _, heap_alloc_new w _⟩
theorem begI_below (w : World) : Below w.heap.size w (begI w) := kbelow_push w _
theorem begI_size (w : World) : (begI w).heap.size = w.heap.size + 1 := by simp [begI]
/-- What item leaves. -/
def ItemQ (b : Nat) (w : World) (e : Int) (r : It × Ps) (en : Ending) (w' : World) : Prop := ∃ v, en = .returned v ∧ IsI w' (In w.heap.size w'.heap.size) v r.1 ∧ RdE b w' e 0 r.2 ∧ Fe b w w'
/-- The result's cells of an item, stored. -/
def set15I (w : World) (N : Nat) (x : It) (Ab : Option Addr) (nb cb : Nat) (Aa : Option Addr) (na ca : Nat) : World :=
  set15 w N (.int .i64 x.kind) (.string x.name) (.int .i64 x.number) (.bool x.cut) (.int .i64 x.before.kind) (.string x.before.name) (.int .i64 x.before.low) (.int .i64 x.before.high) (.slice Ab nb cb) (.int .i64 x.after.kind) (.string x.after.name) (.int .i64 x.after.low) (.int .i64 x.after.high) (.slice Aa na ca) (.int .i64 x.pos)
theorem item_end {b : Nat} {w w2 : World} {e : Int} {s : Ps} {N lo : Nat} {x : It} {Ab Aa : Option Addr} {nb cb na ca : Nat} (hf : Fe b w w2) (hr : RdE b w2 e 0 s) (hN : w.heap.size ≤ N) (hlo : N < lo) (hb : b < w.heap.size) (hB : Box15 w2 N)
    (h1 : RdN w2 (In lo w2.heap.size) Ab nb cb x.before.kids) (h2 : RdN w2 (In lo w2.heap.size) Aa na ca x.after.kids) :
    ItemQ b w e (x, s) (.returned (itV x Ab nb cb Aa na ca)) (set15I w2 N x Ab nb cb Aa na ca) ∧ (set15I w2 N x Ab nb cb Aa na ca).heap[N]? = some (.cells #[.int .i64 x.kind, .string x.name, .int .i64 x.number, .bool x.cut, .int .i64 x.before.kind, .string x.before.name, .int .i64 x.before.low, .int .i64 x.before.high, .slice Ab nb cb, .int .i64 x.after.kind, .string x.after.name, .int .i64 x.after.low, .int .i64 x.after.high, .slice Aa na ca, .int .i64 x.pos] 43 (0, 0)) := by
  have hk : ∀ {A : Option Addr} {n c : Nat} {l : List Nd}, RdN w2 (In lo w2.heap.size) A n c l → RdN (set15I w2 N x Ab nb cb Aa na ca) (In w.heap.size (set15I w2 N x Ab nb cb Aa na ca).heap.size) A n c l := fun h =>
    h.keep (fun i hi => ⟨by have := hi.1; omega, by unfold set15I; rw [set15_size]; exact hi.2⟩) fun p hp => World.cell?_of_block (w := w2) (set15_block _ _ _ _ _ _ _ _ _ _ _ _ _ _ _ _ _ (by have := hp.1; omega))
  exact ⟨⟨_, rfl, ⟨Ab, nb, cb, Aa, na, ca, rfl, hk h1, hk h2⟩, hr.other15 (by omega) _ _ _ _ _ _ _ _ _ _ _ _ _ _ _, hf.set15 (.inr hN) _ _ _ _ _ _ _ _ _ _ _ _ _ _ _⟩, hB.set _ _ _ _ _ _ _ _ _ _ _ _ _ _ _⟩
end Go.Proofs.YtdhighnbbpngpaaGreatDoor
namespace Go.Proofs.YtdhighnbbpngpaaGreatDoor
open Go.RowKit
open Y (Nd It Ps nextP takeP failP noTok noName zeroN formP itemP)

/-- The token's cells that a statement loads. -/
def HeldI (TB : Nat) (t : Tok) (tx : ByteArray) (w' : World) : Prop := w'.cell? ⟨TB, 1, none⟩ = some (.string tx) ∧ w'.cell? ⟨TB, 2, none⟩ = some (.int .i64 t.low) ∧ w'.cell? ⟨TB, 4, none⟩ = some (.int .i64 t.pos)
def HeldJ (TB PB : Nat) (t : Tok) (tx : ByteArray) (x : Nd) (A : Option Addr) (n c : Nat) (w' : World) : Prop := HeldI TB t tx w' ∧ (w'.cell? ⟨PB, 0, none⟩ = some (.int .i64 x.kind) ∧ w'.cell? ⟨PB, 1, none⟩ = some (.string x.name) ∧ w'.cell? ⟨PB, 2, none⟩ = some (.int .i64 x.low) ∧ w'.cell? ⟨PB, 3, none⟩ = some (.int .i64 x.high) ∧ w'.cell? ⟨PB, 4, none⟩ = some (.slice A n c))
set_option maxHeartbeats 8000000 in
theorem item_any {b : Nat} {w : World} {e : Int} {s : Ps} (hr : RdE b w e 0 s) (m : Nat) (hm : 10 * s.toks.length + 10 ≤ m) :
    Calls Tryz.prog 112 #[.pointer (some ⟨b, 0, none⟩)] w (ItemQ b w e (itemP e m s)) := by
  have hlt := hr.lt
  have hfew := hr.few
  have HR := Lib.hid hr
  clear hr
  have hres : itemP e m s = itemP e m s := rfl
  generalize hr' : itemP e m s = r at hres ⊢
  clear hres
  unfold Y.itemP at hr'
  have HW1 := Lib.hid (begI_below w)
  have HR1 := Lib.hid (HR.out.below HW1.out)
  have HBX1 := Lib.hid (begI_box w)
  have hs1 := begI_size w
  have hlen1 : (takeP e [1, 2, 19] s).2.toks.length ≤ s.toks.length := Y.take_len _ _ _
  generalize htk : takeP e [1, 2, 19] s = k at *
  have HRES := Lib.hid hr'
  have HTK := Lib.hid htk
  clear hr' htk
  go_enter Tryz.func112, Tryz.ntmps112
  go_wp2_with fail
  change Calls _ _ _ (litW (begI w) [1, 2, 19]) _
  generalize begI w = W1 at *
  have HL2 := Lib.hid (litW_below W1 [1, 2, 19])
  have HR2 := Lib.hid (HR1.out.below HL2.out)
  have HK2 := Lib.hid (litW_rd W1 [1, 2, 19] (w.heap.size + 1) (by omega) (by decide))
  have HF2 : Hid (Fe b w (litW W1 [1, 2, 19])) := (Fe.of_below HW1.out).trans (Fe.of_below HL2.out)
  have HBX2 : Hid (Box15 (litW W1 [1, 2, 19]) w.heap.size) := HBX1.out.fe (b := b) (Fe.of_below HL2.out) (by omega) (by omega)
  have hs2 := litW_size W1 [1, 2, 19]
  generalize litW W1 [1, 2, 19] = W2 at *
  clear HR1 HL2 HBX1 HW1 HR
  have htk := takeE HR2.out HK2.out
  unfold TakeP at htk
  rw [HTK.out] at htk
  refine htk.mono ?_
  rintro en w3 ⟨he, hr3, hf3⟩
  have HF3 := Lib.hid (HF2.out.trans hf3)
  have HBX3 := Lib.hid (HBX2.out.fe hf3 (by omega) (by omega))
  have hs3 := hf3.size
  have HR3 := Lib.hid hr3
  clear htk HK2 HR2 HF2 HBX2 hr3 hf3 HTK
  generalize hk1 : k.1 = t at *
  generalize hk2 : k.2 = s1 at *
  generalize htx : strOfNums t.text = tx at *
  unfold Tok.v at he
  rw [htx] at he
  subst he
  have hp4 := kbelow_push w3 (.cells #[.int .i64 t.kind, .string tx, .int .i64 t.low, .int .i64 t.high, .int .i64 t.pos] 95)
  have HT4 := Lib.hid (heap_alloc_new w3 (.cells #[.int .i64 t.kind, .string tx, .int .i64 t.low, .int .i64 t.high, .int .i64 t.pos] 95))
  have hs4 : (w3.alloc (.cells #[.int .i64 t.kind, .string tx, .int .i64 t.low, .int .i64 t.high, .int .i64 t.pos] 95)).heap.size = w3.heap.size + 1 := by simp
  have HR4 := Lib.hid (HR3.out.below hp4)
  have HF4 := Lib.hid (HF3.out.trans (Fe.of_below hp4))
  have HBX := Lib.hid (HBX3.out.fe (b := b) (Fe.of_below hp4) (by omega) (by omega))
  clear HR3 HF3 HBX3 hp4 hk1 hk2 htx
  generalize hW4 : w3.alloc (.cells #[.int .i64 t.kind, .string tx, .int .i64 t.low, .int .i64 t.high, .int .i64 t.pos] 95) = W4 at *
  generalize hTB : w3.heap.size = TB at *
  have hw4 : TB < W4.heap.size := by omega
  by_cases h1 : t.kind = 1
  · have HRES2 : Hid (r = (⟨1, tx, 0, false, (formP e m 0 (takeP e [3] s1).2).1, zeroN, t.pos⟩, (formP e m 0 (takeP e [3] s1).2).2)) := by show _ = _; rw [← HRES.out, if_pos h1]
    have g1 : (t.kind == 1) = true := by simpa using h1
    clear h1 HRES
    have HL5 := Lib.hid (litW_below W4 [3])
    have HR5 := Lib.hid (HR4.out.below HL5.out)
    have HK5 := Lib.hid (litW_rd W4 [3] (TB + 1) (by omega) (by decide))
    have hs5 := litW_size W4 [3]
    have HF45 : Hid (Fe b W4 (litW W4 [3])) := Fe.of_below HL5.out
    have hlen2 : (takeP e [3] s1).2.toks.length ≤ s1.toks.length := Y.take_len _ _ _
    obtain ⟨l0, l1, l2, l3, l4⟩ := cells5 HT4.out
    go_wp2_with fail
    have HW5 : Hid (W4.alloc (.cells #[.int .i64 3] 3) = litW W4 [3]) := rfl
    rw [HW5.out]
    clear HW5 hW4
    generalize litW W4 [3] = W5 at *
    refine (takeE HR5.out HK5.out).mono ?_
    rintro en w6 ⟨rfl, hr6, hf6⟩
    have HF46 := Lib.hid (HF45.out.trans hf6)
    have HF6 := Lib.hid (HF4.out.trans HF46.out)
    have HBX6 := Lib.hid (HBX.out.fe HF46.out (by omega) (by omega))
    have HT6 : Hid (w6.heap[TB]? = _) := (HF46.out.block _ (by omega) (by omega)).trans HT4.out
    have HR6 := Lib.hid hr6
    have hs6 := hf6.size
    clear hr6 hf6 HF45 HF46 HK5 HR5 HL5 HT4 HBX HF4 HR4 l0 l1 l2 l3 l4
    generalize (takeP e [3] s1).1.v = tv at *
    generalize (takeP e [3] s1).2 = s2 at *
    have HC := Lib.hid (form_all HR6.out.drew (by omega) m (by omega))
    generalize formP e m 0 s2 = q at *
    go_wp2_with fail
    have SS : HeldI TB t tx w6.drew := by obtain ⟨l0, l1, l2, l3, l4⟩ := cells5 HT6.out; exact ⟨l1, l2, l4⟩
    have HSF : Hid (∀ W', Fe b w6 W' → HeldI TB t tx W') := fun W' h => by
      obtain ⟨l0, l1, l2, l3, l4⟩ := cells5 ((h.block TB (by omega) (by omega)).trans HT6.out)
      exact ⟨l1, l2, l4⟩
    refine region_plain (HeldI TB t tx) 7 8 (by kernel_rfl) rfl ?_
    refine Z_takeW 0 (v := .pointer (some ⟨TB, 1, none⟩)) rfl (by kernel_rfl) (by kernel_rfl) (by kernel_rfl) (by kernel_rfl) (fun _ _ _ h => h) SS rfl (fun w' hS => ?_) ?_
    · go_simp
    refine Z_takeW 1 (v := .string tx) rfl (by kernel_rfl) (by kernel_rfl) (by kernel_rfl) (by kernel_rfl) (fun _ _ _ h => h) SS rfl (fun w' hS => ?_) ?_
    · obtain ⟨s0, s1, s2⟩ := hS; go_simp
    refine Z_takeW 2 (v := .pointer (some ⟨b, 0, none⟩)) rfl (by kernel_rfl) (by kernel_rfl) (by kernel_rfl) (by kernel_rfl) (fun _ _ _ h => h) SS rfl (fun w' hS => ?_) ?_
    · go_simp
    refine Z_takeW 4 (v := .pointer (some ⟨TB, 4, none⟩)) rfl (by kernel_rfl) (by kernel_rfl) (by kernel_rfl) (by kernel_rfl) (fun _ _ _ h => h) SS rfl (fun w' hS => ?_) ?_
    · go_simp
    refine Z_takeW 5 (v := .int .i64 t.pos) rfl (by kernel_rfl) (by kernel_rfl) (by kernel_rfl) (by kernel_rfl) (fun _ _ _ h => h) SS rfl (fun w' hS => ?_) ?_
    · obtain ⟨s0, s1, s2⟩ := hS; go_simp
    refine Z_one 3 rfl (by kernel_rfl) rfl ?_
    go_simp
    refine HC.out.mono ?_
    rintro en w7 ⟨v, rfl, ⟨A, n, c, rfl, hv⟩, hr7, hf7⟩
    have hf67 : Fe b w6 w7 := (Fe.refl b w6).drew.trans hf7
    have HSF7 := Lib.hid (HSF.out _ hf67)
    have HBX7 := Lib.hid (HBX6.out.fe hf67 (by omega) (by omega))
    have hE := item_end (x := ⟨1, tx, 0, false, q.1, zeroN, t.pos⟩) (Ab := A) (nb := n) (cb := c) (Aa := none) (na := 0) (ca := 0) (lo := w.heap.size + 1) (HF6.out.trans hf67) hr7 (Nat.le_refl _) (by omega) hlt HBX7.out (hv.keep (fun i hi => (⟨by have h3 : w6.drew.heap.size ≤ i := hi.1; have h4 : w6.heap.size ≤ i := h3; omega, hi.2⟩ : In _ _ i)) (fun _ _ => rfl)) (RdN.nil _ _)
    have HE := Lib.hid hE.1
    have HQ := Lib.hid hE.2
    rw [← HRES2.out] at HE
    refine ⟨HSF7.out, ?_⟩
    refine Z_one 6 rfl (by kernel_rfl) rfl ?_
    go_simp
    refine ⟨HSF7.out, ?_⟩
    obtain ⟨x0, x1, x2, x3, x4, x5, x6, x7, x8, x9, x10, x11, x12, x13, x14, hN⟩ := HBX7.out
    obtain ⟨k0, k1, k2, k3, k4, k5, k6, k7, k8, k9, k10, k11, k12, k13, k14⟩ := cells15 hN
    have fN : ∀ j, w7.frozen? ⟨w.heap.size, j, none⟩ = false := fun j => frozen_of_row _ _ _ _ _ hN
    clear hE hN hv hr7 hf7 hf67 HBX7 HBX6 HF6 HR6 HT6 HSF HSF7 HC SS HRES2
    refine Z_one 7 rfl (by kernel_rfl) rfl ?_
    go_simp
    refine Z_done (by kernel_rfl) ?_
    unfold OnlyN
    simp only []
    change Exit.then _ _ .normal _ (set15I w7 w.heap.size ⟨1, tx, 0, false, q.1, zeroN, t.pos⟩ A n c none 0 0)
    generalize set15I w7 w.heap.size ⟨1, tx, 0, false, q.1, zeroN, t.pos⟩ A n c none 0 0 = w9 at HE HQ ⊢
    go_wp2_with fail
    obtain ⟨q0, q1, q2, q3, q4, q5, q6, q7, q8, q9, q10, q11, q12, q13, q14⟩ := cells15 HQ.out
    exact bodyPost_ret (v := itV ⟨1, tx, 0, false, q.1, zeroN, t.pos⟩ A n c none 0 0) (by simp [itV, Nd.kind, Nd.name, Nd.low, Nd.high, noName, zeroN, results, Tryz.results112, go_sem, q0, q1, q2, q3, q4, q5, q6, q7, q8, q9, q10, q11, q12, q13, q14]) rfl HE.out
  · by_cases h2 : t.kind = 2
    · have HRES2 : Hid (r = (⟨2, noName, t.low, decide ((takeP e [4, 5] (formP e m 0 s1).2).1.kind = 5), (formP e m 0 s1).1, (formP e m 0 (takeP e [4, 5] (formP e m 0 s1).2).2).1, t.pos⟩, (formP e m 0 (takeP e [4, 5] (formP e m 0 s1).2).2).2)) := by show _ = _; rw [← HRES.out, if_neg h1, if_pos h2]
      have g1 : (t.kind == 1) = false := by simpa using h1
      have g2 : (t.kind == 2) = true := by simpa using h2
      clear h1 h2 HRES
      have hlenF : (formP e m 0 s1).2.toks.length ≤ s1.toks.length := (Y.len_all e m).form 0 s1
      have HC := Lib.hid (form_all HR4.out (by omega) m (by omega))
      generalize formP e m 0 s1 = k at *
      obtain ⟨l0, l1, l2, l3, l4⟩ := cells5 HT4.out
      go_wp2_with fail
      skip
      clear hW4 l0 l1 l2 l3 l4
      refine HC.out.mono ?_
      rintro en w5 ⟨v, rfl, ⟨A, n, c, rfl, hv⟩, hr5, hf5⟩
      generalize hx1 : k.1 = x at *
      generalize hx2 : k.2 = s2 at *
      have HF45 := Lib.hid hf5
      have hs5 := hf5.size
      have hp6 := kbelow_push w5 (.cells #[.int .i64 x.kind, .string x.name, .int .i64 x.low, .int .i64 x.high, .slice A n c] 30)
      have HN6 := Lib.hid (heap_alloc_new w5 (.cells #[.int .i64 x.kind, .string x.name, .int .i64 x.low, .int .i64 x.high, .slice A n c] 30))
      have hs6 : (w5.alloc (.cells #[.int .i64 x.kind, .string x.name, .int .i64 x.low, .int .i64 x.high, .slice A n c] 30)).heap.size = w5.heap.size + 1 := by simp
      have HR6 := Lib.hid (hr5.below hp6)
      have HF46 := Lib.hid (HF45.out.trans (Fe.of_below hp6))
      have HV6 : Hid (RdN (w5.alloc (.cells #[.int .i64 x.kind, .string x.name, .int .i64 x.low, .int .i64 x.high, .slice A n c] 30)) (In W4.heap.size w5.heap.size) A n c x.kids) := hv.keep (fun i hi => hi) (fun p hp => hp6.cell hp.2)
      clear hv hr5 hf5 hp6 HC HF45 hx1 hx2
      go_wp2_with fail
      have HW6 : Hid ((w5.alloc (.cells #[.int .i64 x.kind, .string x.name, .int .i64 x.low, .int .i64 x.high, .slice A n c] 30)).alloc (.cells #[.int .i64 4, .int .i64 5] 3) = litW (w5.alloc (.cells #[.int .i64 x.kind, .string x.name, .int .i64 x.low, .int .i64 x.high, .slice A n c] 30)) [4, 5]) := rfl
      rw [HW6.out]
      clear HW6
      generalize w5.alloc (.cells #[.int .i64 x.kind, .string x.name, .int .i64 x.low, .int .i64 x.high, .slice A n c] 30) = W6 at *
      generalize hPB : w5.heap.size = PB at *
      clear hPB
      have HL7 := Lib.hid (litW_below W6 [4, 5])
      have HR7 := Lib.hid (HR6.out.below HL7.out)
      have HK7 := Lib.hid (litW_rd W6 [4, 5] (PB + 1) (by omega) (by decide))
      have hs7 := litW_size W6 [4, 5]
      have HF67 : Hid (Fe b W6 (litW W6 [4, 5])) := Fe.of_below HL7.out
      have hlen3 : (takeP e [4, 5] s2).2.toks.length ≤ s2.toks.length := Y.take_len _ _ _
      generalize litW W6 [4, 5] = W7 at *
      refine (takeE HR7.out HK7.out).mono ?_
      rintro en w8 ⟨he, hr8, hf8⟩
      generalize (takeP e [4, 5] s2).1 = t2 at *
      generalize (takeP e [4, 5] s2).2 = s3 at *
      have HF68 := Lib.hid (HF67.out.trans hf8)
      have HF48 := Lib.hid (HF46.out.trans HF68.out)
      have HR8 := Lib.hid hr8
      have hs8 := hf8.size
      have HN8 : Hid (w8.heap[PB]? = _) := (HF68.out.block _ (by omega) (by omega)).trans HN6.out
      have HT8 : Hid (w8.heap[TB]? = _) := (HF48.out.block _ (by omega) (by omega)).trans HT4.out
      have HBX8 := Lib.hid (HBX.out.fe HF48.out (by omega) (by omega))
      have HF8 := Lib.hid (HF4.out.trans HF48.out)
      have HV8 : Hid (RdN w8 (In W4.heap.size PB) A n c x.kids) := HV6.out.keep (fun i hi => hi) (fun p hp => World.cell?_of_block (HF68.out.block _ (by have := hp.2; omega) (by have := hp.1; omega)))
      unfold Tok.v at he
      generalize strOfNums t2.text = tx2 at *
      subst he
      have hfd : ∀ w : World, (Instr.field 95 (.agg #[.int .i64 t2.kind, .string tx2, .int .i64 t2.low, .int .i64 t2.high, .int .i64 t2.pos]) 0).run Tryz.prog w = .ok (.int .i64 t2.kind) w := fun _ => by kernel_rfl
      have hcu : (t2.kind == 5) = decide (t2.kind = 5) := by rw [Bool.eq_iff_iff, beq_iff_eq, decide_eq_true_eq]
      generalize decide (t2.kind = 5) = cu at *
      clear hr8 hf8 HF67 HF68 HF48 HF46 HR7 HK7 HL7 HR6 HN6 HV6 HT4 HBX HF4 HR4
      have HC := Lib.hid (form_all HR8.out.drew (by omega) m (by omega))
      generalize formP e m 0 s3 = q at *
      go_wp2_with fail
      have HSF : Hid (∀ W', Fe b w8 W' → HeldJ TB PB t tx x A n c W') := fun W' h => by
        obtain ⟨l0, l1, l2, l3, l4⟩ := cells5 ((h.block TB (by omega) (by omega)).trans HT8.out)
        exact ⟨⟨l1, l2, l4⟩, cells5 ((h.block PB (by omega) (by omega)).trans HN8.out)⟩
      have SS : HeldJ TB PB t tx x A n c w8.drew := HSF.out _ (Fe.refl b w8).drew
      refine region_plain (HeldJ TB PB t tx x A n c) 9 10 (by kernel_rfl) rfl ?_
      refine Z_takeW 0 (v := .pointer (some ⟨TB, 2, none⟩)) rfl (by kernel_rfl) (by kernel_rfl) (by kernel_rfl) (by kernel_rfl) (fun _ _ _ h => h) SS rfl (fun w' hS => ?_) ?_
      · go_simp
      refine Z_takeW 1 (v := .int .i64 t.low) rfl (by kernel_rfl) (by kernel_rfl) (by kernel_rfl) (by kernel_rfl) (fun _ _ _ h => h) SS rfl (fun w' hS => ?_) ?_
      · obtain ⟨⟨s0, s1, s2⟩, s5, s6, s7, s8, s9⟩ := hS; go_simp
      refine Z_takeW 2 (v := .bool cu) rfl (by kernel_rfl) (by kernel_rfl) (by kernel_rfl) (by kernel_rfl) (fun _ _ _ h => h) SS rfl (fun w' hS => ?_) ?_
      · go_simp
      refine Z_takeW 3 (v := .agg #[.int .i64 x.kind, .string x.name, .int .i64 x.low, .int .i64 x.high, .slice A n c]) rfl (by kernel_rfl) (by kernel_rfl) (by kernel_rfl) (by kernel_rfl) (fun _ _ _ h => h) SS rfl (fun w' hS => ?_) ?_
      · obtain ⟨⟨s0, s1, s2⟩, s5, s6, s7, s8, s9⟩ := hS; go_simp
      refine Z_takeW 4 (v := .pointer (some ⟨b, 0, none⟩)) rfl (by kernel_rfl) (by kernel_rfl) (by kernel_rfl) (by kernel_rfl) (fun _ _ _ h => h) SS rfl (fun w' hS => ?_) ?_
      · go_simp
      refine Z_takeW 6 (v := .pointer (some ⟨TB, 4, none⟩)) rfl (by kernel_rfl) (by kernel_rfl) (by kernel_rfl) (by kernel_rfl) (fun _ _ _ h => h) SS rfl (fun w' hS => ?_) ?_
      · go_simp
      refine Z_takeW 7 (v := .int .i64 t.pos) rfl (by kernel_rfl) (by kernel_rfl) (by kernel_rfl) (by kernel_rfl) (fun _ _ _ h => h) SS rfl (fun w' hS => ?_) ?_
      · obtain ⟨⟨s0, s1, s2⟩, s5, s6, s7, s8, s9⟩ := hS; go_simp
      refine Z_one 5 rfl (by kernel_rfl) rfl ?_
      go_simp
      refine HC.out.mono ?_
      rintro en w9 ⟨v, rfl, ⟨A', n', c', rfl, hv⟩, hr9, hf9⟩
      have hf89 : Fe b w8 w9 := (Fe.refl b w8).drew.trans hf9
      have HSF9 := Lib.hid (HSF.out _ hf89)
      have HBX9 := Lib.hid (HBX8.out.fe hf89 (by omega) (by omega))
      have hs9 := hf89.size
      have hE := item_end (x := ⟨2, noName, t.low, cu, x, q.1, t.pos⟩) (Ab := A) (nb := n) (cb := c) (Aa := A') (na := n') (ca := c') (lo := w.heap.size + 1) (HF8.out.trans hf89) hr9 (Nat.le_refl _) (by omega) hlt HBX9.out (HV8.out.keep (fun i hi => (⟨by have := hi.1; omega, by have := hi.2; omega⟩ : In _ _ i)) (fun p hp => World.cell?_of_block (hf89.block _ (by have := hp.2; omega) (by have := hp.1; omega)))) (hv.keep (fun i hi => (⟨by have h3 : w8.drew.heap.size ≤ i := hi.1; have h4 : w8.heap.size ≤ i := h3; omega, hi.2⟩ : In _ _ i)) (fun _ _ => rfl))
      have HE := Lib.hid hE.1
      have HQ := Lib.hid hE.2
      rw [← HRES2.out] at HE
      refine ⟨HSF9.out, ?_⟩
      refine Z_one 8 rfl (by kernel_rfl) rfl ?_
      go_simp
      refine ⟨HSF9.out, ?_⟩
      obtain ⟨x0, x1, x2, x3, x4, x5, x6, x7, x8, x9, x10, x11, x12, x13, x14, hN⟩ := HBX9.out
      obtain ⟨k0, k1, k2, k3, k4, k5, k6, k7, k8, k9, k10, k11, k12, k13, k14⟩ := cells15 hN
      have fN : ∀ j, w9.frozen? ⟨w.heap.size, j, none⟩ = false := fun j => frozen_of_row _ _ _ _ _ hN
      clear hE hN hv hr9 hf9 hf89 HBX9 HBX8 HF8 HR8 HT8 HN8 HV8 HSF HSF9 HC SS HRES2
      refine Z_one 9 rfl (by kernel_rfl) rfl ?_
      go_simp
      refine Z_done (by kernel_rfl) ?_
      unfold OnlyN
      simp only []
      change Exit.then _ _ .normal _ (set15I w9 w.heap.size ⟨2, noName, t.low, cu, x, q.1, t.pos⟩ A n c A' n' c')
      generalize set15I w9 w.heap.size ⟨2, noName, t.low, cu, x, q.1, t.pos⟩ A n c A' n' c' = w10 at HE HQ ⊢
      go_wp2_with fail
      obtain ⟨q0, q1, q2, q3, q4, q5, q6, q7, q8, q9, q10, q11, q12, q13, q14⟩ := cells15 HQ.out
      exact bodyPost_ret (v := itV ⟨2, noName, t.low, cu, x, q.1, t.pos⟩ A n c A' n' c') (by simp [itV, Nd.kind, Nd.name, Nd.low, Nd.high, noName, zeroN, results, Tryz.results112, go_sem, q0, q1, q2, q3, q4, q5, q6, q7, q8, q9, q10, q11, q12, q13, q14]) rfl HE.out
    · have HRES2 : Hid (r = (⟨3, tx, t.low, false, zeroN, zeroN, t.pos⟩, s1)) := by show _ = _; rw [← HRES.out, if_neg h1, if_neg h2]
      have g1 : (t.kind == 1) = false := by simpa using h1
      have g2 : (t.kind == 2) = false := by simpa using h2
      clear h1 h2
      have hE := item_end (x := ⟨3, tx, t.low, false, zeroN, zeroN, t.pos⟩) (Ab := none) (nb := 0) (cb := 0) (Aa := none) (na := 0) (ca := 0) (lo := w.heap.size + 1) HF4.out HR4.out (Nat.le_refl _) (by omega) hlt HBX.out (RdN.nil _ _) (RdN.nil _ _)
      have HE := Lib.hid hE.1
      have HQ := Lib.hid hE.2
      rw [← HRES2.out] at HE
      clear hE
      obtain ⟨x0, x1, x2, x3, x4, x5, x6, x7, x8, x9, x10, x11, x12, x13, x14, hN⟩ := HBX.out
      obtain ⟨k0, k1, k2, k3, k4, k5, k6, k7, k8, k9, k10, k11, k12, k13, k14⟩ := cells15 hN
      have fN : ∀ j, W4.frozen? ⟨w.heap.size, j, none⟩ = false := fun j => frozen_of_row _ _ _ _ _ hN
      obtain ⟨l0, l1, l2, l3, l4⟩ := cells5 HT4.out
      clear hN HBX HF4 HR4 HT4 HRES
      go_wp2_with fail
      change bodyPost _ _ _ _ _ (set15I W4 w.heap.size ⟨3, tx, t.low, false, zeroN, zeroN, t.pos⟩ none 0 0 none 0 0)
      generalize set15I W4 w.heap.size ⟨3, tx, t.low, false, zeroN, zeroN, t.pos⟩ none 0 0 none 0 0 = w9 at HE HQ ⊢
      obtain ⟨q0, q1, q2, q3, q4, q5, q6, q7, q8, q9, q10, q11, q12, q13, q14⟩ := cells15 HQ.out
      exact bodyPost_ret (v := itV ⟨3, tx, t.low, false, zeroN, zeroN, t.pos⟩ none 0 0 none 0 0) (by simp [itV, Nd.kind, Nd.name, Nd.low, Nd.high, noName, zeroN, results, Tryz.results112, go_sem, q0, q1, q2, q3, q4, q5, q6, q7, q8, q9, q10, q11, q12, q13, q14]) rfl HE.out
end Go.Proofs.YtdhighnbbpngpaaGreatDoor
namespace Go.Proofs.YtdhighnbbpngpaaGreatDoor
open Go.RowKit
open Y (Nd It Ps nextP takeP failP noTok noName zeroN formP itemP lineP itemsP)

theorem item_less (e : Int) (n : Nat) (s : Ps) (h : s.toks ≠ []) : (itemP e n s).2.toks.length < s.toks.length := by
  have h1 : (takeP e [1, 2, 19] s).2.toks.length < s.toks.length := by
    rcases s with (_ | ⟨t, u⟩) | ⟨a, y⟩
    · exact absurd rfl h
    · rw [Y.take_cons]; split <;> simp [Y.Ps.toks]
    · exact absurd rfl h
  unfold Y.itemP
  split
  · exact Nat.lt_of_le_of_lt (Nat.le_trans ((Y.len_all e n).form _ _) (Y.take_len _ _ _)) h1
  · split
    · exact Nat.lt_of_le_of_lt (Nat.le_trans ((Y.len_all e n).form _ _) (Nat.le_trans (Y.take_len _ _ _) ((Y.len_all e n).form _ _))) h1
    · exact h1
theorem line_len (e : Int) (s : Ps) : (lineP e s).toks.length ≤ s.toks.length := by
  unfold Y.lineP
  split
  · exact Nat.le_refl _
  · exact Y.take_len _ _ _
/-- A row of items of one's own. -/
def OwnI (w : World) (B : Nat) (v : Value) (l : List It) : Prop := ∃ cs, w.ownsRow B 43 15 v l.length cs ∧ ∀ i x, l[i]? = some x → ItAt w (fun b => B ≤ b ∧ b < w.heap.size ∧ v.ownBlock ≠ some b) ((cs.drop (i * 15)).take 15) x
theorem info_it : (Tryz.prog.info? 43).map (fun i => (i.zero, i.size, i.bytes)) = some (some (.agg #[.int .i64 0, .string { data := #[] }, .int .i64 0, .bool false, .int .i64 0, .string { data := #[] }, .int .i64 0, .int .i64 0, .slice none 0 0, .int .i64 0, .string { data := #[] }, .int .i64 0, .int .i64 0, .slice none 0 0, .int .i64 0]), 15, 176) := by kernel_rfl
section
variable {w w' : World} {B : Nat} {v : Value} {l : List It}
theorem OwnI.nil (w : World) (B : Nat) : OwnI w B (.slice none 0 0) [] := ⟨[], World.ownsRow_nil w B _ 15, fun i x hx => by simp at hx⟩
theorem OwnI.rd (h : OwnI w B v l) : ∃ A c, v = .slice A l.length c ∧ RdI6 w (In B w.heap.size) A l.length c l := by
  obtain ⟨cs, ho, hk⟩ := h
  have hs : ∀ i x, l[i]? = some x → ItAt w (In B w.heap.size) ((cs.drop (i * 15)).take 15) x := fun i x hx => (hk i x hx).keep (fun b hb => ⟨hb.1, hb.2.1⟩) (fun _ _ => rfl)
  rcases ho.2 with ⟨h1, h2⟩ | ⟨g, cap, cur, h1, hB, hg, h3, h4, _, _⟩
  · subst h1
    have : l = [] := List.eq_nil_of_length_eq_zero h2
    subst this
    exact ⟨none, 0, rfl, RdI6.nil _ _⟩
  · subst h1
    have hlt : g < w.heap.size := by
      rcases Nat.lt_or_ge g w.heap.size with hlt | hge
      · exact hlt
      · rw [Array.getElem?_eq_none hge] at hg; cases hg
    refine ⟨_, cap, rfl, rfl, h3, h4, fun i => (cs.drop (i * 15)).take 15, fun _ => ⟨g, 0, rfl, ⟨hB, hlt⟩, fun i hi j u hu => ?_⟩, hs⟩
    rw [← kadd_none]
    have hj : j < 15 := by
      have := (List.getElem?_eq_some_iff.1 hu).1; rw [List.length_take] at this; omega
    rw [List.getElem?_take_of_lt hj, List.getElem?_drop] at hu
    exact World.ownsRow.cells ho (g := g) rfl _ _ hu
theorem OwnI.keep (h : OwnI w B v l) (hs : w.heap.size ≤ w'.heap.size) (hb : ∀ i, B ≤ i → i < w.heap.size → w'.heap[i]? = w.heap[i]?) : OwnI w' B v l := by
  obtain ⟨cs, ho, hk⟩ := h
  exact ⟨cs, row_keep ho fun i h1 h2 _ => hb i h1 h2, fun i x hx => (hk i x hx).keep (fun b hb => ⟨hb.1, by omega, hb.2.2⟩) (fun p hp => World.cell?_of_block (hb p.block hp.1 hp.2.1))⟩
theorem OwnI.block (h : OwnI w B v l) : ∀ i, v.ownBlock = some i → B ≤ i ∧ i < w.heap.size := by
  obtain ⟨cs, ho, _⟩ := h
  exact World.ownsRow.lt ho
theorem OwnI.push {v' : Value} {ns cs : List Value} {x : It} (hk : ∀ i x, l[i]? = some x → ItAt w (fun b => B ≤ b ∧ b < w.heap.size ∧ v.ownBlock ≠ some b) ((cs.drop (i * 15)).take 15) x) (hcl : cs.length = l.length * 15)
    (hx : ItAt w (fun b => B ≤ b ∧ b < w.heap.size ∧ v.ownBlock ≠ some b) ns x) (hn : ns.length = 15) (ho : w'.ownsRow B 43 15 v' (l.length + 1) (cs ++ ns)) (hg : w.grownBy w' v.ownBlock) (hat : v'.ownBlock = v.ownBlock ∨ v'.ownBlock = some w.heap.size) : OwnI w' B v' (l ++ [x]) := by
  have hS : ∀ b, (B ≤ b ∧ b < w.heap.size ∧ v.ownBlock ≠ some b) → B ≤ b ∧ b < w'.heap.size ∧ v'.ownBlock ≠ some b := fun b ⟨h1, h2, h3⟩ => ⟨h1, Nat.lt_of_lt_of_le h2 hg.size, by
    rcases hat with e | e
    · rw [e]; exact h3
    · rw [e]; intro e2; injection e2 with e2; omega⟩
  have hc : ∀ p : Addr, (B ≤ p.block ∧ p.block < w.heap.size ∧ v.ownBlock ≠ some p.block) → w'.cell? p = w.cell? p := fun p ⟨_, h2, h3⟩ => World.cell?_of_block (hg.block p.block h2 (fun e => h3 e.symm))
  refine ⟨cs ++ ns, by simpa using ho, fun i y hy => ?_⟩
  rcases Nat.lt_or_ge i l.length with hi | hi
  · rw [List.getElem?_append_left hi] at hy
    have := (hk i y hy).keep hS hc
    rw [List.drop_append_of_le_length (by omega), List.take_append_of_le_length (by rw [List.length_drop]; omega)]
    exact this
  · have hil : i = l.length := by
      have := (List.getElem?_eq_some_iff.1 hy).1; simp at this; omega
    subst hil
    rw [List.getElem?_append_right (Nat.le_refl _), Nat.sub_self] at hy
    simp at hy
    subst hy
    rw [List.drop_append, List.drop_eq_nil_of_le (by omega), List.nil_append, hcl, Nat.sub_self, List.drop_zero, List.take_of_length_le (by omega)]
    exact hx.keep hS hc
end
theorem app_i {w : World} {ops : Array Oper} {rest : List Oper} {o : Oper} {a : Act} {Q : Exit → Act → World → Prop} (hgd : o.guard = none) (s y : Operand)
    (ho : o.op = .call { callee := .builtin .append, args := #[s, y], argTypes := #[35, 35] })
    (base : Nat) (v : Value) (l : List It) (hs : a.eval s = v) (hown : OwnI w base v l) (N : Nat) (x : It) (Ab : Option Addr) (nb cb : Nat) (Aa : Option Addr) (na ca : Nat)
    (hx : a.eval y = .slice (some ⟨N, 0, none⟩) 1 1) (hrow : w.heap[N]? = some (.cells #[.int .i64 x.kind, .string x.name, .int .i64 x.number, .bool x.cut, .int .i64 x.before.kind, .string x.before.name, .int .i64 x.before.low, .int .i64 x.before.high, .slice Ab nb cb, .int .i64 x.after.kind, .string x.after.name, .int .i64 x.after.low, .int .i64 x.after.high, .slice Aa na ca, .int .i64 x.pos] 43 (0, 0))) (hy : ItAt w (fun b => base ≤ b ∧ b < w.heap.size ∧ v.ownBlock ≠ some b) (itC x Ab nb cb Aa na ca) x)
    (h63 : l.length ≤ 1000000) (hbase : base ≤ w.heap.size)
    (h : ∀ v' w', OwnI w' base v' (l ++ [x]) → w.grownBy w' v.ownBlock → wpList Tryz.prog ops Q rest (a.put o.dst v') w') : wpList Tryz.prog ops Q (o :: rest) a w := by
  obtain ⟨i0, hi0, hz0, hz1, hz2⟩ := info_k info_it
  obtain ⟨cs, hc, hk⟩ := hown
  refine wpList_append_own_at w hgd s y 35 ho base 43 i0 _ 15 176 Tryz.underlying35 hi0 hz0 hz1 hz2 rfl (by decide) v l.length cs hs hc ⟨N, 0, none⟩ 1 1 (itC x Ab nb cb Aa na ca) hx rfl ?_ ?_ (by unfold maxLen; omega) (by omega) hbase ?_
  · intro j u hu
    rw [kadd_none, cell_of_row _ _ _ _ _ _ hrow, Nat.zero_add]
    unfold itC at hu
    simpa using hu
  · intro u hu
    unfold itC at hu
    simp only [List.mem_cons, List.not_mem_nil, or_false] at hu
    rcases hu with rfl | rfl | rfl | rfl | rfl | rfl | rfl | rfl | rfl | rfl | rfl | rfl | rfl | rfl | rfl <;> rfl
  · intro v' w' h2 h3 _ h4
    exact h v' w' (OwnI.push hk hc.1 hy rfl h2 h3 h4) h3
/-- The loop of items: where it stands. -/
structure ItemsR (b : Nat) (w : World) (e : Int) (n : Nat) (r : List It × Ps) (v : Value) (l : List It) (s : Ps) (m' : Nat) (wx : World) : Prop where
  own : OwnI wx w.heap.size v l
  rd : RdE b wx e 0 s
  fe : Fe b w wx
  eq : r = itemsP e n m' l s
  fuel : s.toks.length + 1 ≤ m'
  fueln : 10 * s.toks.length + 10 ≤ n
  few : s.toks.length ≤ 4000
  len : l.length ≤ 100
def ItemsQ (b : Nat) (w : World) (e : Int) (r : List It × Ps) (en : Ending) (w' : World) : Prop := ∃ A c, en = .returned (.slice A r.1.length c) ∧ RdI6 w' (In w.heap.size w'.heap.size) A r.1.length c r.1 ∧ RdE b w' e 0 r.2 ∧ Fe b w w'
theorem ItemsR.out {b : Nat} {w wx wy : World} {e : Int} {n m' : Nat} {r : List It × Ps} {v : Value} {l : List It} {s s2 : Ps} (h : ItemsR b w e n r v l s m' wx) (hb : b < w.heap.size) (hf : Fe b wx wy) (hr : RdE b wy e 0 s2) (he : r = (l, s2)) : ItemsQ b w e r (.returned v) wy := by
  obtain ⟨A, c, rfl, hv⟩ := h.own.rd
  refine ⟨A, c, by rw [he], ?_, by rw [he]; exact hr, h.fe.trans hf⟩
  rw [he]
  exact hv.keep (fun i hi => ⟨hi.1, Nat.lt_of_lt_of_le hi.2 hf.size⟩) (fun p hp => World.cell?_of_block (hf.block _ hp.2 (by have := hp.1; omega)))
end Go.Proofs.YtdhighnbbpngpaaGreatDoor
namespace Go.Proofs.YtdhighnbbpngpaaGreatDoor
open Go.RowKit
open Y (Nd It Ps nextP takeP failP noTok noName zeroN formP itemP lineP itemsP)

set_option maxHeartbeats 8000000 in
theorem items_any {b : Nat} {w : World} {e : Int} {s : Ps} (hr : RdE b w e 0 s) (n m : Nat) (hn : 10 * s.toks.length + 10 ≤ n) (hm : s.toks.length + 1 ≤ m) :
    Calls Tryz.prog 62 #[.pointer (some ⟨b, 0, none⟩)] w (ItemsQ b w e (itemsP e n m [] s)) := by
  have hlt := hr.lt
  have hfew := hr.few
  generalize hres : itemsP e n m [] s = r
  have HST : Hid (ItemsR b w e n r (.slice none 0 0) [] s m w) := ⟨OwnI.nil _ _, hr, Fe.refl _ _, hres.symm, hm, hn, hfew, by simp⟩
  clear hr hres hm hn hfew
  go_enter Tryz.func62, Tryz.ntmps62
  go_wp2_with fail
  go_loopw [3] (fun v wx => ∃ (l : List It) (s' : Ps) (m' : Nat), Hid (ItemsR b w e n r v l s' m' wx)) (fun _ wx => lenOf b wx)
  case atStart => exact ⟨[], s, m, HST.out⟩
  case round =>
    obtain ⟨l, s', m', HM⟩ := hrel
    clear HST
    have hfu := HM.out.fuel
    have hfn := HM.out.fueln
    have hfew := HM.out.few
    have hlen := HM.out.len
    have hszr := HM.out.fe.size
    obtain ⟨m', rfl⟩ : ∃ m1, m' = m1 + 1 := ⟨m' - 1, by omega⟩
    have HLN : Hid (lenOf b wr = s'.toks.length) := HM.out.rd.len
    have hpn : itemsP e n (m' + 1) l s' = if s'.toks = [] then (l, s') else if nextP [18] s' = true then itemsP e n m' l (takeP e [18] s').2 else if l.length = 100 then (l, failP e 9 s') else itemsP e n m' (l ++ [(itemP e n s').1]) (lineP e (itemP e n s').2) := by rw [itemsP]
    have HEQ : Hid (r = _) := HM.out.eq.trans hpn
    clear hpn
    obtain ⟨A0, n0, c0, hrd⟩ := HM.out.rd
    have hc0 := hrd.cells.1
    have hn0 := hrd.rd.len
    clear hrd
    by_cases hempty : s'.toks = []
    · have HK : Hid (r = (l, s')) := by show _ = _; rw [HEQ.out, if_pos hempty]
      have hz : n0 = 0 := by rw [hempty] at hn0; exact hn0.symm
      subst hz
      have HE : Hid (ItemsQ b w e r (.returned u3) wr) := HM.out.out hlt (Fe.refl _ _) HM.out.rd HK.out
      clear HEQ HK HM HLN hempty
      go_wp2_with fail
      exact bodyPost_ret (v := u3) (by simp [results, Tryz.results62, go_sem]) rfl HE.out
    · have hpos : 0 < s'.toks.length := List.length_pos_iff.2 hempty
      have g0 : (0 : Int) < (n0 : Int) := by omega
      have HK0 : Hid (r = if nextP [18] s' = true then itemsP e n m' l (takeP e [18] s').2 else if l.length = 100 then (l, failP e 9 s') else itemsP e n m' (l ++ [(itemP e n s').1]) (lineP e (itemP e n s').2)) := by show _ = _; rw [HEQ.out, if_neg hempty]
      have HNE := Lib.hid hempty
      clear HEQ hempty
      have HL2 := Lib.hid (litW_below wr [18])
      have HR2 := Lib.hid (HM.out.rd.below HL2.out)
      have HK2 := Lib.hid (litW_rd wr [18] wr.heap.size rfl (by decide))
      have HF2 : Hid (Fe b wr (litW wr [18])) := Fe.of_below HL2.out
      have hsw2 := litW_size wr [18]
      go_wp2_with fail
      change Calls _ _ _ (litW wr [18]) _
      generalize litW wr [18] = W2 at *
      clear HL2
      refine (nextE HR2.out HK2.out).mono ?_
      rintro en w' ⟨rfl, rfl⟩
      clear HK2
      cases hx : nextP [18] s' with
      | true =>
        have HK : Hid (r = itemsP e n m' l (takeP e [18] s').2) := by show _ = _; rw [HK0.out, if_pos hx]
        have hless : (takeP e [18] s').2.toks.length < s'.toks.length := Y.take_less e [18] [18] s' hx
        have HL3 := Lib.hid (litW_below W2 [18])
        have HR3 := Lib.hid (HR2.out.below HL3.out)
        have HK3 := Lib.hid (litW_rd W2 [18] (wr.heap.size + 1) (by omega) (by decide))
        have HF3 : Hid (Fe b wr (litW W2 [18])) := HF2.out.trans (Fe.of_below HL3.out)
        clear HK0 HR2
        go_wp2_with fail
        change Calls _ _ _ (litW W2 [18]) _
        generalize litW W2 [18] = W3 at *
        refine (takeE HR3.out HK3.out).mono ?_
        rintro en w4 ⟨rfl, hr4, hf4⟩
        generalize (takeP e [18] s').1.v = tv at *
        generalize (takeP e [18] s').2 = s2 at *
        have HF4 := Lib.hid (HF3.out.trans hf4)
        have HD : Hid (ItemsR b w e n r u3 l s2 m' w4) := ⟨HM.out.own.keep HF4.out.size (fun i h1 h2 => HF4.out.block i h2 (by omega)), hr4, HM.out.fe.trans HF4.out, HK.out, by omega, by omega, by omega, hlen⟩
        clear hr4 hf4 HF4 HF3 HK HR3 HK3 HL3 HF2 HM
        go_wp2_with fail
        go_roundw
        case rel => exact ⟨l, s2, m', HD.out⟩
        case measure => show lenOf b w4 < lenOf b wr; rw [HD.out.rd.len, HLN.out]; exact hless
      | false =>
        have HK1 : Hid (r = if l.length = 100 then (l, failP e 9 s') else itemsP e n m' (l ++ [(itemP e n s').1]) (lineP e (itemP e n s').2)) := by show _ = _; rw [HK0.out, if_neg (by rw [hx]; decide)]
        clear HK0
        obtain ⟨A, c, hu3, hv⟩ := HM.out.own.rd
        have HU3 := Lib.hid hu3
        subst hu3
        clear hv
        by_cases h100 : l.length = 100
        · have HK : Hid (r = (l, failP e 9 s')) := by show _ = _; rw [HK1.out, if_pos h100]
          have g1 : ((l.length : Int) == 100) = true := by simp; omega
          have hsay := Lib.hid (failE HR2.out (y := 9) (by decide))
          clear HK1 h100
          go_wp2_with fail
          refine hsay.out.mono ?_
          rintro en w4 ⟨rfl, hr4, hf4⟩
          have HE : Hid (ItemsQ b w e r (.returned (.slice A l.length c)) w4) := HM.out.out hlt (HF2.out.trans hf4) hr4 HK.out
          clear hr4 hf4 HK HM hsay HR2 HF2
          go_wp2_with fail
          exact bodyPost_ret (v := .slice A l.length c) (by simp [results, Tryz.results62, go_sem]) rfl HE.out
        · have HK : Hid (r = itemsP e n m' (l ++ [(itemP e n s').1]) (lineP e (itemP e n s').2)) := by show _ = _; rw [HK1.out, if_neg h100]
          have g1 : ((l.length : Int) == 100) = false := by simp; omega
          have hl99 : l.length < 100 := by omega
          clear HK1 h100
          have hless : (itemP e n s').2.toks.length < s'.toks.length := item_less e n s' HNE.out
          have HC := Lib.hid (item_any HR2.out n hfn)
          generalize itemP e n s' = k at *
          go_wp2_with fail
          refine HC.out.mono ?_
          rintro en w4 ⟨v, rfl, ⟨Ab, nb, cb, Aa, na, ca, rfl, hv1, hv2⟩, hr4, hf4⟩
          generalize hkx : k.1 = x at *
          generalize hks : k.2 = s2 at *
          have hob := HM.out.own.block
          have hs4 := hf4.size
          have HF4 := Lib.hid (HF2.out.trans hf4)
          have hp5 := kbelow_push w4 (.cells #[.int .i64 x.kind, .string x.name, .int .i64 x.number, .bool x.cut, .int .i64 x.before.kind, .string x.before.name, .int .i64 x.before.low, .int .i64 x.before.high, .slice Ab nb cb, .int .i64 x.after.kind, .string x.after.name, .int .i64 x.after.low, .int .i64 x.after.high, .slice Aa na ca, .int .i64 x.pos] 43)
          have HROW := Lib.hid (heap_alloc_new w4 (.cells #[.int .i64 x.kind, .string x.name, .int .i64 x.number, .bool x.cut, .int .i64 x.before.kind, .string x.before.name, .int .i64 x.before.low, .int .i64 x.before.high, .slice Ab nb cb, .int .i64 x.after.kind, .string x.after.name, .int .i64 x.after.low, .int .i64 x.after.high, .slice Aa na ca, .int .i64 x.pos] 43))
          have HR5 := Lib.hid (hr4.below hp5)
          have HF5 := Lib.hid (HF4.out.trans (Fe.of_below hp5))
          have hz5 : (w4.alloc (.cells #[.int .i64 x.kind, .string x.name, .int .i64 x.number, .bool x.cut, .int .i64 x.before.kind, .string x.before.name, .int .i64 x.before.low, .int .i64 x.before.high, .slice Ab nb cb, .int .i64 x.after.kind, .string x.after.name, .int .i64 x.after.low, .int .i64 x.after.high, .slice Aa na ca, .int .i64 x.pos] 43)).heap.size = w4.heap.size + 1 := by simp
          have HO5 : Hid (OwnI (w4.alloc (.cells #[.int .i64 x.kind, .string x.name, .int .i64 x.number, .bool x.cut, .int .i64 x.before.kind, .string x.before.name, .int .i64 x.before.low, .int .i64 x.before.high, .slice Ab nb cb, .int .i64 x.after.kind, .string x.after.name, .int .i64 x.after.low, .int .i64 x.after.high, .slice Aa na ca, .int .i64 x.pos] 43)) w.heap.size (.slice A l.length c) l) := HM.out.own.keep HF5.out.size (fun i h1 h2 => HF5.out.block i h2 (by omega))
          have hS : ∀ i, In W2.heap.size w4.heap.size i → (w.heap.size ≤ i ∧ i < (w4.alloc (.cells #[.int .i64 x.kind, .string x.name, .int .i64 x.number, .bool x.cut, .int .i64 x.before.kind, .string x.before.name, .int .i64 x.before.low, .int .i64 x.before.high, .slice Ab nb cb, .int .i64 x.after.kind, .string x.after.name, .int .i64 x.after.low, .int .i64 x.after.high, .slice Aa na ca, .int .i64 x.pos] 43)).heap.size ∧ (Value.slice A l.length c).ownBlock ≠ some i) := fun i hi => ⟨by have := hi.1; omega, by have := hi.2; omega, fun e => by have := (hob i e).2; have := hi.1; omega⟩
          have HIT : Hid (ItAt (w4.alloc (.cells #[.int .i64 x.kind, .string x.name, .int .i64 x.number, .bool x.cut, .int .i64 x.before.kind, .string x.before.name, .int .i64 x.before.low, .int .i64 x.before.high, .slice Ab nb cb, .int .i64 x.after.kind, .string x.after.name, .int .i64 x.after.low, .int .i64 x.after.high, .slice Aa na ca, .int .i64 x.pos] 43)) (fun i => w.heap.size ≤ i ∧ i < (w4.alloc (.cells #[.int .i64 x.kind, .string x.name, .int .i64 x.number, .bool x.cut, .int .i64 x.before.kind, .string x.before.name, .int .i64 x.before.low, .int .i64 x.before.high, .slice Ab nb cb, .int .i64 x.after.kind, .string x.after.name, .int .i64 x.after.low, .int .i64 x.after.high, .slice Aa na ca, .int .i64 x.pos] 43)).heap.size ∧ (Value.slice A l.length c).ownBlock ≠ some i) (itC x Ab nb cb Aa na ca) x) :=
            ⟨Ab, nb, cb, Aa, na, ca, rfl, hv1.keep hS (fun p hp => hp5.cell hp.2), hv2.keep hS (fun p hp => hp5.cell hp.2)⟩
          have hl6 : l.length ≤ 1000000 := by omega
          have HOB := Lib.hid hob
          clear hv1 hv2 hr4 hf4 hp5 hS HC HR2 HF2 hkx hks HF4 hob
          unfold itV
          go_upto_if 39 with (at_builtin; refine app_i rfl _ _ rfl w.heap.size (.slice A l.length c) l rfl HO5.out w4.heap.size x Ab nb cb Aa na ca rfl HROW.out HIT.out hl6 (by omega) ?_; intro v5 w5 ho5 hg5; obtain ⟨A6, n6, c6, hrd6⟩ := HR5.out.grown hg5 (fun i hi => (by have := (HOB.out i hi).1; omega)); have hc6 := hrd6.cells.1; have hn6 := hrd6.rd.len; clear hrd6)
          have HR6 := Lib.hid (HR5.out.grown hg5 (fun i hi => by have := (HOB.out i hi).1; omega))
          have HF6 := Lib.hid ((HM.out.fe.trans HF5.out).grown hg5 (fun i hi => (HOB.out i hi).1))
          have HO6 := Lib.hid ho5
          have hz6 := hg5.size
          clear ho5 hg5 HR5 HF5 HO5 HIT HROW HOB HM HU3
          by_cases he6 : s2.toks = []
          · have hz : n6 = 0 := by rw [he6] at hn6; exact hn6.symm
            subst hz
            have hln : lineP e s2 = s2 := by unfold Y.lineP; rw [if_pos he6]
            have HD : Hid (ItemsR b w e n r v5 (l ++ [x]) s2 m' w5) := ⟨HO6.out, HR6.out, HF6.out, by rw [← hln]; exact HK.out, by omega, by omega, by omega, by simp; omega⟩
            clear hln he6 HO6 HR6 HF6 HK
            go_wp2_with fail
            go_roundw
            case rel => exact ⟨l ++ [x], s2, m', HD.out⟩
            case measure => show lenOf b w5 < lenOf b wr; rw [HD.out.rd.len, HLN.out]; exact hless
          · have hpos6 : 0 < s2.toks.length := List.length_pos_iff.2 he6
            have g6 : (0 : Int) < (n6 : Int) := by omega
            have hln : lineP e s2 = (takeP e [18] s2).2 := by unfold Y.lineP; rw [if_neg he6]
            rw [hln] at HK
            have hlen7 : (takeP e [18] s2).2.toks.length ≤ s2.toks.length := Y.take_len _ _ _
            have HL7 := Lib.hid (litW_below w5 [18])
            have HR7 := Lib.hid (HR6.out.below HL7.out)
            have HK7 := Lib.hid (litW_rd w5 [18] w5.heap.size rfl (by decide))
            have HO7 : Hid (OwnI (litW w5 [18]) w.heap.size v5 (l ++ [x])) := HO6.out.keep HL7.out.size (fun i _ h2 => HL7.out.block i h2)
            have HF7 := Lib.hid (HF6.out.trans (Fe.of_below HL7.out))
            clear hln he6 HO6 HR6 HF6
            go_wp2_with fail
            change Calls _ _ _ (litW w5 [18]) _
            generalize litW w5 [18] = w7 at *
            refine (takeE HR7.out HK7.out).mono ?_
            rintro en w8 ⟨rfl, hr8, hf8⟩
            generalize (takeP e [18] s2).1.v = tv at *
            generalize (takeP e [18] s2).2 = s3 at *
            have HD : Hid (ItemsR b w e n r v5 (l ++ [x]) s3 m' w8) := ⟨HO7.out.keep hf8.size (fun i h1 h2 => hf8.block i h2 (by omega)), hr8, HF7.out.trans hf8, HK.out, by omega, by omega, by omega, by simp; omega⟩
            clear hr8 hf8 HO7 HF7 HK HR7 HK7 HL7
            go_wp2_with fail
            go_roundw
            case rel => exact ⟨l ++ [x], s3, m', HD.out⟩
            case measure => show lenOf b w8 < lenOf b wr; rw [HD.out.rd.len, HLN.out]; omega
end Go.Proofs.YtdhighnbbpngpaaGreatDoor
