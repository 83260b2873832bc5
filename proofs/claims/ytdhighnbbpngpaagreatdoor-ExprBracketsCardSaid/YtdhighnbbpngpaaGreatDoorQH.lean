/- The reader of quote: one character taken; what stands behind \u{, behind \, and any. -/
import Derived.Test.YtdhighnbbpngpaaGreatDoorQA
import Derived.Laws.Rows
set_option maxRecDepth 100000
namespace Go.Proofs.YtdhighnbbpngpaaGreatDoor
open Go.RowKit
open Q (isC plainB digV R numS uS escS readS)

/-- Only block b may have turned. -/
structure Only (b : Nat) (w w' : World) : Prop where
  os : w'.os = w.os
  tape : w'.tape = w.tape
  output : w'.output = w.output
  size : w'.heap.size = w.heap.size
  block : ∀ i, i ≠ b → w'.heap[i]? = w.heap[i]?
theorem Only.refl (b : Nat) (w : World) : Only b w w := ⟨rfl, rfl, rfl, rfl, fun _ _ => rfl⟩
theorem Only.trans {b : Nat} {a c d : World} (h : Only b a c) (k : Only b c d) : Only b a d :=
  ⟨k.os.trans h.os, k.tape.trans h.tape, k.output.trans h.output, k.size.trans h.size, fun i hi => (k.block i hi).trans (h.block i hi)⟩
theorem Only.drewN {b : Nat} {a c : World} (h : Only b a c) (q : Nat) : Only b a (c.drewN q) := ⟨h.os, h.tape, h.output, h.size, h.block⟩
theorem Only.set {b : Nat} {a c : World} (h : Only b a c) (o : Nat) (v : Value) : Only b a (c.setCell ⟨b, o, none⟩ v) :=
  h.trans ⟨rfl, rfl, rfl, by simp [World.setCell], fun i hi => Below.heap_setCell _ _ _ _ hi⟩
/-- A reader of these characters, that stands at place p. -/
structure Rdr (w : World) (b : Nat) (A : Option Addr) (n c : Nat) (L : List Int) (p : Nat) : Prop where
  blk : w.heap[b]? = some (.cells #[.slice A n c, .int .i64 p] 198 (0, 0))
  rd : RdK .i64 w b A n c L
  le : p ≤ n
section
variable {w w' : World} {b n c p : Nat} {A : Option Addr} {L : List Int}
theorem Rdr.drewN (h : Rdr w b A n c L p) (q : Nat) : Rdr (w.drewN q) b A n c L p := ⟨h.blk, h.rd.drewN q, h.le⟩
theorem Rdr.step (h : Rdr w b A n c L p) (hp : p < n) : Rdr (w.setCell ⟨b, 1, none⟩ (.int .i64 (p + 1))) b A n c L (p + 1) := by
  refine ⟨?_, h.rd.keep fun q hq => World.cell?_of_block (w := w) (Below.heap_setCell _ _ _ _ (by show q.block ≠ b; omega)), hp⟩
  rw [heap_setCell_same _ _ _ _ _ _ h.blk]; rfl
end
def panicOf (e : Int) : List PanicEntry := [{ v := .iface 195 (.agg #[.int .i64 e]), recovered := false }]
/-- What a method of the reader leaves. -/
def GotR (w : World) (b : Nat) (A : Option Addr) (n c : Nat) (L : List Int) (r : R) (e : Ending) (w' : World) : Prop :=
  match r with
  | .ok x k => e = .returned (.int .i64 x) ∧ Rdr w' b A n c L k ∧ Only b w w'
  | .bad x => e = .panicked (panicOf x) ∧ Only b w w'
/-- The next one. -/
def takeR (l : List Int) (p : Nat) : R := match l with | [] => .bad 5 | c :: _ => .ok c (p + 1)
set_option maxHeartbeats 1000000 in
theorem take_end {w : World} {b n c : Nat} {A : Option Addr} {L : List Int} (h : Rdr w b A n c L n) :
    Calls Tryz.prog 224 #[.pointer (some ⟨b, 0, none⟩)] w (GotR w b A n c L (.bad 5)) := by
  have c0 : w.cell? ⟨b, 0, none⟩ = some (.slice A n c) := by rw [cell_of_row _ _ _ _ _ _ h.blk]; rfl
  have c1 : w.cell? ⟨b, 1, none⟩ = some (.int .i64 n) := by rw [cell_of_row _ _ _ _ _ _ h.blk]; rfl
  have HH := Lib.hid h
  have hs := h.rd.small
  clear h
  go_enter Tryz.func224, Tryz.ntmps224
  go_wp2_with fail
  go_quiet (fail)
  go_wp2_with fail
  exact ⟨rfl, rfl, (Only.refl _ _).drewN _⟩
set_option maxHeartbeats 1000000 in
theorem take_one {w : World} {b n c p : Nat} {A : Option Addr} {L : List Int} (h : Rdr w b A n c L p) {x : Int} (hx : L[p]? = some x) :
    Calls Tryz.prog 224 #[.pointer (some ⟨b, 0, none⟩)] w (GotR w b A n c L (.ok x (p + 1))) := by
  have hp : p < n := by rw [← h.rd.len]; exact (List.getElem?_eq_some_iff.1 hx).1
  obtain ⟨b2, off, y, rfl, hbl, hy, hc⟩ := h.rd.got hp
  have exy : x = y := by rw [hx] at hy; exact Option.some.inj hy
  subst exy
  have c0 : w.cell? ⟨b, 0, none⟩ = some (.slice (some ⟨b2, off, none⟩) n c) := by rw [cell_of_row _ _ _ _ _ _ h.blk]; rfl
  have c1 : w.cell? ⟨b, 1, none⟩ = some (.int .i64 p) := by rw [cell_of_row _ _ _ _ _ _ h.blk]; rfl
  have f1 : w.frozen? ⟨b, 1, none⟩ = false := frozen_of_row _ _ _ _ _ h.blk
  have hs := h.rd.small
  have g0 : ((p : Int) == (n : Int)) = false := by simp; omega
  have HH := Lib.hid h
  have HX := Lib.hid hx
  clear h hx hy
  go_enter Tryz.func224, Tryz.ntmps224
  go_wp2_with fail
  go_quiet (fail)
  go_wp2_with fail
  go_quiet (fail)
  go_wp2_with fail
  go_ret
  exact ⟨rfl, (HH.out.drewN _).step hp, ((Only.refl _ _).drewN _).set 1 _⟩
theorem drop_at {L : List Int} {p : Nat} {x : Int} (h : L[p]? = some x) : L.drop p = x :: L.drop (p + 1) := by
  obtain ⟨hp, e⟩ := List.getElem?_eq_some_iff.1 h
  rw [List.drop_eq_getElem_cons hp, e]
theorem drop_end {L : List Int} {p : Nat} (h : L[p]? = none) : L.drop p = [] := List.drop_eq_nil_of_le (List.getElem?_eq_none_iff.1 h)
theorem Rdr.at_end {w : World} {b n c p : Nat} {A : Option Addr} {L : List Int} (h : Rdr w b A n c L p) (hx : L[p]? = none) : p = n := by
  have h1 := List.getElem?_eq_none_iff.1 hx
  have h2 := h.rd.len
  have h3 := h.le
  omega
theorem GotR.on {w0 w w' : World} {b n c : Nat} {A : Option Addr} {L : List Int} {r : R} {e : Ending} (h : GotR w b A n c L r e w') (ho : Only b w0 w) : GotR w0 b A n c L r e w' := by
  cases r with
  | ok x k => exact ⟨h.1, h.2.1, ho.trans h.2.2⟩
  | bad x => exact ⟨h.1, ho.trans h.2⟩
theorem pow_five {d : Nat} (h : d ≤ 5) : (16 : Int) ^ d ≤ 1048576 := by
  have : d = 0 ∨ d = 1 ∨ d = 2 ∨ d = 3 ∨ d = 4 ∨ d = 5 := by omega
  rcases this with rfl | rfl | rfl | rfl | rfl | rfl <;> decide
set_option maxHeartbeats 2000000 in
theorem number_any {w : World} {b n c p : Nat} {A : Option Addr} {L : List Int} (h : Rdr w b A n c L p) :
    Calls Tryz.prog 230 #[.pointer (some ⟨b, 0, none⟩)] w (GotR w b A n c L (uS (L.drop p) p)) := by
  have HH := Lib.hid h
  cases hx : L[p]? with
  | none =>
    rw [drop_end hx]
    obtain rfl := h.at_end hx
    clear h hx
    have hcon := Lib.hid (take_end HH.out)
    go_enter Tryz.func230, Tryz.ntmps230
    go_wp2_with fail
    refine hcon.out.mono ?_
    rintro e w1 ⟨rfl, ho⟩
    have HO := Lib.hid ho
    clear ho
    go_wp2_with fail
    exact ⟨rfl, rfl, HO.out⟩
  | some x =>
    rw [drop_at hx]
    have hcon := Lib.hid (take_one HH.out hx)
    clear h hx
    by_cases hb : x = 123
    · subst hb
      have HU : uS (123 :: L.drop (p + 1)) p = numS (L.drop (p + 1)) 0 0 (p + 1) := by rw [Q.uS, if_pos rfl]
      rw [HU]
      clear HU
      generalize hr0 : numS (L.drop (p + 1)) 0 0 (p + 1) = r
      have HR0 := Lib.hid hr0
      clear hr0
      go_enter Tryz.func230, Tryz.ntmps230
      go_wp2_with fail
      refine hcon.out.mono ?_
      rintro e w1 ⟨rfl, hr1, ho1⟩
      have HR1 := Lib.hid hr1
      have HO1 := Lib.hid ho1
      clear hr1 ho1 hcon
      go_wp2_with fail
      go_loopw [3, 4] (fun vv dv wx => ∃ (v : Int) (d q : Nat), d ≤ 6 ∧ 0 ≤ v ∧ v ≤ 16777215 ∧ Hid (v < 16 ^ d) ∧ vv = .int .i64 v ∧ dv = .int .i64 d ∧ Hid (Rdr wx b A n c L q) ∧ Hid (Only b w wx) ∧ Hid (numS (L.drop q) d v q = r)) (fun _ dv _ => 6 - (intOf dv).toNat)
      case atStart => exact ⟨0, 0, p + 1, by omega, by omega, by omega, by show (0 : Int) < 1; omega, rfl, rfl, HR1.out, HO1.out, HR0.out⟩
      case round =>
        obtain ⟨v, d, q, hd, hv0, hv1, HV, rfl, rfl, HR, HO, HE⟩ := hrel
        cases hx : L[q]? with
        | none =>
          have hE := HE.out
          rw [drop_end hx] at hE
          obtain rfl := HR.out.at_end hx
          clear hx
          have hcon := Lib.hid (take_end HR.out)
          go_wp2_with fail
          refine hcon.out.mono ?_
          rintro e w2 ⟨rfl, ho⟩
          have HO2 := Lib.hid (HO.out.trans ho)
          clear ho
          subst hE
          go_wp2_with fail
          exact ⟨rfl, rfl, HO2.out⟩
        | some y =>
          have HE2 := Lib.hid HE.out
          rw [drop_at hx, Q.numS] at HE2
          have hcon := Lib.hid (take_one HR.out hx)
          clear hx
          go_wp2_with fail
          refine hcon.out.mono ?_
          rintro e w2 ⟨rfl, hr2, ho2⟩
          have HR2 := Lib.hid hr2
          have HO2 := Lib.hid (HO.out.trans ho2)
          clear hr2 ho2 hcon HR HO
          have hdc := Lib.hid (digit_any y w2)
          have hic := Lib.hid (isc_any v w2)
          have hdb := Q.digV_bd y
          by_cases h1 : y = 125
          · subst h1
            have hd1 : digV 125 = -1 := rfl
            rw [hd1] at hdc
            clear hdb
            by_cases h2 : 0 < d
            · cases h3 : isC v with
              | true =>
                rw [h3] at hic
                have hE : Q.R.ok v (q + 1) = r := by
                  have := HE2.out
                  rwa [if_pos ⟨rfl, h2, h3⟩] at this
                clear HE HE2 h3 hd1
                go_wp2_with fail
                refine hic.out.mono ?_
                rintro e w3 ⟨rfl, rfl⟩
                subst hE
                go_wp2_with fail
                go_ret
                exact ⟨rfl, HR2.out, HO2.out⟩
              | false =>
                rw [h3] at hic
                have hE : Q.R.bad 6 = r := by
                  have := HE2.out
                  rwa [if_neg (by rw [h3]; simp), if_pos (Or.inl (by decide))] at this
                clear HE HE2 h3 hd1
                go_wp2_with fail
                refine hic.out.mono ?_
                rintro e w3 ⟨rfl, rfl⟩
                go_wp2_with fail
                refine hdc.out.mono ?_
                rintro e w3 ⟨rfl, rfl⟩
                subst hE
                go_wp2_with fail
                exact ⟨rfl, rfl, HO2.out⟩
            · have hE : Q.R.bad 6 = r := by
                have := HE2.out
                rwa [if_neg (by omega), if_pos (Or.inl (by decide))] at this
              clear HE HE2 hd1
              go_wp2_with fail
              refine hdc.out.mono ?_
              rintro e w3 ⟨rfl, rfl⟩
              subst hE
              go_wp2_with fail
              exact ⟨rfl, rfl, HO2.out⟩
          · have g1 : (y == 125) = false := by simpa using h1
            obtain ⟨hdb0, hdb1⟩ := hdb
            by_cases h3 : digV y < 0
            · have hE : Q.R.bad 6 = r := by
                have := HE2.out
                rwa [if_neg (fun h => h1 h.1), if_pos (Or.inl h3)] at this
              clear HE HE2 h1
              go_wp2_with fail
              refine hdc.out.mono ?_
              rintro e w3 ⟨rfl, rfl⟩
              subst hE
              go_wp2_with fail
              exact ⟨rfl, rfl, HO2.out⟩
            · by_cases h4 : d = 6
              · subst h4
                have hE : Q.R.bad 6 = r := by
                  have := HE2.out
                  rwa [if_neg (fun h => h1 h.1), if_pos (Or.inr rfl)] at this
                clear HE HE2 h1 HV
                go_wp2_with fail
                refine hdc.out.mono ?_
                rintro e w3 ⟨rfl, rfl⟩
                subst hE
                go_wp2_with fail
                exact ⟨rfl, rfl, HO2.out⟩
              · have HE3 : Hid (numS (L.drop (q + 1)) (d + 1) (v * 16 + digV y) (q + 1) = r) := by
                  have := HE2.out
                  rwa [if_neg (fun h => h1 h.1), if_neg (fun h => h.elim h3 h4)] at this
                have HV2 : Hid (v * 16 + digV y < 16 ^ (d + 1)) := by have := HV.out; show _ < _; rw [Q.pow_step]; omega
                have hv5 : v ≤ 1048575 := by
                  have h5 := pow_five (d := d) (by omega)
                  have := HV.out
                  omega
                have g4 : ((d : Int) == 6) = false := by simp; omega
                have hd5 : d ≤ 5 := by omega
                clear HE HE2 h1 HV h4
                go_wp2_with fail
                refine hdc.out.mono ?_
                rintro e w3 ⟨rfl, rfl⟩
                go_wp2_with fail
                go_roundw
                case rel => exact ⟨v * 16 + digV y, d + 1, q + 1, by omega, by omega, by omega, HV2.out, rfl, by go_num, HR2.out, HO2.out, HE3.out⟩
                case measure => simp [intOf]; omega
    · have HU : uS (x :: L.drop (p + 1)) p = .bad 6 := by rw [Q.uS, if_neg hb]
      rw [HU]
      have g0 : (x != 123) = true := by simpa using hb
      clear hb HU
      go_enter Tryz.func230, Tryz.ntmps230
      go_wp2_with fail
      refine hcon.out.mono ?_
      rintro e w1 ⟨rfl, hr1, ho1⟩
      have HO1 := Lib.hid ho1
      clear hr1 ho1 hcon
      go_wp2_with fail
      exact ⟨rfl, rfl, HO1.out⟩
end Go.Proofs.YtdhighnbbpngpaaGreatDoor
