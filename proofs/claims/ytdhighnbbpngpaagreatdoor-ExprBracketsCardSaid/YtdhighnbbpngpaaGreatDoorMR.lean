/- The three fixed texts: what they say. The fixed fact of layer 6 holds. -/
import Derived.Test.YtdhighnbbpngpaaGreatDoorYV
import Derived.Test.YtdhighnbbpngpaaGreatDoorYZ
set_option maxRecDepth 100000
namespace Go.Proofs.YtdhighnbbpngpaaGreatDoor
open Go.RowKit
open E (okb encB flat offs DecIs Upto)
open W (Tk lexS)
open Y (Nd It Ps)

def al1B : List Int := [36, 97, 32, 61, 32, 91, 98, 45, 99, 38, 36, 100, 45, 91, 120, 93, 93, 10, 51, 32, 36, 97, 42, 32, 40, 46, 124, 41, 32, 195, 183, 10]
def al1C : List Int := [36, 97, 32, 61, 32, 91, 98, 45, 99, 38, 36, 100, 45, 91, 120, 93, 93, 10, 51, 32, 36, 97, 42, 32, 40, 46, 124, 41, 32, 247, 10]
def al2B : List Int := [51, 32, 36, 97]
def al3B : List Int := [36, 97, 32, 61, 32, 42]
theorem al1_dec : DecIs al1B al1C (offs 0 al1C ++ [(al1B.length : Int)]) (-1) 0 := .ok al1C (by decide) ⟨fun c hc => List.all_eq_true.1 (show al1C.all okb = true by decide) c hc, by decide, by decide⟩
theorem al2_dec : DecIs al2B al2B (offs 0 al2B ++ [(al2B.length : Int)]) (-1) 0 := .ok al2B (by decide) ⟨fun c hc => List.all_eq_true.1 (show al2B.all okb = true by decide) c hc, by decide, by decide⟩
theorem al3_dec : DecIs al3B al3B (offs 0 al3B ++ [(al3B.length : Int)]) (-1) 0 := .ok al3B (by decide) ⟨fun c hc => List.all_eq_true.1 (show al3B.all okb = true by decide) c hc, by decide, by decide⟩
def lexL (l : List Int) : List Tk := match lexS l 0 0 [] with | .ok ts => ts | .bad _ _ => []
theorem al1_lex : lexS al1C 0 0 [] = .ok (lexL al1C) := by kernel_rfl
theorem al2_lex : lexS al2B 0 0 [] = .ok (lexL al2B) := by kernel_rfl
theorem al3_lex : lexS al3B 0 0 [] = .ok (lexL al3B) := by kernel_rfl
/-- A text that is decoded and read has these items alone. -/
theorem items_one {Bs cs ats : List Int} {x : Int} {N M : Nat} {r : List It × Int × Int} {ts : List Tk} (hd : DecIs Bs cs ats x 0) (hl : lexS cs 0 0 [] = .ok ts) (h : ItemsIs Bs N M r) : r = allS Bs.length N M (placed cs ts) := by
  have hone : ∀ {us : List Tok} {y er : Int}, TokIs Bs us y er → us = placed cs ts ∧ er = 0 := by
    intro us y er ht
    cases ht with
    | dec cs' ats' _ _ h he => obtain ⟨_, _, _, e⟩ := h.one hd; exact absurd e he
    | bad cs' ats' _ h k _ hl' => obtain ⟨e, _⟩ := h.one hd; subst e; rw [hl] at hl'; cases hl'
    | ok cs' ats' _ h ts' hl' => obtain ⟨e, _⟩ := h.one hd; subst e; rw [hl] at hl'; injection hl' with e; subst e; exact ⟨rfl, rfl⟩
  cases h with
  | bad x er h he => exact absurd (hone h).2 he
  | ok us y h => rw [(hone h).1]
def sum1 (r : List It × Int × Int) : Option (Int × Int × Int × Int × Int × Bool × Int × Int × Int × Nat) :=
  match r with
  | ([i0, i1], x, y) => (match i0.before.kids with
    | [p] => (match p.kids with
      | [p0, _] => some (x, y, p.kind, p0.kind, i1.number, i1.cut, i1.before.kind, i1.after.kind, i1.pos, i0.before.size)
      | _ => none)
    | _ => none)
  | _ => none
theorem al1_sum : sum1 (allS al1B.length 330 33 (placed al1C (lexL al1C))) = some (-1, 0, 7, 6, 3000, true, 8, 1, 18, 7) := by kernel_rfl
theorem al2_all : (allS al2B.length 50 5 (placed al2B (lexL al2B))).2 = (4, 5) := by kernel_rfl
theorem al3_all : (allS al3B.length 70 7 (placed al3B (lexL al3B))).2 = (5, 4) := by kernel_rfl
theorem sum1_parts {r : List It × Int × Int} {x y a b c e f g : Int} {d : Bool} {s : Nat} (h : sum1 r = some (x, y, a, b, c, d, e, f, g, s)) :
    ∃ i0 i1 p p0 p1, r = ([i0, i1], x, y) ∧ i0.before.kids = [p] ∧ p.kids = [p0, p1] ∧ p.kind = a ∧ p0.kind = b ∧ i1.number = c ∧ i1.cut = d ∧ i1.before.kind = e ∧ i1.after.kind = f ∧ i1.pos = g ∧ i0.before.size = s := by
  unfold sum1 at h
  split at h
  · rename_i i0 i1 x' y'
    split at h
    · rename_i p hp
      split at h
      · rename_i p0 p1 hq
        simp only [Option.some.injEq, Prod.mk.injEq] at h
        obtain ⟨rfl, rfl, h1, h2, h3, h4, h5, h6, h7, h8⟩ := h
        exact ⟨i0, i1, p, p0, p1, rfl, hp, hq, h1, h2, h3, h4, h5, h6, h7, h8⟩
      · cases h
    · cases h
  · cases h
end Go.Proofs.YtdhighnbbpngpaaGreatDoor
namespace Go.Proofs.YtdhighnbbpngpaaGreatDoor
open Go.RowKit
open Y (Nd It Ps)

set_option maxHeartbeats 8000000 in
theorem alive6_any {w : World} (hT : Tabs w) : Calls Tryz.prog 8 #[] w (BooK w true) := by
  have HT := Lib.hid hT
  clear hT
  go_enter Tryz.func8, Tryz.ntmps8
  have q0 := Lib.run_convert_bytes_const w 22 5 #[.int .u8 36, .int .u8 97, .int .u8 32, .int .u8 61, .int .u8 32, .int .u8 91, .int .u8 98, .int .u8 45, .int .u8 99, .int .u8 38, .int .u8 36, .int .u8 100, .int .u8 45, .int .u8 91, .int .u8 120, .int .u8 93, .int .u8 93, .int .u8 10, .int .u8 51, .int .u8 32, .int .u8 36, .int .u8 97, .int .u8 42, .int .u8 32, .int .u8 40, .int .u8 46, .int .u8 124, .int .u8 41, .int .u8 32, .int .u8 195, .int .u8 183, .int .u8 10] 32 32 Tryz.underlying22 Tryz.underlying5
  go_wp2_with fail
  clear q0
  refine (eof_any (rd_lit_m w (32, 33) .u8 al1B _ _ rfl (by decide)) (byt_of (by decide)) (HT.out.on (kbelow_push _ _)) (by decide) 330 33 (by decide) (by decide)).mono ?_
  rintro e w1 ⟨r, hi, A1, c1, rfl, hr, hb⟩
  obtain rfl := items_one al1_dec al1_lex hi
  obtain ⟨i0, i1, p, p0, p1, he, h1, h2, h3, h4, h5, h6, h7, h8, h9, h10⟩ := sum1_parts al1_sum
  rw [he] at hr ⊢
  have HB1 := Lib.hid ((kbelow_push w _).trans (hb.mono (by simp)))
  have HR1 : Hid (RdI6 w1 (Lt w1) A1 2 c1 [i0, i1]) := hr.keep (fun _ hi => hi.2) (fun _ _ => rfl)
  have HF := Lib.hid (And.intro h1 (And.intro h2 (And.intro h3 (And.intro h4 (And.intro h5 (And.intro h6 (And.intro h7 (And.intro h8 (And.intro h9 h10)))))))))
  clear hi he h1 h2 h3 h4 h5 h6 h7 h8 h9 h10 hr hb
  simp only [List.length_cons, List.length_nil]
  have q0 := Lib.run_convert_bytes_const w1 22 5 #[.int .u8 51, .int .u8 32, .int .u8 36, .int .u8 97] 4 4 Tryz.underlying22 Tryz.underlying5
  go_wp2_with fail
  clear q0
  refine (eof_any (rd_lit_m w1 (4, 5) .u8 al2B _ _ rfl (by decide)) (byt_of (by decide)) (HT.out.on (HB1.out.trans ((kbelow_push _ _).mono HB1.out.size))) (by decide) 50 5 (by decide) (by decide)).mono ?_
  rintro e w2 ⟨r, hi, A2, c2, rfl, hr, hb⟩
  obtain rfl := items_one al2_dec al2_lex hi
  rw [al2_all]
  generalize (allS al2B.length 50 5 (placed al2B (lexL al2B))).1 = l2 at *
  have HS2 := Lib.hid ((kbelow_push w1 _).trans (hb.mono (by simp)))
  have HB2 := Lib.hid (HB1.out.trans (HS2.out.mono HB1.out.size))
  have HR2 := Lib.hid (HR1.out.on HS2.out)
  clear hi hr hb HR1 HS2
  have q0 := Lib.run_convert_bytes_const w2 22 5 #[.int .u8 36, .int .u8 97, .int .u8 32, .int .u8 61, .int .u8 32, .int .u8 42] 6 6 Tryz.underlying22 Tryz.underlying5
  go_wp2_with fail
  clear q0
  refine (eof_any (rd_lit_m w2 (6, 7) .u8 al3B _ _ rfl (by decide)) (byt_of (by decide)) (HT.out.on (HB2.out.trans ((kbelow_push _ _).mono HB2.out.size))) (by decide) 70 7 (by decide) (by decide)).mono ?_
  rintro e w3 ⟨r, hi, A3, c3, rfl, hr, hb⟩
  obtain rfl := items_one al3_dec al3_lex hi
  rw [al3_all]
  generalize (allS al3B.length 70 7 (placed al3B (lexL al3B))).1 = l3 at *
  have HS3 := Lib.hid ((kbelow_push w2 _).trans (hb.mono (by simp)))
  have HB3 := Lib.hid (HB2.out.trans (HS3.out.mono HB2.out.size))
  have HR3 := Lib.hid (HR2.out.on HS3.out)
  clear hi hr hb HR2 HS3 HB1 HB2 HT
  obtain ⟨h1, h2, h3, h4, h5, h6, h7, h8, h9, h10⟩ := HF.out
  clear HF
  obtain ⟨b1, o1, x0, Ab, Aa, nb, cb, na, ca, hA, hb1, hx, hk0, hk0', hc1⟩ := HR3.out.got (i := 0) (by decide)
  obtain ⟨b1', o1', x1, Ab1, Aa1, nb1, cb1, na1, ca1, hA', hb1', hx', hk1, hk1', hc2⟩ := HR3.out.got (i := 1) (by decide)
  rw [hA] at hA'
  injection hA' with hA'
  injection hA' with e1 e2 _
  subst e1 e2
  obtain rfl : i0 = x0 := by simpa using hx
  obtain rfl : i1 = x1 := by simpa using hx'
  simp only [Nat.zero_mul, Nat.add_zero, Nat.one_mul] at hc1 hc2
  obtain ⟨s0, s1, s2, s3, s4, s5, s6, s7, s8, s9, s10, s11, s12, s13, s14⟩ := it_cells hc1
  obtain ⟨t0, t1, t2, t3, t4, t5, t6, t7, t8, t9, t10, t11, t12, t13, t14⟩ := it_cells hc2
  rw [h5] at t2
  rw [h6] at t3
  rw [h7] at t4
  rw [h8] at t9
  rw [h9] at t14
  have HK0 := Lib.hid hk0
  rw [h1] at hk0
  have hnb : nb = 1 := hk0.len.symm
  subst hnb
  obtain ⟨bk, ok_, y, Ap, np, cp, hAb, hbk, hy, hkp, u0, u1, u2, u3, u4⟩ := hk0.got (i := 0) (by decide)
  obtain rfl : p = y := by simpa using hy
  have HKP := Lib.hid hkp
  rw [h2] at hkp
  have hnp : np = 2 := hkp.len.symm
  subst hnp
  obtain ⟨bq, oq, z, Aq, nq, cq, hAp, hbq, hz, hkq, v0, v1, v2, v3, v4⟩ := hkp.got (i := 0) (by decide)
  obtain rfl : p0 = z := by simpa using hz
  simp only [Nat.zero_mul, Nat.add_zero] at u0 u1 u2 u3 u4 v0 v1 v2 v3 v4
  rw [h3] at u0
  rw [h4] at v0
  subst hAb hAp
  have HSZ := Lib.hid h10
  have HP3 := Lib.hid h3
  have hb1w : b1 < w3.heap.size := hb1
  have hbkw : bk < w3.heap.size := hbk
  have hbqw : bq < w3.heap.size := hbq
  subst hA
  clear h1 h2 h3 h4 h5 h6 h7 h8 h9 h10 hx hx' hk0 hk0' hk1 hk1' hc1 hc2 hy hz hkp hkq hb1 hb1' hbk hbq
  have HP4 := Lib.hid (kbelow_push w3 (.cells #[.int .i64 7, .string p.name, .int .i64 p.low, .int .i64 p.high, .slice (some ⟨bq, oq, none⟩) 2 cp] 30))
  have HROW := Lib.hid (heap_alloc_new w3 (.cells #[.int .i64 7, .string p.name, .int .i64 p.low, .int .i64 p.high, .slice (some ⟨bq, oq, none⟩) 2 cp] 30))
  have hz4 : (w3.alloc (.cells #[.int .i64 7, .string p.name, .int .i64 p.low, .int .i64 p.high, .slice (some ⟨bq, oq, none⟩) 2 cp] 30)).heap.size = w3.heap.size + 1 := by simp
  have hsize := size_any (x := i0.before) (HK0.out.on HP4.out)
  rw [HSZ.out] at hsize
  have HSIZE := Lib.hid hsize
  have HSAME : Hid (∀ w', Below w3.heap.size w3 w' → Calls Tryz.prog 29 #[.agg #[.int .i64 7, .string p.name, .int .i64 p.low, .int .i64 p.high, .slice (some ⟨bq, oq, none⟩) 2 cp], .agg #[.int .i64 7, .string p.name, .int .i64 p.low, .int .i64 p.high, .slice (some ⟨bq, oq, none⟩) 2 cp]] w' (BooK w' true)) := fun w' h => by
    have := same_any p.size p p (Nat.le_refl _) w' _ _ 2 cp 2 cp (HKP.out.on h) (HKP.out.on h)
    rw [HP3.out, eqN_yes] at this
    exact this
  clear hsize HSZ HP3 HK0 HKP
  go_wp2_with fail
  generalize w3.alloc (.cells #[.int .i64 7, .string p.name, .int .i64 p.low, .int .i64 p.high, .slice (some ⟨bq, oq, none⟩) 2 cp] 30) = W4 at *
  refine HSIZE.out.mono ?_
  rintro en w5 ⟨rfl, hb5⟩
  have hmin : ((min 7 100000 : Nat) : Int) = 7 := by decide
  rw [hmin]
  have HB5 := Lib.hid (HP4.out.trans (hb5.mono HP4.out.size))
  obtain ⟨l0, l1, l2', l3', l4⟩ := cells5 ((hb5.block w3.heap.size (by omega)).trans HROW.out)
  have HS6 := Lib.hid (HSAME.out w5 HB5.out)
  clear hb5 HSIZE HROW hmin HSAME
  go_wp2_with fail
  refine HS6.out.mono ?_
  rintro en w6 ⟨rfl, hb6⟩
  have HB6 := Lib.hid (HB5.out.trans (hb6.mono HB5.out.size))
  have hit := eqItems_any (HR3.out.on HB6.out) (HR3.out.on HB6.out)
  rw [eqIs_iff.2 rfl] at hit
  have HIT := Lib.hid hit
  clear hb6 hit HS6 HB5 HR3 HP4
  go_wp2_with fail
  refine HIT.out.mono ?_
  rintro en w7 ⟨rfl, hb7⟩
  have HB7 := Lib.hid (HB3.out.trans ((HB6.out.trans (hb7.mono HB6.out.size)).mono HB3.out.size))
  clear hb7 HIT HB6 HB3
  go_wp2_with fail
  go_ret
  exact ⟨rfl, HB7.out⟩
end Go.Proofs.YtdhighnbbpngpaaGreatDoor
