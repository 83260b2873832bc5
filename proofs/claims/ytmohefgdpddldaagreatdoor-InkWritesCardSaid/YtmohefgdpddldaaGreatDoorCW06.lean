/- The pen: sets, forms. The pen: forms. A rule's number, written: the program's Number of layer 5; the bytes of a form's text. The program's ink: whether an item may be written. The pen: a rule's line. The pen: an item's line. The program's Form of layer 7. The document's ink: three, char, within, list. The document's ink: text, Form. Plain facts: the tokens of a form that is written out say the form again, unless it is too deep. -/
import Derived.Test.YtmohefgdpddldaaGreatDoorCW05
import Derived.Test.YtmohefgdpddldaaGreatDoorCW02
import Derived.Lib.ItoaLen
import Derived.Lib.AppendIntMem
import Derived.Deep.RegionHeldLaw
import Derived.Test.YtmohefgdpddldaaGreatDoorCW01
set_option maxRecDepth 100000
namespace Go.Proofs.YtmohefgdpddldaaGreatDoor
open Go.RowKit
open Y (Nd It noName)
open K (numsOf threeB twoB behindT betweenT brkB rngT txt kidsT partT anyB)

set_option maxHeartbeats 4000000 in
theorem pset_of {k : Nat} (ih : FormW k) {x : Nd} (hk : Y.sizeL x.kids ≤ k) (ha : ∀ y ∈ x.kids, anyB y = true) {w : World} {B b : Nat} {L : List Int} {A : Option Addr} {n c : Nat} (h : Pn w B b L) (hT : TbB B w) (hBw : B ≤ w.heap.size) (hr : RdN w (· < B) A n c x.kids)
  (hlen : L.length + ((if x.low = 1 then [91, 94] else [91] : List Int) ++ kidsT x.kind true x.kids ++ [93]).length ≤ 140737488355328) :
  Calls Tryz.prog 54 #[.pointer (some ⟨b, 0, none⟩), .agg #[.int .i64 x.kind, .string x.name, .int .i64 x.low, .int .i64 x.high, .slice A n c]] w (PutV B b L ((if x.low = 1 then [91, 94] else [91]) ++ kidsT x.kind true x.kids ++ [93]) (.tuple #[]) w) := by
 have HB0 := kbelow_push w (.cells #[.int .i64 x.kind, .string x.name, .int .i64 x.low, .int .i64 x.high, .slice A n c] 24)
 have HROW := Lib.hid (heap_alloc_new w (.cells #[.int .i64 x.kind, .string x.name, .int .i64 x.low, .int .i64 x.high, .slice A n c] 24))
 have HP := Lib.hid ((Pen.refl h).below hBw HB0)
 have hz : (w.alloc (.cells #[.int .i64 x.kind, .string x.name, .int .i64 x.low, .int .i64 x.high, .slice A n c] 24)).heap.size = w.heap.size + 1 := by simp
 have HT := Lib.hid hT
 have HKI : Hid (∀ (w' : World) (L' : List Int), Pn w' B b L' → TbB B w' → B ≤ w'.heap.size → Below B w w' → L'.length + (kidsT x.kind true x.kids).length ≤ 140737488355328 → Calls Tryz.prog 56 #[.pointer (some ⟨b, 0, none⟩), .agg #[.int .i64 x.kind, .string x.name, .int .i64 x.low, .int .i64 x.high, .slice A n c]] w' (PutV B b L' (kidsT x.kind true x.kids) (.tuple #[]) w')) := fun w' L' h1 h2 h3 h4 h5 => kids_of ih hk ha h1 h2 h3 (hr.keep (fun _ h => h) (fun p hp => h4.cell (p := p) hp)) h5
 have HBR : Hid (Below B w (w.alloc (.cells #[.int .i64 x.kind, .string x.name, .int .i64 x.low, .int .i64 x.high, .slice A n c] 24))) := HB0.mono hBw
 have HLN := Lib.hid hlen
 clear h hT hr ha hk HB0 ih hlen
 generalize kidsT x.kind true x.kids = T at *
 by_cases h1 : x.low = 1
 ·have g1 : (x.low == 1) = true := by simpa using h1
  rw [if_pos h1] at HLN ⊢
  clear h1
  obtain ⟨TX, hTX⟩ : ∃ TX : List Int, TX = [91, 94] ++ T ++ [93] := ⟨_, rfl⟩
  rw [← hTX]
  have HTX := Lib.hid hTX
  clear hTX
  have HC := Lib.hid (wbyte_any HP.out.1 91 (by have := HLN.out; simp only [List.length_append, List.length_cons, List.length_nil] at this ⊢; omega) (Nat.le_trans hBw HP.out.size))
  go_enter Tryz.func54, Tryz.ntmps54
  go_wp2_with fail
  generalize w.alloc (.cells #[.int .i64 x.kind, .string x.name, .int .i64 x.low, .int .i64 x.high, .slice A n c] 24) = W1 at *
  refine HC.out.mono ?_
  rintro e w3 hp
  have HPn := Lib.hid (HP.out.put hp)
  have hkp := hp.2.2.2
  have HBRn := Lib.hid (HBR.out.trans hp.2.2.1)
  obtain ⟨rfl, q1, q2, q3⟩ := hp
  clear HP HC q1 q2 q3
  have HP := HPn
  clear HPn
  have HROWn := Lib.hid (hkp.2 _ _ HROW.out rfl)
  clear HROW
  have HROW := HROWn
  clear HROWn
  obtain ⟨r0, r1, r2, r3, r4⟩ := cells5 HROW.out
  clear hkp HBR
  have HBR := HBRn
  clear HBRn
  have HC := Lib.hid (wbyte_any HP.out.1 94 (by have := HLN.out; simp only [List.length_append, List.length_cons, List.length_nil] at this ⊢; omega) (Nat.le_trans hBw HP.out.size))
  go_wp2_with fail
  refine HC.out.mono ?_
  rintro e w3 hp
  have HPn := Lib.hid (HP.out.put hp)
  have hkp := hp.2.2.2
  have HBRn := Lib.hid (HBR.out.trans hp.2.2.1)
  obtain ⟨rfl, q1, q2, q3⟩ := hp
  clear HP HC q1 q2 q3
  have HP := HPn
  clear HPn
  have HROWn := Lib.hid (hkp.2 _ _ HROW.out rfl)
  clear HROW
  have HROW := HROWn
  clear HROWn
  obtain ⟨r0, r1, r2, r3, r4⟩ := cells5 HROW.out
  clear hkp HBR
  have HBR := HBRn
  clear HBRn
  have HC := Lib.hid (HKI.out _ _ HP.out.1 (HT.out.on HP.out.2.1) (Nat.le_trans hBw HP.out.size) HBR.out (by have := HLN.out; simp only [List.length_append, List.length_cons, List.length_nil] at this ⊢; omega))
  go_wp2_with fail
  refine HC.out.mono ?_
  rintro e w3 hp
  have HPn := Lib.hid (HP.out.put hp)
  have hkp := hp.2.2.2
  have HBRn := Lib.hid (HBR.out.trans hp.2.2.1)
  obtain ⟨rfl, q1, q2, q3⟩ := hp
  clear HP HC q1 q2 q3
  have HP := HPn
  clear HPn
  have HROWn := Lib.hid (hkp.2 _ _ HROW.out rfl)
  clear HROW
  have HROW := HROWn
  clear HROWn
  obtain ⟨r0, r1, r2, r3, r4⟩ := cells5 HROW.out
  clear hkp HBR
  have HBR := HBRn
  clear HBRn
  have HC := Lib.hid (wbyte_any HP.out.1 93 (by have := HLN.out; simp only [List.length_append, List.length_cons, List.length_nil] at this ⊢; omega) (Nat.le_trans hBw HP.out.size))
  go_wp2_with fail
  refine HC.out.mono ?_
  rintro e w3 hp
  have HPn := Lib.hid (HP.out.put hp)
  have hkp := hp.2.2.2
  have HBRn := Lib.hid (HBR.out.trans hp.2.2.1)
  obtain ⟨rfl, q1, q2, q3⟩ := hp
  clear HP HC q1 q2 q3
  have HP := HPn
  clear HPn
  have HROWn := Lib.hid (hkp.2 _ _ HROW.out rfl)
  clear HROW
  have HROW := HROWn
  clear HROWn
  obtain ⟨r0, r1, r2, r3, r4⟩ := cells5 HROW.out
  clear hkp HBR
  have HBR := HBRn
  clear HBRn
  have HE := Lib.hid (HP.out.out (L := L) (M := TX) (by rw [HTX.out]; simp))
  clear HP
  go_wp2_with fail
  exact bodyPost_ret (v := .tuple #[]) (by simp [results, Tryz.results54, go_sem]) rfl HE.out
 ·have g1 : (x.low == 1) = false := by simpa using h1
  rw [if_neg h1] at HLN ⊢
  clear h1
  obtain ⟨TX, hTX⟩ : ∃ TX : List Int, TX = [91] ++ T ++ [93] := ⟨_, rfl⟩
  rw [← hTX]
  have HTX := Lib.hid hTX
  clear hTX
  have HC := Lib.hid (wbyte_any HP.out.1 91 (by have := HLN.out; simp only [List.length_append, List.length_cons, List.length_nil] at this ⊢; omega) (Nat.le_trans hBw HP.out.size))
  go_enter Tryz.func54, Tryz.ntmps54
  go_wp2_with fail
  generalize w.alloc (.cells #[.int .i64 x.kind, .string x.name, .int .i64 x.low, .int .i64 x.high, .slice A n c] 24) = W1 at *
  refine HC.out.mono ?_
  rintro e w3 hp
  have HPn := Lib.hid (HP.out.put hp)
  have hkp := hp.2.2.2
  have HBRn := Lib.hid (HBR.out.trans hp.2.2.1)
  obtain ⟨rfl, q1, q2, q3⟩ := hp
  clear HP HC q1 q2 q3
  have HP := HPn
  clear HPn
  have HROWn := Lib.hid (hkp.2 _ _ HROW.out rfl)
  clear HROW
  have HROW := HROWn
  clear HROWn
  obtain ⟨r0, r1, r2, r3, r4⟩ := cells5 HROW.out
  clear hkp HBR
  have HBR := HBRn
  clear HBRn
  have HC := Lib.hid (HKI.out _ _ HP.out.1 (HT.out.on HP.out.2.1) (Nat.le_trans hBw HP.out.size) HBR.out (by have := HLN.out; simp only [List.length_append, List.length_cons, List.length_nil] at this ⊢; omega))
  go_wp2_with fail
  refine HC.out.mono ?_
  rintro e w3 hp
  have HPn := Lib.hid (HP.out.put hp)
  have hkp := hp.2.2.2
  have HBRn := Lib.hid (HBR.out.trans hp.2.2.1)
  obtain ⟨rfl, q1, q2, q3⟩ := hp
  clear HP HC q1 q2 q3
  have HP := HPn
  clear HPn
  have HROWn := Lib.hid (hkp.2 _ _ HROW.out rfl)
  clear HROW
  have HROW := HROWn
  clear HROWn
  obtain ⟨r0, r1, r2, r3, r4⟩ := cells5 HROW.out
  clear hkp HBR
  have HBR := HBRn
  clear HBRn
  have HC := Lib.hid (wbyte_any HP.out.1 93 (by have := HLN.out; simp only [List.length_append, List.length_cons, List.length_nil] at this ⊢; omega) (Nat.le_trans hBw HP.out.size))
  go_wp2_with fail
  refine HC.out.mono ?_
  rintro e w3 hp
  have HPn := Lib.hid (HP.out.put hp)
  have hkp := hp.2.2.2
  have HBRn := Lib.hid (HBR.out.trans hp.2.2.1)
  obtain ⟨rfl, q1, q2, q3⟩ := hp
  clear HP HC q1 q2 q3
  have HP := HPn
  clear HPn
  have HROWn := Lib.hid (hkp.2 _ _ HROW.out rfl)
  clear HROW
  have HROW := HROWn
  clear HROWn
  obtain ⟨r0, r1, r2, r3, r4⟩ := cells5 HROW.out
  clear hkp HBR
  have HBR := HBRn
  clear HBRn
  have HE := Lib.hid (HP.out.out (L := L) (M := TX) (by rw [HTX.out]; simp))
  clear HP
  go_wp2_with fail
  exact bodyPost_ret (v := .tuple #[]) (by simp [results, Tryz.results54, go_sem]) rfl HE.out
end Go.Proofs.YtmohefgdpddldaaGreatDoor
namespace Go.Proofs.YtmohefgdpddldaaGreatDoor
open Go.RowKit
open Y (Nd It noName)
open K (numsOf threeB twoB behindT betweenT brkB rngT txt kidsT partT anyB)

set_option maxHeartbeats 8000000 in
theorem form_step {k : Nat} (ih : FormW k) : FormW (k + 1) := by
 intro x hsz hany w B b L A n c h hT hBw hr hlen
 have hk : Y.sizeL x.kids ≤ k := by have := K.size_eq x; omega
 have ha := (K.any_kids hany).1
 have HB0 := kbelow_push w (.cells #[.int .i64 x.kind, .string x.name, .int .i64 x.low, .int .i64 x.high, .slice A n c] 24)
 have HROW := Lib.hid (heap_alloc_new w (.cells #[.int .i64 x.kind, .string x.name, .int .i64 x.low, .int .i64 x.high, .slice A n c] 24))
 have HP := Lib.hid ((Pen.refl h).below hBw HB0)
 have hz : (w.alloc (.cells #[.int .i64 x.kind, .string x.name, .int .i64 x.low, .int .i64 x.high, .slice A n c] 24)).heap.size = w.heap.size + 1 := by simp
 have HT := Lib.hid hT
 have HKI : Hid (∀ (w' : World) (L' : List Int), Pn w' B b L' → TbB B w' → B ≤ w'.heap.size → Below B w w' → L'.length + (kidsT x.kind true x.kids).length ≤ 140737488355328 → Calls Tryz.prog 56 #[.pointer (some ⟨b, 0, none⟩), .agg #[.int .i64 x.kind, .string x.name, .int .i64 x.low, .int .i64 x.high, .slice A n c]] w' (PutV B b L' (kidsT x.kind true x.kids) (.tuple #[]) w')) := fun w' L' h1 h2 h3 h4 h5 => kids_of ih hk ha h1 h2 h3 (hr.keep (fun _ h => h) (fun p hp => h4.cell (p := p) hp)) h5
 have HBR : Hid (Below B w (w.alloc (.cells #[.int .i64 x.kind, .string x.name, .int .i64 x.low, .int .i64 x.high, .slice A n c] 24))) := HB0.mono hBw
 have hX := K.txt_eq x
 by_cases h1 : x.kind = 1
 ·rw [if_pos h1] at hX
  have k1 : (x.kind == 1) = true := by rw [beqd]; exact decide_eq_true (by omega)
  rw [hX] at hlen ⊢
  have HLN := Lib.hid hlen
  have HC := Lib.hid (wtext_any HP.out.1 ⟨#[40, 41]⟩ (by have := HLN.out; simp only [List.length_cons, List.length_nil] at this; show L.length + 2 ≤ _; omega) (Nat.le_trans hBw HP.out.size))
  obtain ⟨TX, hTX⟩ : ∃ TX : List Int, TX = [40, 41] := ⟨_, rfl⟩
  rw [← hTX]
  have HTX := Lib.hid hTX
  clear hTX
  clear h hT hr ha hk HB0 ih hlen hX HKI h1
  go_enter Tryz.func24, Tryz.ntmps24
  go_wp2_with fail
  generalize w.alloc (.cells #[.int .i64 x.kind, .string x.name, .int .i64 x.low, .int .i64 x.high, .slice A n c] 24) = W1 at *
  refine HC.out.mono ?_
  rintro e w3 hp
  have HPn := Lib.hid (HP.out.put hp)
  have hkp := hp.2.2.2
  have HBRn := Lib.hid (HBR.out.trans hp.2.2.1)
  obtain ⟨rfl, q1, q2, q3⟩ := hp
  clear HP HC q1 q2 q3
  have HP := HPn
  clear HPn
  have HROWn := Lib.hid (hkp.2 _ _ HROW.out rfl)
  clear HROW
  have HROW := HROWn
  clear HROWn
  obtain ⟨r0, r1, r2, r3, r4⟩ := cells5 HROW.out
  clear hkp HBR
  have HBR := HBRn
  clear HBRn
  have HE := Lib.hid (HP.out.out (L := L) (M := TX) (by rw [HTX.out]; rfl))
  clear HP
  go_wp2_with fail
  exact bodyPost_ret (v := .tuple #[]) (by simp [results, Tryz.results24, go_sem]) rfl HE.out
 ·rw [if_neg h1] at hX
  have k1 : (x.kind == 1) = false := by rw [beqd]; exact decide_eq_false (by omega)
  clear h1
  by_cases h3 : x.kind = 3
  ·rw [if_pos h3] at hX
   have k3 : (x.kind == 3) = true := by rw [beqd]; exact decide_eq_true (by omega)
   rw [hX] at hlen ⊢
   have HLN := Lib.hid hlen
   have HC := Lib.hid (wbyte_any HP.out.1 46 (by have := HLN.out; simp only [List.length_append, List.length_cons, List.length_nil] at this ⊢; omega) (Nat.le_trans hBw HP.out.size))
   obtain ⟨TX, hTX⟩ : ∃ TX : List Int, TX = [46] := ⟨_, rfl⟩
   rw [← hTX]
   have HTX := Lib.hid hTX
   clear hTX
   clear h hT hr ha hk HB0 ih hlen hX HKI h3
   go_enter Tryz.func24, Tryz.ntmps24
   go_wp2_with fail
   generalize w.alloc (.cells #[.int .i64 x.kind, .string x.name, .int .i64 x.low, .int .i64 x.high, .slice A n c] 24) = W1 at *
   refine HC.out.mono ?_
   rintro e w3 hp
   have HPn := Lib.hid (HP.out.put hp)
   have hkp := hp.2.2.2
   have HBRn := Lib.hid (HBR.out.trans hp.2.2.1)
   obtain ⟨rfl, q1, q2, q3⟩ := hp
   clear HP HC q1 q2 q3
   have HP := HPn
   clear HPn
   have HROWn := Lib.hid (hkp.2 _ _ HROW.out rfl)
   clear HROW
   have HROW := HROWn
   clear HROWn
   obtain ⟨r0, r1, r2, r3, r4⟩ := cells5 HROW.out
   clear hkp HBR
   have HBR := HBRn
   clear HBRn
   have HE := Lib.hid (HP.out.out (L := L) (M := TX) (by rw [HTX.out]))
   clear HP
   go_wp2_with fail
   exact bodyPost_ret (v := .tuple #[]) (by simp [results, Tryz.results24, go_sem]) rfl HE.out
  ·rw [if_neg h3] at hX
   have k3 : (x.kind == 3) = false := by rw [beqd]; exact decide_eq_false (by omega)
   clear h3
   by_cases h2 : x.kind = 2
   ·rw [if_pos h2] at hX
    have k2 : (x.kind == 2) = true := by rw [beqd]; exact decide_eq_true (by omega)
    rw [hX] at hlen ⊢
    have HLN := Lib.hid hlen
    have HC := Lib.hid (pname_any HP.out.1 x.name (by have := HLN.out; rw [List.length_cons, K.numsOf_len] at this; omega) (Nat.le_trans hBw HP.out.size))
    obtain ⟨TX, hTX⟩ : ∃ TX : List Int, TX = 36 :: numsOf x.name := ⟨_, rfl⟩
    rw [← hTX]
    have HTX := Lib.hid hTX
    clear hTX
    clear h hT hr ha hk HB0 ih hlen hX HKI h2
    go_enter Tryz.func24, Tryz.ntmps24
    go_wp2_with fail
    generalize w.alloc (.cells #[.int .i64 x.kind, .string x.name, .int .i64 x.low, .int .i64 x.high, .slice A n c] 24) = W1 at *
    refine HC.out.mono ?_
    rintro e w3 hp
    have HPn := Lib.hid (HP.out.put hp)
    have hkp := hp.2.2.2
    have HBRn := Lib.hid (HBR.out.trans hp.2.2.1)
    obtain ⟨rfl, q1, q2, q3⟩ := hp
    clear HP HC q1 q2 q3
    have HP := HPn
    clear HPn
    have HROWn := Lib.hid (hkp.2 _ _ HROW.out rfl)
    clear HROW
    have HROW := HROWn
    clear HROWn
    obtain ⟨r0, r1, r2, r3, r4⟩ := cells5 HROW.out
    clear hkp HBR
    have HBR := HBRn
    clear HBRn
    have HE := Lib.hid (HP.out.out (L := L) (M := TX) (by rw [HTX.out]))
    clear HP
    go_wp2_with fail
    exact bodyPost_ret (v := .tuple #[]) (by simp [results, Tryz.results24, go_sem]) rfl HE.out
   ·rw [if_neg h2] at hX
    have k2 : (x.kind == 2) = false := by rw [beqd]; exact decide_eq_false (by omega)
    clear h2
    by_cases h4 : x.kind = 4
    ·rw [if_pos h4] at hX
     have k4 : (x.kind == 4) = true := by rw [beqd]; exact decide_eq_true (by omega)
     rw [hX] at hlen ⊢
     have HLN := Lib.hid hlen
     rw [show kidsT 4 true x.kids = kidsT x.kind true x.kids by rw [h4]] at HLN ⊢
     have HC := Lib.hid (pset_of ih hk ha HP.out.1 (HT.out.on HP.out.2.1) (Nat.le_trans hBw HP.out.size) (hr.keep (fun _ h => h) (fun p hp => HBR.out.cell (p := p) hp)) HLN.out)
     obtain ⟨TX, hTX⟩ : ∃ TX : List Int, TX = (if x.low = 1 then [91, 94] else [91]) ++ kidsT x.kind true x.kids ++ [93] := ⟨_, rfl⟩
     rw [← hTX]
     have HTX := Lib.hid hTX
     clear hTX
     clear h hT hr ha hk HB0 ih hlen hX HKI h4
     go_enter Tryz.func24, Tryz.ntmps24
     go_wp2_with fail
     generalize w.alloc (.cells #[.int .i64 x.kind, .string x.name, .int .i64 x.low, .int .i64 x.high, .slice A n c] 24) = W1 at *
     refine HC.out.mono ?_
     rintro e w3 hp
     have HPn := Lib.hid (HP.out.put hp)
     have hkp := hp.2.2.2
     have HBRn := Lib.hid (HBR.out.trans hp.2.2.1)
     obtain ⟨rfl, q1, q2, q3⟩ := hp
     clear HP HC q1 q2 q3
     have HP := HPn
     clear HPn
     have HROWn := Lib.hid (hkp.2 _ _ HROW.out rfl)
     clear HROW
     have HROW := HROWn
     clear HROWn
     obtain ⟨r0, r1, r2, r3, r4⟩ := cells5 HROW.out
     clear hkp HBR
     have HBR := HBRn
     clear HBRn
     have HE := Lib.hid (HP.out.out (L := L) (M := TX) (by rw [HTX.out]))
     clear HP
     go_wp2_with fail
     exact bodyPost_ret (v := .tuple #[]) (by simp [results, Tryz.results24, go_sem]) rfl HE.out
    ·rw [if_neg h4] at hX
     have k4 : (x.kind == 4) = false := by rw [beqd]; exact decide_eq_false (by omega)
     clear h4
     by_cases h5 : x.kind = 5
     ·rw [if_pos h5] at hX
      have k5 : (x.kind == 5) = true := by rw [beqd]; exact decide_eq_true (by omega)
      rw [hX] at hlen ⊢
      have HLN := Lib.hid hlen
      obtain ⟨z0, z1, z2⟩ := any_rng hany h5
      have HC := Lib.hid (pchars_any (A := A) (n := n) (c := c) HP.out.1 (HT.out.on HP.out.2.1) z0 z1 z2 HLN.out (Nat.le_trans hBw HP.out.size))
      obtain ⟨TX, hTX⟩ : ∃ TX : List Int, TX = rngT x.low x.high := ⟨_, rfl⟩
      rw [← hTX]
      have HTX := Lib.hid hTX
      clear hTX
      clear h hT hr ha hk HB0 ih hlen hX HKI h5
      go_enter Tryz.func24, Tryz.ntmps24
      go_wp2_with fail
      generalize w.alloc (.cells #[.int .i64 x.kind, .string x.name, .int .i64 x.low, .int .i64 x.high, .slice A n c] 24) = W1 at *
      refine HC.out.mono ?_
      rintro e w3 hp
      have HPn := Lib.hid (HP.out.put hp)
      have hkp := hp.2.2.2
      have HBRn := Lib.hid (HBR.out.trans hp.2.2.1)
      obtain ⟨rfl, q1, q2, q3⟩ := hp
      clear HP HC q1 q2 q3
      have HP := HPn
      clear HPn
      have HROWn := Lib.hid (hkp.2 _ _ HROW.out rfl)
      clear HROW
      have HROW := HROWn
      clear HROWn
      obtain ⟨r0, r1, r2, r3, r4⟩ := cells5 HROW.out
      clear hkp HBR
      have HBR := HBRn
      clear HBRn
      have HE := Lib.hid (HP.out.out (L := L) (M := TX) (by rw [HTX.out]))
      clear HP
      go_wp2_with fail
      exact bodyPost_ret (v := .tuple #[]) (by simp [results, Tryz.results24, go_sem]) rfl HE.out
     ·rw [if_neg h5] at hX
      have k5 : (x.kind == 5) = false := by rw [beqd]; exact decide_eq_false (by omega)
      clear h5
      rw [hX] at hlen ⊢
      have HLN := Lib.hid hlen
      have HC := Lib.hid (HKI.out _ _ HP.out.1 (HT.out.on HP.out.2.1) (Nat.le_trans hBw HP.out.size) HBR.out (by have := HLN.out; simp only [List.length_append, List.length_cons, List.length_nil] at this ⊢; omega))
      obtain ⟨sb, hsb, hsn, hsz', _, _⟩ := behindS_is x.kind
      have hbt := behind_any x.kind
      rw [hsb] at hbt
      have HBT := Lib.hid hbt
      have HSN := Lib.hid hsn
      have hszb := K.numsOf_len sb
      rw [hsn] at hszb
      obtain ⟨TX, hTX⟩ : ∃ TX : List Int, TX = kidsT x.kind true x.kids ++ behindT x.kind := ⟨_, rfl⟩
      rw [← hTX]
      have HTX := Lib.hid hTX
      clear h hT hr ha hk HB0 ih hlen hX HKI hbt hsb hsn hTX
      generalize behindT x.kind = TB at *
      generalize kidsT x.kind true x.kids = T at *
      go_enter Tryz.func24, Tryz.ntmps24
      go_wp2_with fail
      generalize w.alloc (.cells #[.int .i64 x.kind, .string x.name, .int .i64 x.low, .int .i64 x.high, .slice A n c] 24) = W1 at *
      refine HC.out.mono ?_
      rintro e W2 hp
      have HPn := Lib.hid (HP.out.put hp)
      have hkp := hp.2.2.2
      have HBRn := Lib.hid (HBR.out.trans hp.2.2.1)
      obtain ⟨rfl, q1, q2, q3⟩ := hp
      clear HP HC q1 q2 q3
      have HP := HPn
      clear HPn
      have HROWn := Lib.hid (hkp.2 _ _ HROW.out rfl)
      clear HROW
      have HROW := HROWn
      clear HROWn
      obtain ⟨r0, r1, r2, r3, r4⟩ := cells5 HROW.out
      clear hkp HBR
      have HBR := HBRn
      clear HBRn
      go_wp2_with fail
      have HK0 : Hid (W2.drew.cell? ⟨w.heap.size, 0, none⟩ = some (.int .i64 x.kind)) := (cells5 HROW.out).1
      have HWS : Hid (Calls _ _ _ W2.drew _) := wtext_any (w := W2.drew) (B := B) (b := b) (L := L ++ T) HP.out.1 sb (by have := HLN.out; simp only [List.length_append] at this ⊢; omega) (Nat.le_trans hBw HP.out.size)
      go_region_held_law (fun w' => w'.cell? ⟨w.heap.size, 0, none⟩ = some (.int .i64 x.kind)) (first | exact HK0.out | exact HK1.out) (first | (go_at_call 57; refine (HBT.out _).mono ?_; rintro e w5 ⟨rfl, rfl⟩) | (go_at_call 52; refine HWS.out.mono ?_; rintro e w5 hp; have HPX := Lib.hid hp; have HK1 : Hid (w5.cell? ⟨w.heap.size, 0, none⟩ = some (.int .i64 x.kind)) := (cells5 (hp.2.2.2.2 _ _ (show W2.drew.heap[w.heap.size]? = _ from HROW.out) rfl)).1; obtain ⟨rfl, q1, q2, q3⟩ := hp; clear q1 q2 q3))
      have hp := HPX.out
      have HPn := Lib.hid (HP.out.drew.put hp)
      clear HP HROW HBR HPX hp HK0 HK1 HWS HBT
      have HP := HPn
      clear HPn
      rw [HSN.out] at HP
      have HE := Lib.hid (HP.out.out (L := L) (M := TX) (by rw [HTX.out]; simp))
      clear HP
      go_wp2_with fail
      exact bodyPost_ret (v := .tuple #[]) (by simp [results, Tryz.results24, go_sem]) rfl HE.out
theorem form_all_w : ∀ k : Nat, FormW k := by
 intro k
 induction k with
 | zero => intro x h; have := Nd.size_pos x; omega
 | succ k ih => exact form_step ih
theorem pform_any {x : Nd} (hx : anyB x = true) {w : World} {B b : Nat} {L : List Int} {A : Option Addr} {n c : Nat} (h : Pn w B b L) (hT : TbB B w) (hBw : B ≤ w.heap.size) (hr : RdN w (· < B) A n c x.kids) (hlen : L.length + (txt x).length ≤ 140737488355328) :
  Calls Tryz.prog 24 #[.pointer (some ⟨b, 0, none⟩), .agg #[.int .i64 x.kind, .string x.name, .int .i64 x.low, .int .i64 x.high, .slice A n c]] w (PutV B b L (txt x) (.tuple #[]) w) := form_all_w x.size x (Nat.le_refl _) hx w B b L A n c h hT hBw hr hlen
end Go.Proofs.YtmohefgdpddldaaGreatDoor
namespace Go.Proofs.YtmohefgdpddldaaGreatDoor
open Go.RowKit
open Y (Nd It noName)
open K (numsOf threeB twoB behindT betweenT brkB rngT txt kidsT partT anyB decT fracL numT lineT itemsT)

theorem mk_str (l : List UInt8) : (⟨l.toArray⟩ : ByteArray) = strOfNums (l.map fun b => (b.toNat : Int)) := by
 apply ByteArray.ext
 apply Array.ext'
 rw [strOfNums_data, List.map_map]
 show l = _
 conv => lhs; rw [← List.map_id l]
 refine List.map_congr_left fun b _ => ?_
 simp
theorem str_app2 (l m : List Int) : strOfNums l ++ strOfNums m = strOfNums (l ++ m) := by
 apply ByteArray.ext
 apply Array.ext'
 rw [ByteArray.data_append, Array.toList_append, strOfNums_data, strOfNums_data, strOfNums_data, List.map_append]
theorem tab_on {w w' : World} (h : Lib.TabIs Tryz.prog w "internal/strconv.uint64pow10" .u64 Lib.pow10Tab) (hb : Below w.heap.size w w') : Lib.TabIs Tryz.prog w' "internal/strconv.uint64pow10" .u64 Lib.pow10Tab := Lib.tabBelow_of_tabIs h w' hb
theorem itoa_any {w : World} (hT : Lib.TabIs Tryz.prog w "internal/strconv.uint64pow10" .u64 Lib.pow10Tab) {n : Int} (h0 : 0 ≤ n) (h1 : n ≤ 999999) :
  Calls Tryz.prog 97 #[.int .i64 n] w fun e w' => e = .returned (.string ⟨(Lib.itoa n).toArray⟩) ∧ Below w.heap.size w w' := by
 refine (Any.strconv_Itoa Tryz.layItoa n (by omega) (by omega) w hT).mono ?_
 rintro e w' ⟨he, k, os, rfl⟩
 exact ⟨he, Lib.below_grow _ _ (Nat.le_refl _) k os⟩
theorem itoa_pos (n : Int) : 1 ≤ (Lib.itoa n).length := by
 unfold Lib.itoa
 split
 ·simp
 ·rw [Lib.decDigits]
  split <;> simp
theorem trim_any (s : ByteArray) (hs : s.size ≤ 9223372036854775807) (w : World) :
  Calls Tryz.prog 98 #[.string s, .string ⟨#[48]⟩] w fun e w' => e = .returned (.string ⟨(Lib.trimRightB s.data.toList 48).toArray⟩) ∧ w = w' := by
 refine (Any.strings_TrimRight_one Tryz.layTrim s 48 (by decide) w hs).mono ?_
 rintro e w' ⟨he, hw⟩
 exact ⟨he, hw.symm⟩
set_option maxHeartbeats 2000000 in
theorem number_any {w : World} (hT : Lib.TabIs Tryz.prog w "internal/strconv.uint64pow10" .u64 Lib.pow10Tab) {n : Int} (h0 : 0 ≤ n) (h1 : n ≤ 999999) :
  Calls Tryz.prog 65 #[.int .i64 n] w fun e w' => e = .returned (.string (strOfNums (numT n))) ∧ Below w.heap.size w w' := by
 have hq0 : 0 ≤ n / 1000 := by omega
 have hq1 : n / 1000 ≤ 999 := by omega
 have hr0 : 0 ≤ n % 1000 := by omega
 have hr1 : n % 1000 < 1000 := by omega
 have HT := Lib.hid hT
 have HC := Lib.hid (itoa_any (n := n / 1000) hT hq0 (by omega))
 have HC2 : Hid (∀ W, Below w.heap.size w W → Calls Tryz.prog 97 #[.int .i64 (1000 + n % 1000)] W fun e w' => e = .returned (.string ⟨(Lib.itoa (1000 + n % 1000)).toArray⟩) ∧ Below W.heap.size W w') := fun W h => itoa_any (tab_on HT.out h) (by omega) (by omega)
 have hl := itoa_pos (1000 + n % 1000)
 have hl2 := Lib.itoa_length_le (1000 + n % 1000) (by omega) (by omega)
 have hlq := Lib.itoa_length_le (n / 1000) (by omega) (by omega)
 have hU : Hid (((⟨(Lib.itoa (1000 + n % 1000)).toArray⟩ : ByteArray).extract 1 (⟨(Lib.itoa (1000 + n % 1000)).toArray⟩ : ByteArray).size).data.toList = (Lib.itoa (1000 + n % 1000)).drop 1) := by
  show _ = _
  rw [Lib.extract_mk]
  show List.take _ _ = _
  rw [List.take_of_length_le]
  rw [Lib.size_mk, List.length_drop]; omega
 have hN : Hid (strOfNums (numT n) = ⟨(Lib.itoa (n / 1000)).toArray⟩ ++ (if fracL n = [] then ⟨#[]⟩ else ⟨#[46]⟩ ++ ⟨(fracL n).toArray⟩)) := by
  show _ = _
  unfold K.numT K.decT
  rw [mk_str (Lib.itoa (n / 1000))]
  split
  ·rw [List.append_nil]
   have : (⟨#[]⟩ : ByteArray) = strOfNums [] := rfl
   rw [this, str_app2, List.append_nil]
  ·have : (⟨#[46]⟩ : ByteArray) = strOfNums [46] := rfl
   rw [this, mk_str (fracL n), str_app2, str_app2]; rfl
 have hus : (⟨(Lib.itoa (1000 + n % 1000)).toArray⟩ : ByteArray).size = (Lib.itoa (1000 + n % 1000)).length := Lib.size_mk _
 have hqs : (⟨(Lib.itoa (n / 1000)).toArray⟩ : ByteArray).size = (Lib.itoa (n / 1000)).length := Lib.size_mk _
 have hfr : Hid (∀ s : ByteArray, s.data.toList = (Lib.itoa (1000 + n % 1000)).drop 1 → Lib.trimRightB s.data.toList 48 = fracL n) := fun s h => by rw [h]; rfl
 have hfl : (fracL n).length ≤ 21 := by
  unfold K.fracL Lib.trimRightB
  rw [List.length_reverse]
  refine Nat.le_trans (List.dropWhile_sublist _).length_le ?_
  rw [List.length_reverse, List.length_drop]; omega
 have hu1 : 1 ≤ (⟨(Lib.itoa (1000 + n % 1000)).toArray⟩ : ByteArray).size := by rw [hus]; exact hl
 have hu2 : (⟨(Lib.itoa (1000 + n % 1000)).toArray⟩ : ByteArray).size ≤ 21 := by rw [hus]; exact hl2
 have hq2 : (⟨(Lib.itoa (n / 1000)).toArray⟩ : ByteArray).size ≤ 21 := by rw [hqs]; exact hlq
 generalize (⟨(Lib.itoa (1000 + n % 1000)).toArray⟩ : ByteArray) = U at *
 generalize (⟨(Lib.itoa (n / 1000)).toArray⟩ : ByteArray) = QQ at *
 have HTR : Hid (∀ W, Calls Tryz.prog 98 #[.string (U.extract 1 U.size), .string ⟨#[48]⟩] W fun e w' => e = .returned (.string ⟨(fracL n).toArray⟩) ∧ W = w') := fun W => by
  rw [← hfr.out _ hU.out]
  exact trim_any _ (by rw [ByteArray.size_extract]; omega) W
 generalize strOfNums (numT n) = RES at *
 clear hl hl2 hlq hU hus hqs hfr hT
 go_enter Tryz.func65, Tryz.ntmps65
 go_wp2_with fail
 refine HC.out.mono ?_
 rintro e w1 ⟨rfl, hb⟩
 have HB := Lib.hid hb
 clear hb HC
 go_wp2_with fail
 refine (HC2.out _ HB.out).mono ?_
 rintro e w2 ⟨rfl, hb⟩
 have HB2 := Lib.hid (HB.out.trans (hb.mono HB.out.size))
 clear hb HB HC2
 go_wp2_with fail
 refine (HTR.out _).mono ?_
 rintro e w3 ⟨rfl, rfl⟩
 by_cases hf : fracL n = []
 ·rw [hf]
  have HF : Hid (RES = QQ) := by
   show _ = _
   rw [hN.out, if_pos hf]
   exact ByteArray.append_empty
  clear hN hf HTR hfl
  go_wp2_with fail
  go_ret
  exact ⟨ret_str HF.out.symm, HB2.out⟩
 ·have HF : Hid (RES = QQ ++ ⟨#[46]⟩ ++ ⟨(fracL n).toArray⟩) := by
   show _ = _
   rw [hN.out, if_neg hf, ByteArray.append_assoc]
  have hfs : (⟨(fracL n).toArray⟩ : ByteArray).size = (fracL n).length := Lib.size_mk _
  have hf2 : (⟨(fracL n).toArray⟩ : ByteArray).size ≤ 21 := by omega
  have g1 := str_some (s := ⟨(fracL n).toArray⟩) (by rw [hfs]; intro e; exact hf (List.eq_nil_of_length_eq_zero e))
  clear hN hf HTR hfl hfs
  generalize (⟨(fracL n).toArray⟩ : ByteArray) = FF at *
  have a1 : ¬ 9223372036854775807 < QQ.size + 1 := by omega
  have a2 : ¬ 9223372036854775807 < QQ.size + 1 + FF.size := by omega
  go_wp2_with fail
  go_ret
  exact ⟨ret_str HF.out.symm, HB2.out⟩
def BytL (l : List Int) : Prop := ∀ x ∈ l, 0 ≤ x ∧ x < 256
theorem bytL_app {l m : List Int} (h : BytL l) (k : BytL m) : BytL (l ++ m) := fun x hx => (List.mem_append.1 hx).elim (h x) (k x)
theorem bytL_of {l : List Int} (h : (l.all fun x => decide (0 ≤ x ∧ x < 256)) = true) : BytL l := fun x hx => by
 have := List.all_eq_true.1 h x hx
 simpa using this
theorem bytL_u8 (l : List UInt8) : BytL (l.map fun b => (b.toNat : Int)) := fun x hx => by
 obtain ⟨b, _, rfl⟩ := List.mem_map.1 hx
 have := b.toNat_lt
 exact ⟨by omega, by omega⟩
theorem behind_byt (k : Int) : BytL (behindT k) := by unfold K.behindT; split <;> (try split) <;> (try split) <;> exact bytL_of (by decide)
theorem between_byt (k : Int) : BytL (betweenT k) := by unfold K.betweenT; split <;> (try split) <;> (try split) <;> exact bytL_of (by decide)
theorem kidsT_byt (k : Int) : ∀ (l : List Nd) (f : Bool), (∀ y ∈ l, BytL (txt y)) → BytL (kidsT k f l)
 | [], f, _ => by rw [K.kidsT]; exact bytL_of (by decide)
 | x :: t, f, h => by
  rw [K.kidsT_cons]
  refine bytL_app (bytL_app ?_ ?_) (kidsT_byt k t false fun y hy => h y (List.mem_cons_of_mem _ hy))
  ·split
   ·exact bytL_of (by decide)
   ·exact between_byt k
  ·unfold K.partT
   have := h x (List.mem_cons_self ..)
   split
   ·exact bytL_app (bytL_app (bytL_of (by decide)) this) (bytL_of (by decide))
   ·exact this
theorem txt_byt : ∀ (n : Nat) (x : Nd), x.size ≤ n → anyB x = true → BytL (txt x) := by
 intro n
 induction n with
 | zero => intro x h; have := x.size_pos; omega
 | succ n ih =>
  intro x hn h
  have hs := K.size_eq x
  have hkids : ∀ k f, BytL (kidsT k f x.kids) := fun k f => kidsT_byt k x.kids f fun y hy => ih y (by have := K.size_in hy; omega) ((K.any_kids h).1 y hy)
  rw [K.txt_eq]
  split
  ·exact bytL_of (by decide)
  ·split
   ·exact bytL_of (by decide)
   ·split
    ·exact bytL_app (l := [36]) (bytL_of (by decide)) (K.numsOf_byte _)
    ·split
     ·refine bytL_app (bytL_app ?_ (hkids 4 true)) (bytL_of (by decide))
      split <;> exact bytL_of (by decide)
     ·split
      ·rename_i h5
       obtain ⟨z0, z1, z2⟩ := any_rng h h5
       unfold K.rngT
       refine bytL_app (text_byte z0) ?_
       split
       ·exact bytL_of (by decide)
       ·exact bytL_app (l := [45]) (bytL_of (by decide)) (text_byte (by omega))
      ·exact bytL_app (hkids _ true) (behind_byt _)
theorem numT_byt (n : Int) : BytL (numT n) := by
 unfold K.numT K.decT
 refine bytL_app (bytL_u8 _) ?_
 split
 ·exact bytL_of (by decide)
 ·exact bytL_app (l := [46]) (bytL_of (by decide)) (bytL_u8 _)
theorem numT_len {n : Int} (h0 : 0 ≤ n) (h1 : n ≤ 999999) : (numT n).length ≤ 50 := by
 have hl2 := Lib.itoa_length_le (1000 + n % 1000) (by omega) (by omega)
 have hlq := Lib.itoa_length_le (n / 1000) (by omega) (by omega)
 have hfl : (fracL n).length ≤ 21 := by
  unfold K.fracL Lib.trimRightB
  rw [List.length_reverse]
  refine Nat.le_trans (List.dropWhile_sublist _).length_le ?_
  rw [List.length_reverse, List.length_drop]; omega
 unfold K.numT K.decT
 rw [List.length_append, List.length_map]
 split
 ·simp; omega
 ·rw [List.length_cons, List.length_map]; omega
theorem right_anyB {x : Nd} (h : K.rightB x = true) : anyB x = true := (K.right_any h).2.1
theorem right_len {x : Nd} (h : K.rightB x = true) : (txt x).length ≤ 15000 := (K.right_any h).2.2
/-- A line is short, and bytes, where the item may be written. -/
theorem line_ok {x : It} (h : K.mayB x = true) : BytL (lineT x) ∧ (lineT x).length ≤ 30100 := by
 unfold K.mayB at h
 unfold K.lineT
 by_cases h1 : x.kind = 1
 ·rw [if_pos h1] at h ⊢
  simp only [Bool.and_eq_true] at h
  have hn := K.name_len h.1.1.1.1
  have hb := right_len h.1.2
  refine ⟨bytL_app (bytL_app (bytL_app (l := [36]) (bytL_of (by decide)) (K.numsOf_byte _)) (bytL_of (by decide))) (txt_byt _ _ (Nat.le_refl _) (right_anyB h.1.2)), ?_⟩
  simp only [List.length_append, List.length_cons, List.length_nil]; omega
 ·rw [if_neg h1] at h ⊢
  by_cases h2 : x.kind = 2
  ·rw [if_pos h2] at h ⊢
   simp only [Bool.and_eq_true] at h
   have ho := h.1.1.2
   unfold K.numOk at ho
   simp only [Bool.and_eq_true, decide_eq_true_eq] at ho
   have hl := numT_len ho.1 ho.2
   have hb := right_len h.1.2
   have ha := right_len h.2
   have hs : (if x.cut = true then [32, 195, 183, 32] else [32, 195, 151, 32] : List Int).length = 4 := by split <;> rfl
   refine ⟨bytL_app (bytL_app (bytL_app (bytL_app (numT_byt _) (bytL_of (by decide))) (txt_byt _ _ (Nat.le_refl _) (right_anyB h.1.2))) ?_) (txt_byt _ _ (Nat.le_refl _) (right_anyB h.2)), ?_⟩
   ·split <;> exact bytL_of (by decide)
   ·simp only [List.length_append, List.length_cons, List.length_nil, hs]; omega
  ·rw [if_neg h2] at h ⊢
   by_cases h3 : x.kind = 3
   ·rw [if_pos h3] at h
    simp only [Bool.and_eq_true] at h
    have hl := h.1.1.1.1
    unfold W.lettersB at hl
    simp only [Bool.and_eq_true, decide_eq_true_eq] at hl
    refine ⟨bytL_app (bytL_app (bytL_of (by decide)) (K.numsOf_byte _)) ?_, ?_⟩
    ·split
     ·exact bytL_of (by decide)
     ·exact bytL_app (l := [32]) (bytL_of (by decide)) (numT_byt _)
    ·have hk : (if x.number = -1 then [] else 32 :: numT x.number : List Int).length ≤ 51 := by
      split
      ·simp
      ·rename_i hne
       have ho := h.1.1.1.2
       rw [Bool.or_eq_true, decide_eq_true_eq] at ho
       have ho := ho.resolve_left hne
       unfold K.numOk at ho
       simp only [Bool.and_eq_true, decide_eq_true_eq] at ho
       have := numT_len ho.1 ho.2
       rw [List.length_cons]; omega
     have : K.allowT.length = 7 := rfl
     simp only [List.length_append, this]; omega
   ·rw [if_neg h3] at h; cases h
end Go.Proofs.YtmohefgdpddldaaGreatDoor
namespace Go.Proofs.YtmohefgdpddldaaGreatDoor
open Go.RowKit
open Y (Nd It noName)
open K (numsOf nameB twoB threeB aloneB endK pairB inS inF nosB deepB rightB noneB numOk mayB)

open W (lettersB)
theorem may_eq (x : It) : mayB x = if x.kind = 1 then nameB (numsOf x.name) && (x.number == 0) && !x.cut && rightB x.before && noneB x.after
  else if x.kind = 2 then decide (x.name.size = 0) && numOk x.number && rightB x.before && rightB x.after
  else if x.kind = 3 then lettersB (numsOf x.name) && ((x.number == -1) || numOk x.number) && !x.cut && noneB x.before && noneB x.after
  else false := by unfold K.mayB; simp only [beqd]
set_option maxHeartbeats 8000000 in
theorem may_any {x : It} {w : World} {Ab Aa : Option Addr} {nb cb na ca : Nat} (hs : x.name.size ≤ 140737488355328) (hkb : RdN w (Lt w) Ab nb cb x.before.kids) (hka : RdN w (Lt w) Aa na ca x.after.kids) :
  Calls Tryz.prog 14 #[.agg #[.int .i64 x.kind, .string x.name, .int .i64 x.number, .bool x.cut, .int .i64 x.before.kind, .string x.before.name, .int .i64 x.before.low, .int .i64 x.before.high, .slice Ab nb cb, .int .i64 x.after.kind, .string x.after.name, .int .i64 x.after.low, .int .i64 x.after.high, .slice Aa na ca, .int .i64 x.pos]] w (BooK w (mayB x)) := by
 have HP := Lib.hid (kbelow_push w (.cells #[.int .i64 x.kind, .string x.name, .int .i64 x.number, .bool x.cut, .int .i64 x.before.kind, .string x.before.name, .int .i64 x.before.low, .int .i64 x.before.high, .slice Ab nb cb, .int .i64 x.after.kind, .string x.after.name, .int .i64 x.after.low, .int .i64 x.after.high, .slice Aa na ca, .int .i64 x.pos] 35))
 have HROW := Lib.hid (heap_alloc_new w (.cells #[.int .i64 x.kind, .string x.name, .int .i64 x.number, .bool x.cut, .int .i64 x.before.kind, .string x.before.name, .int .i64 x.before.low, .int .i64 x.before.high, .slice Ab nb cb, .int .i64 x.after.kind, .string x.after.name, .int .i64 x.after.low, .int .i64 x.after.high, .slice Aa na ca, .int .i64 x.pos] 35))
 have hz : (w.alloc (.cells #[.int .i64 x.kind, .string x.name, .int .i64 x.number, .bool x.cut, .int .i64 x.before.kind, .string x.before.name, .int .i64 x.before.low, .int .i64 x.before.high, .slice Ab nb cb, .int .i64 x.after.kind, .string x.after.name, .int .i64 x.after.low, .int .i64 x.after.high, .slice Aa na ca, .int .i64 x.pos] 35)).heap.size = w.heap.size + 1 := by simp
 have HB : Hid (Below w.heap.size w (w.alloc (.cells #[.int .i64 x.kind, .string x.name, .int .i64 x.number, .bool x.cut, .int .i64 x.before.kind, .string x.before.name, .int .i64 x.before.low, .int .i64 x.before.high, .slice Ab nb cb, .int .i64 x.after.kind, .string x.after.name, .int .i64 x.after.low, .int .i64 x.after.high, .slice Aa na ca, .int .i64 x.pos] 35))) := HP.out
 have HRB : Hid (∀ W, Below w.heap.size w W → Calls Tryz.prog 16 #[.agg #[.int .i64 x.before.kind, .string x.before.name, .int .i64 x.before.low, .int .i64 x.before.high, .slice Ab nb cb]] W (BooK W (rightB x.before))) := fun W h => right_any (hkb.on h)
 have HRA : Hid (∀ W, Below w.heap.size w W → Calls Tryz.prog 16 #[.agg #[.int .i64 x.after.kind, .string x.after.name, .int .i64 x.after.low, .int .i64 x.after.high, .slice Aa na ca]] W (BooK W (rightB x.after))) := fun W h => right_any (hka.on h)
 have HNB : Hid (∀ W, Calls Tryz.prog 32 #[.agg #[.int .i64 x.before.kind, .string x.before.name, .int .i64 x.before.low, .int .i64 x.before.high, .slice Ab nb cb]] W (BooK W (noneB x.before))) := fun W => none_any hkb.len
 have HNA : Hid (∀ W, Calls Tryz.prog 32 #[.agg #[.int .i64 x.after.kind, .string x.after.name, .int .i64 x.after.low, .int .i64 x.after.high, .slice Aa na ca]] W (BooK W (noneB x.after))) := fun W => none_any hka.len
 have HNM : Hid (∀ W, Calls Tryz.prog 31 #[.string x.name] W (BooK W (nameB (numsOf x.name)))) := fun W => isName_any _ W
 have HLT : Hid (∀ W, Calls Tryz.prog 34 #[.string x.name] W fun e w' => e = .returned (.bool (lettersB (numsOf x.name))) ∧ W = w') := fun W => letters_any (strIs_nums x.name) (by rw [K.numsOf_len]; exact hs)
 have HNU : Hid (∀ W, Calls Tryz.prog 33 #[.int .i64 x.number] W fun e w' => e = .returned (.bool (numOk x.number)) ∧ W = w') := fun W => isNumber_any _ W
 have hF := may_eq x
 clear hkb hka hs
 generalize mayB x = res at *
 generalize nameB (numsOf x.name) = qn at *
 generalize lettersB (numsOf x.name) = ql at *
 generalize numOk x.number = qu at *
 generalize rightB x.before = qb at *
 generalize rightB x.after = qa at *
 generalize noneB x.before = qnb at *
 generalize noneB x.after = qna at *
 generalize x.cut = cut at *
 by_cases h1 : x.kind = 1
 ·rw [if_pos h1] at hF
  have k1 : (x.kind == 1) = true := by rw [beqd]; exact decide_eq_true (by omega)
  have HF := Lib.hid hF
  clear hF h1 HRA HNB HLT HNU
  go_enter Tryz.func14, Tryz.ntmps14
  go_wp2_with fail
  refine (HNM.out _).mono ?_
  rintro e w2 ⟨rfl, hb2⟩
  have HB2 := Lib.hid (HB.out.trans (hb2.mono HB.out.size))
  clear HB
  have HB := HB2
  clear HB2
  have HROW2 := Lib.hid ((hb2.block w.heap.size (by omega)).trans HROW.out)
  clear HROW
  have HROW := HROW2
  clear HROW2
  obtain ⟨r0, r1, r2, r3, r4, r5, r6, r7, r8, r9, r10, r11, r12, r13, r14⟩ := cells15 HROW.out
  have hz2 := hb2.size
  clear hb2
  cases qn with
  | false =>
   go_wp2_with fail
   go_ret
   exact ⟨ret_bool (by rw [HF.out]; rfl), HB.out⟩
  | true =>
   cases g1 : (x.number == 0) with
   | false =>
    rw [g1] at HF
    go_wp2_with fail
    go_ret
    exact ⟨ret_bool (by rw [HF.out]; rfl), HB.out⟩
   | true =>
    rw [g1] at HF
    cases cut with
    | true =>
     go_wp2_with fail
     go_ret
     exact ⟨ret_bool (by rw [HF.out]; rfl), HB.out⟩
    | false =>
     go_wp2_with fail
     refine (HRB.out _ HB.out).mono ?_
     rintro e w2 ⟨rfl, hb2⟩
     have HB2 := Lib.hid (HB.out.trans (hb2.mono HB.out.size))
     clear HB
     have HB := HB2
     clear HB2
     have HROW2 := Lib.hid ((hb2.block w.heap.size (by omega)).trans HROW.out)
     clear HROW
     have HROW := HROW2
     clear HROW2
     obtain ⟨r0, r1, r2, r3, r4, r5, r6, r7, r8, r9, r10, r11, r12, r13, r14⟩ := cells15 HROW.out
     have hz2 := hb2.size
     clear hb2
     cases qb with
     | false =>
      go_wp2_with fail
      go_ret
      exact ⟨ret_bool (by rw [HF.out]; rfl), HB.out⟩
     | true =>
      go_wp2_with fail
      refine (HNA.out _).mono ?_
      rintro e w2 ⟨rfl, hb2⟩
      have HB2 := Lib.hid (HB.out.trans (hb2.mono HB.out.size))
      clear HB
      have HB := HB2
      clear HB2
      have HROW2 := Lib.hid ((hb2.block w.heap.size (by omega)).trans HROW.out)
      clear HROW
      have HROW := HROW2
      clear HROW2
      obtain ⟨r0, r1, r2, r3, r4, r5, r6, r7, r8, r9, r10, r11, r12, r13, r14⟩ := cells15 HROW.out
      have hz2 := hb2.size
      clear hb2
      go_wp2_with fail
      go_ret
      exact ⟨ret_bool (by rw [HF.out]; rfl), HB.out⟩

 ·rw [if_neg h1] at hF
  have k1 : (x.kind == 1) = false := by rw [beqd]; exact decide_eq_false (by omega)
  by_cases h2 : x.kind = 2
  ·rw [if_pos h2] at hF
   have k2 : (x.kind == 2) = true := by rw [beqd]; exact decide_eq_true (by omega)
   have HF := Lib.hid hF
   clear hF h1 h2 HNB HNA HLT HNM
   go_enter Tryz.func14, Tryz.ntmps14
   by_cases g0 : x.name.size = 0
   ·have g0' := str_none g0
    rw [decide_eq_true g0] at HF
    clear g0
    go_wp2_with fail
    refine (HNU.out _).mono ?_
    rintro e w2 ⟨rfl, rfl⟩
    cases qu with
    | false =>
     go_wp2_with fail
     go_ret
     exact ⟨ret_bool (by rw [HF.out]; rfl), HB.out⟩
    | true =>
     go_wp2_with fail
     refine (HRB.out _ HB.out).mono ?_
     rintro e w2 ⟨rfl, hb2⟩
     have HB2 := Lib.hid (HB.out.trans (hb2.mono HB.out.size))
     clear HB
     have HB := HB2
     clear HB2
     have HROW2 := Lib.hid ((hb2.block w.heap.size (by omega)).trans HROW.out)
     clear HROW
     have HROW := HROW2
     clear HROW2
     obtain ⟨r0, r1, r2, r3, r4, r5, r6, r7, r8, r9, r10, r11, r12, r13, r14⟩ := cells15 HROW.out
     have hz2 := hb2.size
     clear hb2
     cases qb with
     | false =>
      go_wp2_with fail
      go_ret
      exact ⟨ret_bool (by rw [HF.out]; rfl), HB.out⟩
     | true =>
      go_wp2_with fail
      refine (HRA.out _ HB.out).mono ?_
      rintro e w2 ⟨rfl, hb2⟩
      have HB2 := Lib.hid (HB.out.trans (hb2.mono HB.out.size))
      clear HB
      have HB := HB2
      clear HB2
      have HROW2 := Lib.hid ((hb2.block w.heap.size (by omega)).trans HROW.out)
      clear HROW
      have HROW := HROW2
      clear HROW2
      obtain ⟨r0, r1, r2, r3, r4, r5, r6, r7, r8, r9, r10, r11, r12, r13, r14⟩ := cells15 HROW.out
      have hz2 := hb2.size
      clear hb2
      go_wp2_with fail
      go_ret
      exact ⟨ret_bool (by rw [HF.out]; rfl), HB.out⟩
   ·have g0' := str_some g0
    rw [decide_eq_false g0] at HF
    clear g0
    go_wp2_with fail
    go_ret
    exact ⟨ret_bool (by rw [HF.out]; rfl), HB.out⟩
  ·rw [if_neg h2] at hF
   have k2 : (x.kind == 2) = false := by rw [beqd]; exact decide_eq_false (by omega)
   by_cases h3 : x.kind = 3
   ·rw [if_pos h3] at hF
    have k3 : (x.kind == 3) = true := by rw [beqd]; exact decide_eq_true (by omega)
    have HF := Lib.hid hF
    clear hF h1 h2 h3 HRB HRA HNM
    go_enter Tryz.func14, Tryz.ntmps14
    go_wp2_with fail
    refine (HLT.out _).mono ?_
    rintro e w2 ⟨rfl, rfl⟩
    cases ql with
    | false =>
     go_wp2_with fail
     go_ret
     exact ⟨ret_bool (by rw [HF.out]; rfl), HB.out⟩
    | true =>
     cases g7 : (x.number == -1) with
     | true =>
      rw [g7] at HF
      cases cut with
      | true =>
       go_wp2_with fail
       go_ret
       exact ⟨ret_bool (by rw [HF.out]; rfl), HB.out⟩
      | false =>
       go_wp2_with fail
       refine (HNB.out _).mono ?_
       rintro e w2 ⟨rfl, hb2⟩
       have HB2 := Lib.hid (HB.out.trans (hb2.mono HB.out.size))
       clear HB
       have HB := HB2
       clear HB2
       have HROW2 := Lib.hid ((hb2.block w.heap.size (by omega)).trans HROW.out)
       clear HROW
       have HROW := HROW2
       clear HROW2
       obtain ⟨r0, r1, r2, r3, r4, r5, r6, r7, r8, r9, r10, r11, r12, r13, r14⟩ := cells15 HROW.out
       have hz2 := hb2.size
       clear hb2
       cases qnb with
       | false =>
        go_wp2_with fail
        go_ret
        exact ⟨ret_bool (by rw [HF.out]; rfl), HB.out⟩
       | true =>
        go_wp2_with fail
        refine (HNA.out _).mono ?_
        rintro e w2 ⟨rfl, hb2⟩
        have HB2 := Lib.hid (HB.out.trans (hb2.mono HB.out.size))
        clear HB
        have HB := HB2
        clear HB2
        have HROW2 := Lib.hid ((hb2.block w.heap.size (by omega)).trans HROW.out)
        clear HROW
        have HROW := HROW2
        clear HROW2
        obtain ⟨r0, r1, r2, r3, r4, r5, r6, r7, r8, r9, r10, r11, r12, r13, r14⟩ := cells15 HROW.out
        have hz2 := hb2.size
        clear hb2
        go_wp2_with fail
        go_ret
        exact ⟨ret_bool (by rw [HF.out]; rfl), HB.out⟩
     | false =>
      rw [g7] at HF
      go_wp2_with fail
      refine (HNU.out _).mono ?_
      rintro e w2 ⟨rfl, rfl⟩
      cases qu with
      | false =>
       go_wp2_with fail
       go_ret
       exact ⟨ret_bool (by rw [HF.out]; rfl), HB.out⟩
      | true =>
       cases cut with
       | true =>
        go_wp2_with fail
        go_ret
        exact ⟨ret_bool (by rw [HF.out]; rfl), HB.out⟩
       | false =>
        go_wp2_with fail
        refine (HNB.out _).mono ?_
        rintro e w2 ⟨rfl, hb2⟩
        have HB2 := Lib.hid (HB.out.trans (hb2.mono HB.out.size))
        clear HB
        have HB := HB2
        clear HB2
        have HROW2 := Lib.hid ((hb2.block w.heap.size (by omega)).trans HROW.out)
        clear HROW
        have HROW := HROW2
        clear HROW2
        obtain ⟨r0, r1, r2, r3, r4, r5, r6, r7, r8, r9, r10, r11, r12, r13, r14⟩ := cells15 HROW.out
        have hz2 := hb2.size
        clear hb2
        cases qnb with
        | false =>
         go_wp2_with fail
         go_ret
         exact ⟨ret_bool (by rw [HF.out]; rfl), HB.out⟩
        | true =>
         go_wp2_with fail
         refine (HNA.out _).mono ?_
         rintro e w2 ⟨rfl, hb2⟩
         have HB2 := Lib.hid (HB.out.trans (hb2.mono HB.out.size))
         clear HB
         have HB := HB2
         clear HB2
         have HROW2 := Lib.hid ((hb2.block w.heap.size (by omega)).trans HROW.out)
         clear HROW
         have HROW := HROW2
         clear HROW2
         obtain ⟨r0, r1, r2, r3, r4, r5, r6, r7, r8, r9, r10, r11, r12, r13, r14⟩ := cells15 HROW.out
         have hz2 := hb2.size
         clear hb2
         go_wp2_with fail
         go_ret
         exact ⟨ret_bool (by rw [HF.out]; rfl), HB.out⟩


   ·rw [if_neg h3] at hF
    have k3 : (x.kind == 3) = false := by rw [beqd]; exact decide_eq_false (by omega)
    have HF := Lib.hid hF
    clear hF h1 h2 h3 HRB HRA HNM HNB HNA HLT HNU
    go_enter Tryz.func14, Tryz.ntmps14
    go_wp2_with fail
    go_ret
    exact ⟨ret_bool HF.out.symm, HB.out⟩
end Go.Proofs.YtmohefgdpddldaaGreatDoor
namespace Go.Proofs.YtmohefgdpddldaaGreatDoor
open Go.RowKit
open Y (Nd It noName)
open K (numsOf threeB twoB behindT betweenT brkB rngT txt kidsT partT anyB decT fracL numT lineT itemsT rightB noneB numOk mayB nameB)

set_option maxHeartbeats 8000000 in
theorem prule_any {x : It} {w : World} {B b : Nat} {L : List Int} {Ab Aa : Option Addr} {nb cb na ca : Nat} (h : Pn w B b L) (hT : TbB B w) (hBw : B ≤ w.heap.size) (hrb : RdN w (· < B) Ab nb cb x.before.kids) (hra' : RdN w (· < B) Aa na ca x.after.kids) (hn0 : 0 ≤ x.number) (hn1 : x.number ≤ 999999) (hbb : anyB x.before = true) (hra : anyB x.after = true)
  (hlen : L.length + (numT x.number ++ [32] ++ txt x.before ++ (if x.cut = true then [32, 195, 183, 32] else [32, 195, 151, 32]) ++ txt x.after).length ≤ 140737488355328) :
  Calls Tryz.prog 64 #[.pointer (some ⟨b, 0, none⟩), .agg #[.int .i64 x.kind, .string x.name, .int .i64 x.number, .bool x.cut, .int .i64 x.before.kind, .string x.before.name, .int .i64 x.before.low, .int .i64 x.before.high, .slice Ab nb cb, .int .i64 x.after.kind, .string x.after.name, .int .i64 x.after.low, .int .i64 x.after.high, .slice Aa na ca, .int .i64 x.pos]] w (PutV B b L (numT x.number ++ [32] ++ txt x.before ++ (if x.cut = true then [32, 195, 183, 32] else [32, 195, 151, 32]) ++ txt x.after) (.tuple #[]) w) := by
 have HB0 := kbelow_push w (.cells #[.int .i64 x.kind, .string x.name, .int .i64 x.number, .bool x.cut, .int .i64 x.before.kind, .string x.before.name, .int .i64 x.before.low, .int .i64 x.before.high, .slice Ab nb cb, .int .i64 x.after.kind, .string x.after.name, .int .i64 x.after.low, .int .i64 x.after.high, .slice Aa na ca, .int .i64 x.pos] 35)
 have HROW := Lib.hid (heap_alloc_new w (.cells #[.int .i64 x.kind, .string x.name, .int .i64 x.number, .bool x.cut, .int .i64 x.before.kind, .string x.before.name, .int .i64 x.before.low, .int .i64 x.before.high, .slice Ab nb cb, .int .i64 x.after.kind, .string x.after.name, .int .i64 x.after.low, .int .i64 x.after.high, .slice Aa na ca, .int .i64 x.pos] 35))
 have HP := Lib.hid ((Pen.refl h).below hBw HB0)
 have hz : (w.alloc (.cells #[.int .i64 x.kind, .string x.name, .int .i64 x.number, .bool x.cut, .int .i64 x.before.kind, .string x.before.name, .int .i64 x.before.low, .int .i64 x.before.high, .slice Ab nb cb, .int .i64 x.after.kind, .string x.after.name, .int .i64 x.after.low, .int .i64 x.after.high, .slice Aa na ca, .int .i64 x.pos] 35)).heap.size = w.heap.size + 1 := by simp
 have HT := Lib.hid hT
 have HBR : Hid (Below B w (w.alloc (.cells #[.int .i64 x.kind, .string x.name, .int .i64 x.number, .bool x.cut, .int .i64 x.before.kind, .string x.before.name, .int .i64 x.before.low, .int .i64 x.before.high, .slice Ab nb cb, .int .i64 x.after.kind, .string x.after.name, .int .i64 x.after.low, .int .i64 x.after.high, .slice Aa na ca, .int .i64 x.pos] 35))) := HB0.mono hBw
 have HFbefore : Hid (∀ (w' : World) (L' : List Int), anyB x.before = true → Pn w' B b L' → TbB B w' → B ≤ w'.heap.size → Below B w w' → L'.length + (txt x.before).length ≤ 140737488355328 → Calls Tryz.prog 24 #[.pointer (some ⟨b, 0, none⟩), .agg #[.int .i64 x.before.kind, .string x.before.name, .int .i64 x.before.low, .int .i64 x.before.high, .slice Ab nb cb]] w' (PutV B b L' (txt x.before) (.tuple #[]) w')) := fun w' L' h0 h1 h2 h3 h4 h5 => pform_any h0 h1 h2 h3 (hrb.keep (fun _ h => h) (fun p hp => h4.cell (p := p) hp)) h5
 have HFafter : Hid (∀ (w' : World) (L' : List Int), anyB x.after = true → Pn w' B b L' → TbB B w' → B ≤ w'.heap.size → Below B w w' → L'.length + (txt x.after).length ≤ 140737488355328 → Calls Tryz.prog 24 #[.pointer (some ⟨b, 0, none⟩), .agg #[.int .i64 x.after.kind, .string x.after.name, .int .i64 x.after.low, .int .i64 x.after.high, .slice Aa na ca]] w' (PutV B b L' (txt x.after) (.tuple #[]) w')) := fun w' L' h0 h1 h2 h3 h4 h5 => pform_any h0 h1 h2 h3 (hra'.keep (fun _ h => h) (fun p hp => h4.cell (p := p) hp)) h5
 have HLN := Lib.hid hlen
 have HNN : Hid (numsOf (strOfNums (numT x.number)) = numT x.number) := K.numsOf_strOf (numT_byt _)
 have HNS : Hid ((strOfNums (numT x.number)).size = (numT x.number).length) := strOfNums_size _
 obtain ⟨TX, hTX⟩ : ∃ TX : List Int, TX = numT x.number ++ [32] ++ txt x.before ++ (if x.cut = true then [32, 195, 183, 32] else [32, 195, 151, 32]) ++ txt x.after := ⟨_, rfl⟩
 rw [← hTX]
 have HTX := Lib.hid hTX
 clear h hT hrb hra' HB0 hlen hTX
 generalize x.cut = cut at *
 go_enter Tryz.func64, Tryz.ntmps64
 go_wp2_with fail
 generalize w.alloc (.cells #[.int .i64 x.kind, .string x.name, .int .i64 x.number, .bool cut, .int .i64 x.before.kind, .string x.before.name, .int .i64 x.before.low, .int .i64 x.before.high, .slice Ab nb cb, .int .i64 x.after.kind, .string x.after.name, .int .i64 x.after.low, .int .i64 x.after.high, .slice Aa na ca, .int .i64 x.pos] 35) = W2 at *
 have HNU : Hid (Calls Tryz.prog 65 #[.int .i64 x.number] W2.drew _) := number_any ((HT.out.on ((HP.out.2.1).trans (kbelow_drewN (Below.refl _ _) 1))) _ (Below.refl _ _)).2 hn0 hn1
 have HK0 : Hid (W2.drew.cell? ⟨w.heap.size, 2, none⟩ = some (.int .i64 x.number)) := (cells15 HROW.out).2.2.1
 have hlx : w.heap.size < W2.heap.size := (Array.getElem?_eq_some_iff.1 HROW.out).1
 go_region_held_law (fun w' => w'.cell? ⟨w.heap.size, 2, none⟩ = some (.int .i64 x.number)) (first | exact HK0.out | exact HK1.out | exact HK2.out) (first | (go_at_call 65; refine HNU.out.mono ?_; rintro e w5 ⟨rfl, hb5⟩; have HP5 := Lib.hid (HP.out.drew.below (Nat.le_trans hBw HP.out.size) hb5); have HROW5 := Lib.hid ((hb5.block w.heap.size hlx).trans (show W2.drew.heap[w.heap.size]? = _ from HROW.out)); have HBR5 : Hid (Below B w w5) := HBR.out.trans ((kbelow_drewN (Below.refl _ _) 1).trans (hb5.mono (Nat.le_trans hBw HP.out.size))); have HK1 := Lib.hid (cells15 HROW5.out).2.2.1; clear hb5) | (go_at_call 52; refine (wtext_any HP5.out.1 (strOfNums (numT x.number)) (by rw [HNS.out]; have := HLN.out; simp only [List.length_append, List.length_cons, List.length_nil] at this ⊢; omega) (Nat.le_trans hBw HP5.out.size)).mono ?_; rintro e w6 hp; have HPX := Lib.hid hp; have HK2 := Lib.hid (cells15 (hp.2.2.2.2 _ _ HROW5.out rfl)).2.2.1; obtain ⟨rfl, q1, q2, q3⟩ := hp; clear q1 q2 q3))
 have hp := HPX.out
 have HPn := Lib.hid (HP5.out.put hp)
 have HROWn := Lib.hid (hp.2.2.2.2 _ _ HROW5.out rfl)
 have HBRn := Lib.hid (HBR5.out.trans hp.2.2.1)
 clear HP HROW HBR HPX hp HK0 HK1 HK2 HNU HP5 HROW5 HBR5
 have HP := HPn
 have HROW := HROWn
 have HBR := HBRn
 clear HPn HROWn HBRn
 rw [HNN.out] at HP
 obtain ⟨r0, r1, r2, r3, r4, r5, r6, r7, r8, r9, r10, r11, r12, r13, r14⟩ := cells15 HROW.out
 have hslen : (if cut = true then [32, 195, 183, 32] else [32, 195, 151, 32] : List Int).length = 4 := by split <;> rfl
 simp only [List.length_append, hslen, List.length_cons, List.length_nil] at HLN
 have HC := Lib.hid (wbyte_any HP.out.1 32 (by have := HLN.out; simp only [List.length_append] at this ⊢; omega) (Nat.le_trans hBw HP.out.size))
 go_wp2_with fail
 refine HC.out.mono ?_
 rintro e w3 hp
 have HPn := Lib.hid (HP.out.put hp)
 have hkp := hp.2.2.2
 have HBRn := Lib.hid (HBR.out.trans hp.2.2.1)
 obtain ⟨rfl, q1, q2, q3⟩ := hp
 clear HP HC q1 q2 q3
 have HP := HPn
 clear HPn
 have HROWn := Lib.hid (hkp.2 _ _ HROW.out rfl)
 clear HROW
 have HROW := HROWn
 clear HROWn
 obtain ⟨r0, r1, r2, r3, r4, r5, r6, r7, r8, r9, r10, r11, r12, r13, r14⟩ := cells15 HROW.out
 clear hkp HBR
 have HBR := HBRn
 clear HBRn
 have HC := Lib.hid (HFbefore.out _ _ hbb HP.out.1 (HT.out.on HP.out.2.1) (Nat.le_trans hBw HP.out.size) HBR.out (by have := HLN.out; simp only [List.length_append, List.length_cons, List.length_nil] at this ⊢; omega))
 go_wp2_with fail
 refine HC.out.mono ?_
 rintro e w3 hp
 have HPn := Lib.hid (HP.out.put hp)
 have hkp := hp.2.2.2
 have HBRn := Lib.hid (HBR.out.trans hp.2.2.1)
 obtain ⟨rfl, q1, q2, q3⟩ := hp
 clear HP HC q1 q2 q3
 have HP := HPn
 clear HPn
 have HROWn := Lib.hid (hkp.2 _ _ HROW.out rfl)
 clear HROW
 have HROW := HROWn
 clear HROWn
 obtain ⟨r0, r1, r2, r3, r4, r5, r6, r7, r8, r9, r10, r11, r12, r13, r14⟩ := cells15 HROW.out
 clear hkp HBR
 have HBR := HBRn
 clear HBRn
 cases cut with
 | true =>
  simp only [if_true] at HTX
  have HC := Lib.hid (wtext_any HP.out.1 ⟨#[32, 195, 183, 32]⟩ (by have := HLN.out; simp only [List.length_append, List.length_cons, List.length_nil] at this ⊢; show _ + 4 ≤ _; omega) (Nat.le_trans hBw HP.out.size))
  go_wp2_with fail
  refine HC.out.mono ?_
  rintro e w3 hp
  have HPn := Lib.hid (HP.out.put hp)
  have hkp := hp.2.2.2
  have HBRn := Lib.hid (HBR.out.trans hp.2.2.1)
  obtain ⟨rfl, q1, q2, q3⟩ := hp
  clear HP HC q1 q2 q3
  have HP := HPn
  clear HPn
  have HROWn := Lib.hid (hkp.2 _ _ HROW.out rfl)
  clear HROW
  have HROW := HROWn
  clear HROWn
  obtain ⟨r0, r1, r2, r3, r4, r5, r6, r7, r8, r9, r10, r11, r12, r13, r14⟩ := cells15 HROW.out
  clear hkp HBR
  have HBR := HBRn
  clear HBRn
  have HC := Lib.hid (HFafter.out _ _ hra HP.out.1 (HT.out.on HP.out.2.1) (Nat.le_trans hBw HP.out.size) HBR.out (by have := HLN.out; rw [show numsOf ⟨#[32, 195, 183, 32]⟩ = [32, 195, 183, 32] from rfl]; simp only [List.length_append, List.length_cons, List.length_nil] at this ⊢; omega))
  go_wp2_with fail
  refine HC.out.mono ?_
  rintro e w3 hp
  have HPn := Lib.hid (HP.out.put hp)
  have hkp := hp.2.2.2
  have HBRn := Lib.hid (HBR.out.trans hp.2.2.1)
  obtain ⟨rfl, q1, q2, q3⟩ := hp
  clear HP HC q1 q2 q3
  have HP := HPn
  clear HPn
  have HROWn := Lib.hid (hkp.2 _ _ HROW.out rfl)
  clear HROW
  have HROW := HROWn
  clear HROWn
  obtain ⟨r0, r1, r2, r3, r4, r5, r6, r7, r8, r9, r10, r11, r12, r13, r14⟩ := cells15 HROW.out
  clear hkp HBR
  have HBR := HBRn
  clear HBRn
  have HE := Lib.hid (HP.out.out (L := L) (M := TX) (by rw [HTX.out, show numsOf ⟨#[32, 195, 183, 32]⟩ = [32, 195, 183, 32] from rfl]; simp))
  clear HP
  go_wp2_with fail
  exact bodyPost_ret (v := .tuple #[]) (by simp [results, Tryz.results64, go_sem]) rfl HE.out
 | false =>
  simp only [Bool.false_eq_true, if_false] at HTX
  have HC := Lib.hid (wtext_any HP.out.1 ⟨#[32, 195, 151, 32]⟩ (by have := HLN.out; simp only [List.length_append, List.length_cons, List.length_nil] at this ⊢; show _ + 4 ≤ _; omega) (Nat.le_trans hBw HP.out.size))
  go_wp2_with fail
  refine HC.out.mono ?_
  rintro e w3 hp
  have HPn := Lib.hid (HP.out.put hp)
  have hkp := hp.2.2.2
  have HBRn := Lib.hid (HBR.out.trans hp.2.2.1)
  obtain ⟨rfl, q1, q2, q3⟩ := hp
  clear HP HC q1 q2 q3
  have HP := HPn
  clear HPn
  have HROWn := Lib.hid (hkp.2 _ _ HROW.out rfl)
  clear HROW
  have HROW := HROWn
  clear HROWn
  obtain ⟨r0, r1, r2, r3, r4, r5, r6, r7, r8, r9, r10, r11, r12, r13, r14⟩ := cells15 HROW.out
  clear hkp HBR
  have HBR := HBRn
  clear HBRn
  have HC := Lib.hid (HFafter.out _ _ hra HP.out.1 (HT.out.on HP.out.2.1) (Nat.le_trans hBw HP.out.size) HBR.out (by have := HLN.out; rw [show numsOf ⟨#[32, 195, 151, 32]⟩ = [32, 195, 151, 32] from rfl]; simp only [List.length_append, List.length_cons, List.length_nil] at this ⊢; omega))
  go_wp2_with fail
  refine HC.out.mono ?_
  rintro e w3 hp
  have HPn := Lib.hid (HP.out.put hp)
  have hkp := hp.2.2.2
  have HBRn := Lib.hid (HBR.out.trans hp.2.2.1)
  obtain ⟨rfl, q1, q2, q3⟩ := hp
  clear HP HC q1 q2 q3
  have HP := HPn
  clear HPn
  have HROWn := Lib.hid (hkp.2 _ _ HROW.out rfl)
  clear HROW
  have HROW := HROWn
  clear HROWn
  obtain ⟨r0, r1, r2, r3, r4, r5, r6, r7, r8, r9, r10, r11, r12, r13, r14⟩ := cells15 HROW.out
  clear hkp HBR
  have HBR := HBRn
  clear HBRn
  have HE := Lib.hid (HP.out.out (L := L) (M := TX) (by rw [HTX.out, show numsOf ⟨#[32, 195, 151, 32]⟩ = [32, 195, 151, 32] from rfl]; simp))
  clear HP
  go_wp2_with fail
  exact bodyPost_ret (v := .tuple #[]) (by simp [results, Tryz.results64, go_sem]) rfl HE.out
end Go.Proofs.YtmohefgdpddldaaGreatDoor
namespace Go.Proofs.YtmohefgdpddldaaGreatDoor
open Go.RowKit
open Y (Nd It noName)
open K (numsOf threeB twoB behindT betweenT brkB rngT txt kidsT partT anyB decT fracL numT lineT itemsT rightB noneB numOk mayB nameB)

set_option maxHeartbeats 8000000 in
theorem pitem_any {x : It} (hm : mayB x = true) {w : World} {B b : Nat} {L : List Int} {Ab Aa : Option Addr} {nb cb na ca : Nat} (h : Pn w B b L) (hT : TbB B w) (hBw : B ≤ w.heap.size) (hrb : RdN w (· < B) Ab nb cb x.before.kids) (hra' : RdN w (· < B) Aa na ca x.after.kids)
  (hlen : L.length + (lineT x).length ≤ 140737488355328) :
  Calls Tryz.prog 28 #[.pointer (some ⟨b, 0, none⟩), .agg #[.int .i64 x.kind, .string x.name, .int .i64 x.number, .bool x.cut, .int .i64 x.before.kind, .string x.before.name, .int .i64 x.before.low, .int .i64 x.before.high, .slice Ab nb cb, .int .i64 x.after.kind, .string x.after.name, .int .i64 x.after.low, .int .i64 x.after.high, .slice Aa na ca, .int .i64 x.pos]] w (PutV B b L (lineT x) (.tuple #[]) w) := by
 have HB0 := kbelow_push w (.cells #[.int .i64 x.kind, .string x.name, .int .i64 x.number, .bool x.cut, .int .i64 x.before.kind, .string x.before.name, .int .i64 x.before.low, .int .i64 x.before.high, .slice Ab nb cb, .int .i64 x.after.kind, .string x.after.name, .int .i64 x.after.low, .int .i64 x.after.high, .slice Aa na ca, .int .i64 x.pos] 35)
 have HROW := Lib.hid (heap_alloc_new w (.cells #[.int .i64 x.kind, .string x.name, .int .i64 x.number, .bool x.cut, .int .i64 x.before.kind, .string x.before.name, .int .i64 x.before.low, .int .i64 x.before.high, .slice Ab nb cb, .int .i64 x.after.kind, .string x.after.name, .int .i64 x.after.low, .int .i64 x.after.high, .slice Aa na ca, .int .i64 x.pos] 35))
 have HP := Lib.hid ((Pen.refl h).below hBw HB0)
 have hz : (w.alloc (.cells #[.int .i64 x.kind, .string x.name, .int .i64 x.number, .bool x.cut, .int .i64 x.before.kind, .string x.before.name, .int .i64 x.before.low, .int .i64 x.before.high, .slice Ab nb cb, .int .i64 x.after.kind, .string x.after.name, .int .i64 x.after.low, .int .i64 x.after.high, .slice Aa na ca, .int .i64 x.pos] 35)).heap.size = w.heap.size + 1 := by simp
 have HT := Lib.hid hT
 have HBR : Hid (Below B w (w.alloc (.cells #[.int .i64 x.kind, .string x.name, .int .i64 x.number, .bool x.cut, .int .i64 x.before.kind, .string x.before.name, .int .i64 x.before.low, .int .i64 x.before.high, .slice Ab nb cb, .int .i64 x.after.kind, .string x.after.name, .int .i64 x.after.low, .int .i64 x.after.high, .slice Aa na ca, .int .i64 x.pos] 35))) := HB0.mono hBw
 have HFbefore : Hid (∀ (w' : World) (L' : List Int), anyB x.before = true → Pn w' B b L' → TbB B w' → B ≤ w'.heap.size → Below B w w' → L'.length + (txt x.before).length ≤ 140737488355328 → Calls Tryz.prog 24 #[.pointer (some ⟨b, 0, none⟩), .agg #[.int .i64 x.before.kind, .string x.before.name, .int .i64 x.before.low, .int .i64 x.before.high, .slice Ab nb cb]] w' (PutV B b L' (txt x.before) (.tuple #[]) w')) := fun w' L' h0 h1 h2 h3 h4 h5 => pform_any h0 h1 h2 h3 (hrb.keep (fun _ h => h) (fun p hp => h4.cell (p := p) hp)) h5
 have HRU : Hid (∀ (w' : World), 0 ≤ x.number → x.number ≤ 999999 → anyB x.before = true → anyB x.after = true → Pn w' B b L → TbB B w' → B ≤ w'.heap.size → Below B w w' → L.length + (numT x.number ++ [32] ++ txt x.before ++ (if x.cut = true then [32, 195, 183, 32] else [32, 195, 151, 32]) ++ txt x.after).length ≤ 140737488355328 → Calls Tryz.prog 64 #[.pointer (some ⟨b, 0, none⟩), .agg #[.int .i64 x.kind, .string x.name, .int .i64 x.number, .bool x.cut, .int .i64 x.before.kind, .string x.before.name, .int .i64 x.before.low, .int .i64 x.before.high, .slice Ab nb cb, .int .i64 x.after.kind, .string x.after.name, .int .i64 x.after.low, .int .i64 x.after.high, .slice Aa na ca, .int .i64 x.pos]] w' (PutV B b L _ (.tuple #[]) w')) := fun w' q0 q1 q2 q3 h1 h2 h3 h4 h5 => prule_any h1 h2 h3 (hrb.keep (fun _ h => h) (fun p hp => h4.cell (p := p) hp)) (hra'.keep (fun _ h => h) (fun p hp => h4.cell (p := p) hp)) q0 q1 q2 q3 h5
 have hM := may_eq x
 rw [hm] at hM
 obtain ⟨TX, hTX⟩ : ∃ TX : List Int, TX = lineT x := ⟨_, rfl⟩
 rw [← hTX]
 unfold K.lineT at hTX hlen
 clear hrb hra' HB0 h hT
 by_cases h1 : x.kind = 1
 ·rw [if_pos h1] at hM hTX hlen
  have k1 : (x.kind == 1) = true := by rw [beqd]; exact decide_eq_true (by omega)
  replace hM := hM.symm
  rw [Bool.and_eq_true, Bool.and_eq_true, Bool.and_eq_true, Bool.and_eq_true] at hM
  have hbb := right_anyB hM.1.2
  have HLN := Lib.hid hlen
  have HTX := Lib.hid hTX
  have hnl := K.numsOf_len x.name
  have HNL := Lib.hid hnl
  clear hM hTX hlen h1 HRU hnl hm
  have HC := Lib.hid (pname_any HP.out.1 x.name (by have := HLN.out; have h2 := HNL.out; simp only [List.length_append, List.length_cons, List.length_nil] at this ⊢; omega) (Nat.le_trans hBw HP.out.size))
  go_enter Tryz.func28, Tryz.ntmps28
  go_wp2_with fail
  generalize w.alloc (.cells #[.int .i64 x.kind, .string x.name, .int .i64 x.number, .bool x.cut, .int .i64 x.before.kind, .string x.before.name, .int .i64 x.before.low, .int .i64 x.before.high, .slice Ab nb cb, .int .i64 x.after.kind, .string x.after.name, .int .i64 x.after.low, .int .i64 x.after.high, .slice Aa na ca, .int .i64 x.pos] 35) = W2 at *
  refine HC.out.mono ?_
  rintro e w3 hp
  have HPn := Lib.hid (HP.out.put hp)
  have hkp := hp.2.2.2
  have HBRn := Lib.hid (HBR.out.trans hp.2.2.1)
  obtain ⟨rfl, q1, q2, q3⟩ := hp
  clear HP HC q1 q2 q3
  have HP := HPn
  clear HPn
  have HROWn := Lib.hid (hkp.2 _ _ HROW.out rfl)
  clear HROW
  have HROW := HROWn
  clear HROWn
  obtain ⟨r0, r1, r2, r3, r4, r5, r6, r7, r8, r9, r10, r11, r12, r13, r14⟩ := cells15 HROW.out
  clear hkp HBR
  have HBR := HBRn
  clear HBRn
  have HC := Lib.hid (wtext_any HP.out.1 ⟨#[32, 61, 32]⟩ (by have := HLN.out; simp only [List.length_append, List.length_cons, List.length_nil] at this ⊢; show _ + 3 ≤ _; omega) (Nat.le_trans hBw HP.out.size))
  go_wp2_with fail
  refine HC.out.mono ?_
  rintro e w3 hp
  have HPn := Lib.hid (HP.out.put hp)
  have hkp := hp.2.2.2
  have HBRn := Lib.hid (HBR.out.trans hp.2.2.1)
  obtain ⟨rfl, q1, q2, q3⟩ := hp
  clear HP HC q1 q2 q3
  have HP := HPn
  clear HPn
  have HROWn := Lib.hid (hkp.2 _ _ HROW.out rfl)
  clear HROW
  have HROW := HROWn
  clear HROWn
  obtain ⟨r0, r1, r2, r3, r4, r5, r6, r7, r8, r9, r10, r11, r12, r13, r14⟩ := cells15 HROW.out
  clear hkp HBR
  have HBR := HBRn
  clear HBRn
  have HC := Lib.hid (HFbefore.out _ _ hbb HP.out.1 (HT.out.on HP.out.2.1) (Nat.le_trans hBw HP.out.size) HBR.out (by have := HLN.out; rw [show numsOf ⟨#[32, 61, 32]⟩ = [32, 61, 32] from rfl]; simp only [List.length_append, List.length_cons, List.length_nil] at this ⊢; omega))
  go_wp2_with fail
  refine HC.out.mono ?_
  rintro e w3 hp
  have HPn := Lib.hid (HP.out.put hp)
  have hkp := hp.2.2.2
  have HBRn := Lib.hid (HBR.out.trans hp.2.2.1)
  obtain ⟨rfl, q1, q2, q3⟩ := hp
  clear HP HC q1 q2 q3
  have HP := HPn
  clear HPn
  have HROWn := Lib.hid (hkp.2 _ _ HROW.out rfl)
  clear HROW
  have HROW := HROWn
  clear HROWn
  obtain ⟨r0, r1, r2, r3, r4, r5, r6, r7, r8, r9, r10, r11, r12, r13, r14⟩ := cells15 HROW.out
  clear hkp HBR
  have HBR := HBRn
  clear HBRn
  have HE := Lib.hid (HP.out.out (L := L) (M := TX) (by rw [HTX.out, show numsOf ⟨#[32, 61, 32]⟩ = [32, 61, 32] from rfl]; simp))
  clear HP
  go_wp2_with fail
  exact bodyPost_ret (v := .tuple #[]) (by simp [results, Tryz.results28, go_sem]) rfl HE.out
 ·rw [if_neg h1] at hM hTX hlen
  have k1 : (x.kind == 1) = false := by rw [beqd]; exact decide_eq_false (by omega)
  clear h1
  by_cases h2 : x.kind = 2
  ·rw [if_pos h2] at hM hTX hlen
   have k2 : (x.kind == 2) = true := by rw [beqd]; exact decide_eq_true (by omega)
   replace hM := hM.symm
   rw [Bool.and_eq_true, Bool.and_eq_true, Bool.and_eq_true] at hM
   have ho := hM.1.1.2
   unfold K.numOk at ho
   rw [Bool.and_eq_true, decide_eq_true_eq, decide_eq_true_eq] at ho
   have HC := Lib.hid (HRU.out _ ho.1 ho.2 (right_anyB hM.1.2) (right_anyB hM.2) HP.out.1 (HT.out.on HP.out.2.1) (Nat.le_trans hBw HP.out.size) HBR.out hlen)
   rw [← hTX] at HC
   clear hM ho hlen h2 hTX HRU HFbefore hm
   go_enter Tryz.func28, Tryz.ntmps28
   go_wp2_with fail
   generalize w.alloc (.cells #[.int .i64 x.kind, .string x.name, .int .i64 x.number, .bool x.cut, .int .i64 x.before.kind, .string x.before.name, .int .i64 x.before.low, .int .i64 x.before.high, .slice Ab nb cb, .int .i64 x.after.kind, .string x.after.name, .int .i64 x.after.low, .int .i64 x.after.high, .slice Aa na ca, .int .i64 x.pos] 35) = W2 at *
   refine HC.out.mono ?_
   rintro e w3 hp
   have HPn := Lib.hid (HP.out.put hp)
   have hkp := hp.2.2.2
   have HBRn := Lib.hid (HBR.out.trans hp.2.2.1)
   obtain ⟨rfl, q1, q2, q3⟩ := hp
   clear HP HC q1 q2 q3
   have HP := HPn
   clear HPn
   have HROWn := Lib.hid (hkp.2 _ _ HROW.out rfl)
   clear HROW
   have HROW := HROWn
   clear HROWn
   obtain ⟨r0, r1, r2, r3, r4, r5, r6, r7, r8, r9, r10, r11, r12, r13, r14⟩ := cells15 HROW.out
   clear hkp HBR
   have HBR := HBRn
   clear HBRn
   have HE := Lib.hid (HP.out.out (L := L) (M := TX) rfl)
   clear HP
   go_wp2_with fail
   exact bodyPost_ret (v := .tuple #[]) (by simp [results, Tryz.results28, go_sem]) rfl HE.out
  ·rw [if_neg h2] at hM hTX hlen
   have k2 : (x.kind == 2) = false := by rw [beqd]; exact decide_eq_false (by omega)
   clear h2
   by_cases h3 : x.kind = 3
   ·rw [if_pos h3] at hM
    have k3 : (x.kind == 3) = true := by rw [beqd]; exact decide_eq_true (by omega)
    replace hM := hM.symm
    rw [Bool.and_eq_true, Bool.and_eq_true, Bool.and_eq_true, Bool.and_eq_true] at hM
    have ho : x.number = -1 ∨ 0 ≤ x.number ∧ x.number ≤ 999999 := by
     have h1 := hM.1.1.1.2
     unfold K.numOk at h1
     rw [Bool.or_eq_true, Bool.and_eq_true, decide_eq_true_eq, decide_eq_true_eq, beqd, decide_eq_true_eq] at h1
     exact h1
    have HLN := Lib.hid hlen
    have HTX := Lib.hid hTX
    have HNL := Lib.hid (K.numsOf_len x.name)
    have hal : K.allowT = [35, 97, 108, 108, 111, 119, 32] := rfl
    rw [hal] at HLN HTX
    clear hM hTX hlen h3 HRU HFbefore hm hal
    have HC := Lib.hid (wtext_any HP.out.1 ⟨#[35, 97, 108, 108, 111, 119, 32]⟩ (by have := HLN.out; simp only [List.length_append, List.length_cons, List.length_nil] at this ⊢; show _ + 7 ≤ _; omega) (Nat.le_trans hBw HP.out.size))
    go_enter Tryz.func28, Tryz.ntmps28
    go_wp2_with fail
    generalize w.alloc (.cells #[.int .i64 x.kind, .string x.name, .int .i64 x.number, .bool x.cut, .int .i64 x.before.kind, .string x.before.name, .int .i64 x.before.low, .int .i64 x.before.high, .slice Ab nb cb, .int .i64 x.after.kind, .string x.after.name, .int .i64 x.after.low, .int .i64 x.after.high, .slice Aa na ca, .int .i64 x.pos] 35) = W2 at *
    refine HC.out.mono ?_
    rintro e W3 hp
    have HPn := Lib.hid (HP.out.put hp)
    have hkp := hp.2.2.2
    have HBRn := Lib.hid (HBR.out.trans hp.2.2.1)
    obtain ⟨rfl, q1, q2, q3⟩ := hp
    clear HP HC q1 q2 q3
    have HP := HPn
    clear HPn
    have HROWn := Lib.hid (hkp.2 _ _ HROW.out rfl)
    clear HROW
    have HROW := HROWn
    clear HROWn
    obtain ⟨r0, r1, r2, r3, r4, r5, r6, r7, r8, r9, r10, r11, r12, r13, r14⟩ := cells15 HROW.out
    clear hkp HBR
    have HBR := HBRn
    clear HBRn
    rw [show numsOf ⟨#[35, 97, 108, 108, 111, 119, 32]⟩ = [35, 97, 108, 108, 111, 119, 32] from rfl] at HP
    go_wp2_with fail
    have HK0 : Hid (W3.drew.cell? ⟨w.heap.size, 1, none⟩ = some (.string x.name)) := (cells15 HROW.out).2.1
    have HWS : Hid (Calls _ _ _ W3.drew _) := wtext_any (w := W3.drew) (B := B) (b := b) (L := L ++ [35, 97, 108, 108, 111, 119, 32]) HP.out.1 x.name (by have := HLN.out; have h2 := HNL.out; simp only [List.length_append, List.length_cons, List.length_nil] at this ⊢; omega) (Nat.le_trans hBw HP.out.size)
    go_region_held_law (fun w' => w'.cell? ⟨w.heap.size, 1, none⟩ = some (.string x.name)) (first | exact HK0.out | exact HK1.out) ((go_at_call 52; refine HWS.out.mono ?_; rintro e w5 hp; have HPX := Lib.hid hp; have HK1 := Lib.hid (cells15 (hp.2.2.2.2 _ _ (show W3.drew.heap[w.heap.size]? = _ from HROW.out) rfl)).2.1; obtain ⟨rfl, q1, q2, q3⟩ := hp; clear q1 q2 q3))
    have hp := HPX.out
    have HPn := Lib.hid (HP.out.drew.put hp)
    have HROWn := Lib.hid (hp.2.2.2.2 _ _ (show W3.drew.heap[w.heap.size]? = _ from HROW.out) rfl)
    have HBRn : Hid (Below B w w5) := (HBR.out.trans (kbelow_drewN (Below.refl _ _) 1)).trans hp.2.2.1
    clear HP HROW HBR HPX hp HK0 HK1 HWS
    have HP := HPn
    have HROW := HROWn
    have HBR := HBRn
    clear HPn HROWn HBRn
    obtain ⟨r0, r1, r2, r3, r4, r5, r6, r7, r8, r9, r10, r11, r12, r13, r14⟩ := cells15 HROW.out
    by_cases hn : x.number = -1
    ·have g1 : (x.number != -1) = false := by simpa using hn
     rw [if_pos hn] at HTX
     have HE := Lib.hid (HP.out.out (L := L) (M := TX) (by rw [HTX.out]; simp))
     clear HP hn ho
     go_wp2_with fail
     exact bodyPost_ret (v := .tuple #[]) (by simp [results, Tryz.results28, go_sem]) rfl HE.out
    ·have g1 : (x.number != -1) = true := by rw [bne_iff_ne]; exact hn
     rw [if_neg hn] at HTX HLN
     obtain ⟨hn0, hn1⟩ := ho.resolve_left hn
     have HNN : Hid (numsOf (strOfNums (numT x.number)) = numT x.number) := K.numsOf_strOf (numT_byt _)
     have HNS : Hid ((strOfNums (numT x.number)).size = (numT x.number).length) := strOfNums_size _
     have HC := Lib.hid (wbyte_any HP.out.1 32 (by have := HLN.out; simp only [List.length_append, List.length_cons, List.length_nil] at this ⊢; omega) (Nat.le_trans hBw HP.out.size))
     clear hn ho
     go_wp2_with fail
     refine HC.out.mono ?_
     rintro e W2 hp
     have HPn := Lib.hid (HP.out.put hp)
     have hkp := hp.2.2.2
     have HBRn := Lib.hid (HBR.out.trans hp.2.2.1)
     obtain ⟨rfl, q1, q2, q3⟩ := hp
     clear HP HC q1 q2 q3
     have HP := HPn
     clear HPn
     have HROWn := Lib.hid (hkp.2 _ _ HROW.out rfl)
     clear HROW
     have HROW := HROWn
     clear HROWn
     obtain ⟨r0, r1, r2, r3, r4, r5, r6, r7, r8, r9, r10, r11, r12, r13, r14⟩ := cells15 HROW.out
     clear hkp HBR
     have HBR := HBRn
     clear HBRn
     go_wp2_with fail
     have HNU : Hid (Calls Tryz.prog 65 #[.int .i64 x.number] W2.drew _) := number_any ((HT.out.on ((HP.out.2.1).trans (kbelow_drewN (Below.refl _ _) 1))) _ (Below.refl _ _)).2 hn0 hn1
     have HK0 : Hid (W2.drew.cell? ⟨w.heap.size, 2, none⟩ = some (.int .i64 x.number)) := (cells15 HROW.out).2.2.1
     have hlx : w.heap.size < W2.heap.size := (Array.getElem?_eq_some_iff.1 HROW.out).1
     go_region_held_law (fun w' => w'.cell? ⟨w.heap.size, 2, none⟩ = some (.int .i64 x.number)) (first | exact HK0.out | exact HK1.out | exact HK2.out) (first | (go_at_call 65; refine HNU.out.mono ?_; rintro e w5 ⟨rfl, hb5⟩; have HP5 := Lib.hid (HP.out.drew.below (Nat.le_trans hBw HP.out.size) hb5); have HROW5 := Lib.hid ((hb5.block w.heap.size hlx).trans (show W2.drew.heap[w.heap.size]? = _ from HROW.out)); have HBR5 : Hid (Below B w w5) := HBR.out.trans ((kbelow_drewN (Below.refl _ _) 1).trans (hb5.mono (Nat.le_trans hBw HP.out.size))); have HK1 := Lib.hid (cells15 HROW5.out).2.2.1; clear hb5) | (go_at_call 52; refine (wtext_any HP5.out.1 (strOfNums (numT x.number)) (by rw [HNS.out]; have := HLN.out; simp only [List.length_append, List.length_cons, List.length_nil] at this ⊢; omega) (Nat.le_trans hBw HP5.out.size)).mono ?_; rintro e w6 hp; have HPX := Lib.hid hp; have HK2 := Lib.hid (cells15 (hp.2.2.2.2 _ _ HROW5.out rfl)).2.2.1; obtain ⟨rfl, q1, q2, q3⟩ := hp; clear q1 q2 q3))
     have hp := HPX.out
     have HPn := Lib.hid (HP5.out.put hp)
     have HROWn := Lib.hid (hp.2.2.2.2 _ _ HROW5.out rfl)
     have HBRn := Lib.hid (HBR5.out.trans hp.2.2.1)
     clear HP HROW HBR HPX hp HK0 HK1 HK2 HNU HP5 HROW5 HBR5
     have HP := HPn
     have HROW := HROWn
     have HBR := HBRn
     clear HPn HROWn HBRn
     rw [HNN.out] at HP
     obtain ⟨r0, r1, r2, r3, r4, r5, r6, r7, r8, r9, r10, r11, r12, r13, r14⟩ := cells15 HROW.out
     have HE := Lib.hid (HP.out.out (L := L) (M := TX) (by rw [HTX.out]; simp))
     clear HP
     go_wp2_with fail
     exact bodyPost_ret (v := .tuple #[]) (by simp [results, Tryz.results28, go_sem]) rfl HE.out
   ·rw [if_neg h3] at hM; cases hM
end Go.Proofs.YtmohefgdpddldaaGreatDoor
namespace Go.Proofs.YtmohefgdpddldaaGreatDoor
open Go.RowKit
open Y (Nd It noName)
open K (numsOf threeB twoB behindT betweenT brkB rngT txt kidsT partT anyB decT fracL numT lineT itemsT rightB noneB numOk mayB nameB)

theorem itemsT_len : ∀ (l : List It), l.all mayB = true → (itemsT l).length ≤ 30101 * l.length
 | [], _ => by simp [K.itemsT]
 | x :: t, h => by
  rw [List.all_cons, Bool.and_eq_true] at h
  have h1 := (line_ok h.1).2
  have h2 := itemsT_len t h.2
  show (lineT x ++ [10] ++ itemsT t).length ≤ _
  simp only [List.length_append, List.length_cons, List.length_nil]
  omega
theorem itemsT_byt : ∀ (l : List It), l.all mayB = true → BytL (itemsT l)
 | [], _ => fun x hx => by simp [K.itemsT] at hx
 | x :: t, h => by
  rw [List.all_cons, Bool.and_eq_true] at h
  show BytL (lineT x ++ [10] ++ itemsT t)
  exact bytL_app (bytL_app (line_ok h.1).1 (bytL_of (by decide))) (itemsT_byt t h.2)
theorem itemsT_next {l : List It} {j : Nat} {x : It} (h : l[j]? = some x) : itemsT (l.take (j + 1)) = itemsT (l.take j) ++ lineT x ++ [10] := by
 rw [List.take_add_one, h, K.itemsT_app]
 simp [K.itemsT]
theorem all_take {l : List It} (h : l.all mayB = true) (j : Nat) : (l.take j).all mayB = true := List.all_eq_true.2 fun x hx => List.all_eq_true.1 h x (List.mem_of_mem_take hx)
theorem TbB.up {w w2 : World} (h : TbB w.heap.size w) (hb : Below w.heap.size w w2) : TbB w2.heap.size w2 := fun w' k => h w' (hb.trans (k.mono hb.size))
/-- A text and an error are handed back. -/
def TxtQ (B : Nat) (r : List Int × Int) (w : World) (e : Ending) (w' : World) : Prop := e = .returned (.tuple #[.string (strOfNums r.1), .int .i64 r.2]) ∧ Below B w w'
set_option maxHeartbeats 2000000 in
theorem ptext_any {B b : Nat} {L : List Int} {w : World} (h : Pn w B b L) (hL : BytL L) (hBw : B ≤ w.heap.size) (hl : L.length ≤ 1000000000) :
  Calls Tryz.prog 25 #[.pointer (some ⟨b, 0, none⟩)] w (TxtQ B (K.longR L) w) := by
 have HLN := Lib.hid (plen_any h)
 have HST := Lib.hid (pstr_any h hL hBw)
 have HB : Hid (Below B w w) := Below.refl _ _
 clear h
 by_cases h3 : L.length ≤ 3000
 ·have HF : Hid (K.longR L = (L, 0)) := by show _ = _; unfold K.longR; rw [if_pos h3]
  have g1 : ¬ (3000 : Int) < (L.length : Int) := by omega
  clear h3 hL
  go_enter Tryz.func25, Tryz.ntmps25
  go_wp2_with fail
  refine HLN.out.mono ?_
  rintro e w2 ⟨rfl, rfl⟩
  go_wp2_with fail
  refine HST.out.mono ?_
  rintro e w3 ⟨rfl, hb⟩
  have HE : Hid (TxtQ B (K.longR L) w (.returned (.tuple #[.string (strOfNums L), .int .i64 0])) w3) := ⟨by rw [HF.out], hb⟩
  clear hb HST HLN
  go_wp2_with fail
  go_ret2
  exact HE.out
 ·have HF : Hid (K.longR L = ([], 2)) := by show _ = _; unfold K.longR; rw [if_neg h3]
  have g1 : (3000 : Int) < (L.length : Int) := by omega
  have HE : Hid (TxtQ B (K.longR L) w (.returned (.tuple #[.string ⟨#[]⟩, .int .i64 2])) w) := ⟨by rw [HF.out]; rfl, HB.out⟩
  clear h3 hL HST
  go_enter Tryz.func25, Tryz.ntmps25
  go_wp2_with fail
  refine HLN.out.mono ?_
  rintro e w2 ⟨rfl, rfl⟩
  go_wp2_with fail
  go_ret2
  exact HE.out
set_option maxHeartbeats 4000000 in
theorem iform_any {x : Nd} {w : World} {A : Option Addr} {n c : Nat} (ha : RdN w (Lt w) A n c x.kids) (hT : TbB w.heap.size w) :
  Calls Tryz.prog 10 #[.agg #[.int .i64 x.kind, .string x.name, .int .i64 x.low, .int .i64 x.high, .slice A n c]] w (TxtQ w.heap.size (K.formR x) w) := by
 have HP := Lib.hid (kbelow_push w (.cells #[.int .i64 x.kind, .string x.name, .int .i64 x.low, .int .i64 x.high, .slice A n c] 24))
 have HROW := Lib.hid (heap_alloc_new w (.cells #[.int .i64 x.kind, .string x.name, .int .i64 x.low, .int .i64 x.high, .slice A n c] 24))
 have hz : (w.alloc (.cells #[.int .i64 x.kind, .string x.name, .int .i64 x.low, .int .i64 x.high, .slice A n c] 24)).heap.size = w.heap.size + 1 := by simp
 have HRI := Lib.hid (right_any (ha.on HP.out))
 have HA := Lib.hid ha
 have HT := Lib.hid hT
 clear ha hT
 cases hr : rightB x with
 | false =>
  rw [hr] at HRI
  have HF : Hid (K.formR x = ([], 1)) := by show _ = _; unfold K.formR; rw [if_neg (by rw [hr]; decide)]
  clear hr
  go_enter Tryz.func10, Tryz.ntmps10
  go_wp2_with fail
  refine HRI.out.mono ?_
  rintro e w2 ⟨rfl, hb⟩
  have HE : Hid (TxtQ w.heap.size (K.formR x) w (.returned (.tuple #[.string ⟨#[]⟩, .int .i64 1])) w2) := ⟨by rw [HF.out]; rfl, HP.out.trans (hb.mono HP.out.size)⟩
  clear hb
  go_wp2_with fail
  go_ret2
  exact HE.out
 | true =>
  rw [hr] at HRI
  have HF : Hid (K.formR x = K.longR (txt x)) := by show _ = _; unfold K.formR; rw [if_pos hr]
  have HAN := Lib.hid (right_anyB hr)
  have htl := right_len hr
  have HBY := Lib.hid (txt_byt _ _ (Nat.le_refl _) (right_anyB hr))
  clear hr
  go_enter Tryz.func10, Tryz.ntmps10
  go_wp2_with fail
  refine HRI.out.mono ?_
  rintro e w2 ⟨rfl, hb⟩
  have HB2 := Lib.hid (HP.out.trans (hb.mono HP.out.size))
  have HROW2 := Lib.hid ((hb.block w.heap.size (by omega)).trans HROW.out)
  have hz2 := hb.size
  obtain ⟨r0, r1, r2, r3, r4⟩ := cells5 HROW2.out
  have HP3 := Lib.hid (pn_fresh w2)
  have HB3 := Lib.hid (kbelow_push w2 (.cells #[.pointer none, .slice none 0 0] 53))
  have HA3 : Hid (RdN (w2.alloc (.cells #[.pointer none, .slice none 0 0] 53)) (· < w2.heap.size) A n c x.kids) := (HA.out.on HB2.out).keep (fun _ h => h) (fun p hp => HB3.out.cell (p := p) hp)
  have HT3 : Hid (TbB w2.heap.size (w2.alloc (.cells #[.pointer none, .slice none 0 0] 53))) := (HT.out.up HB2.out).on HB3.out
  have HC := Lib.hid (pform_any HAN.out HP3.out HT3.out (by simp) HA3.out (by simp; omega))
  have HPB : Hid (Pen w2.heap.size w2.heap.size [] (w2.alloc (.cells #[.pointer none, .slice none 0 0] 53)) (w2.alloc (.cells #[.pointer none, .slice none 0 0] 53))) := Pen.refl HP3.out
  have hz3 : (w2.alloc (.cells #[.pointer none, .slice none 0 0] 53)).heap.size = w2.heap.size + 1 := by simp
  have hlt : w.heap.size < w2.heap.size := by omega
  clear hb HP HROW HRI HA HT HA3 HT3 HP3 hz hz2
  go_wp2_with fail
  generalize w2.alloc (.cells #[.pointer none, .slice none 0 0] 53) = W3 at *
  refine HC.out.mono ?_
  rintro e w4 hp
  have HP4 := Lib.hid (HPB.out.put hp)
  obtain ⟨rfl, q1, q2, q3⟩ := hp
  have hs4 := HP4.out.size
  have HTX := Lib.hid (ptext_any HP4.out.1 (by rw [List.nil_append]; exact HBY.out) (by omega) (by simp; omega))
  rw [List.nil_append] at HTX
  clear q1 q2 q3 HC HPB
  go_wp2_with fail
  refine HTX.out.mono ?_
  rintro e w5 ⟨rfl, hb5⟩
  have HE : Hid (TxtQ w.heap.size (K.formR x) w (.returned (.tuple #[.string (strOfNums (K.longR (txt x)).1), .int .i64 (K.longR (txt x)).2])) w5) := ⟨by rw [HF.out], HB2.out.trans ((HB3.out.trans (HP4.out.2.1.trans hb5)).mono HB2.out.size)⟩
  clear hb5 HTX HP4 HF
  generalize K.longR (txt x) = rr at *
  go_wp2_with fail
  go_ret2
  exact HE.out
end Go.Proofs.YtmohefgdpddldaaGreatDoor
namespace Go.Proofs.YtmohefgdpddldaaGreatDoor
open Go.RowKit
open Y (Nd It noName)
open K (numsOf threeB twoB behindT betweenT brkB rngT txt kidsT partT anyB rightB)

/-- A text is handed back. -/
def TxB (w : World) (l : List Int) (e : Ending) (w' : World) : Prop := e = .returned (.string (strOfNums l)) ∧ Below w.heap.size w w'
theorem three7_any (k : Int) (w : World) : Calls Tryz.prog 116 #[.int .i64 k] w fun e w' => e = .returned (.bool (threeB k)) ∧ w = w' := by
 go_enter Tryz.func116, Tryz.ntmps116
 go_wp2
 all_goals
  go_ret
  refine ⟨ret_bool ?_, rfl⟩
  rw [Bool.eq_iff_iff]
  unfold K.threeB
  simp
  try omega
theorem char7_any {c : Int} (h : Q.isC c = true) (w : World) : Calls Tryz.prog 61 #[.int .i64 c] w (TxB w (Q.textB c)) := by
 have hC := rtext_any c w
 have ht : textV c = (Q.textB c, 0) := by unfold textV; rw [if_pos h]
 unfold TextP at hC
 rw [ht] at hC
 have HC := Lib.hid hC
 clear hC ht h
 go_enter Tryz.func61, Tryz.ntmps61
 go_wp2_with fail
 refine HC.out.mono ?_
 rintro e w2 ⟨rfl, hb⟩
 have HB := Lib.hid hb
 clear hb HC
 go_wp2_with fail
 go_ret
 exact ⟨rfl, HB.out⟩
theorem brk_str (l : List Int) : (⟨#[40]⟩ : ByteArray) ++ strOfNums l ++ ⟨#[41]⟩ = strOfNums ([40] ++ l ++ [41]) := by
 rw [← str_app2, ← str_app2]; rfl
def TextK (k : Nat) : Prop := ∀ (x : Nd), x.size ≤ k → k ≤ 500 → anyB x = true → ∀ (w : World) (A : Option Addr) (n c : Nat), RdN w (Lt w) A n c x.kids →
 Calls Tryz.prog 26 #[.agg #[.int .i64 x.kind, .string x.name, .int .i64 x.low, .int .i64 x.high, .slice A n c]] w (TxB w (txt x))
theorem txt_few {x : Nd} (h : anyB x = true) (hs : x.size ≤ 500) : (txt x).length ≤ 15000 := by have := K.txt_len x.size x (Nat.le_refl _) h; omega
set_option maxHeartbeats 4000000 in
theorem within_of {k : Nat} (ih : TextK k) (hk5 : k ≤ 500) {x : Nd} (hx : x.size ≤ k) (hany : anyB x = true) (kin : Int) {w : World} {A : Option Addr} {n c : Nat} (ha : RdN w (Lt w) A n c x.kids) :
  Calls Tryz.prog 94 #[.agg #[.int .i64 x.kind, .string x.name, .int .i64 x.low, .int .i64 x.high, .slice A n c], .int .i64 kin] w (TxB w (partT kin x)) := by
 have HP := Lib.hid (kbelow_push w (.cells #[.int .i64 x.kind, .string x.name, .int .i64 x.low, .int .i64 x.high, .slice A n c] 24))
 have HA := Lib.hid (ha.on HP.out)
 have HROW := Lib.hid (heap_alloc_new w (.cells #[.int .i64 x.kind, .string x.name, .int .i64 x.low, .int .i64 x.high, .slice A n c] 24))
 have hz : (w.alloc (.cells #[.int .i64 x.kind, .string x.name, .int .i64 x.low, .int .i64 x.high, .slice A n c] 24)).heap.size = w.heap.size + 1 := by simp
 have hsm := ha.small
 have HB : Hid (Below w.heap.size w (w.alloc (.cells #[.int .i64 x.kind, .string x.name, .int .i64 x.low, .int .i64 x.high, .slice A n c] 24))) := HP.out
 have HC := Lib.hid (ih x hx hk5 hany _ A n c HA.out)
 have hl := txt_few hany (by omega)
 have hsz : (strOfNums (txt x)).size ≤ 15000 := by rw [strOfNums_size]; exact hl
 have a1 : ¬ 9223372036854775807 < 1 + (strOfNums (txt x)).size := by omega
 have a2 : ¬ 9223372036854775807 < 1 + (strOfNums (txt x)).size + 1 := by omega
 have HY : Hid (brkB x.kind kin = true → strOfNums (partT kin x) = ⟨#[40]⟩ ++ strOfNums (txt x) ++ ⟨#[41]⟩) := fun h => by
  rw [brk_str]; unfold K.partT; rw [if_pos h]
 have HN : Hid (brkB x.kind kin = false → strOfNums (partT kin x) = strOfNums (txt x)) := fun h => by
  unfold K.partT; rw [if_neg (by rw [h]; decide)]
 have hbr : brkB x.kind kin = ((x.kind == 9) || (!(kin == 9) && (x.kind == 8)) || (threeB kin && threeB x.kind)) := by
  unfold K.brkB
  by_cases e9 : x.kind = 9
  ·simp [e9]
  ·by_cases e8 : x.kind = 8
   ·by_cases f9 : kin = 9 <;> simp [e9, e8, f9, K.threeB]
   ·have : (x.kind == 9) = false := by simpa using e9
    have h8 : (x.kind == 8) = false := by simpa using e8
    rw [if_neg e9, if_neg e8, this, h8, Bool.and_comm]; simp
 have HBR := Lib.hid hbr
 have H1 := Lib.hid (fun W => three7_any kin W)
 have H2 := Lib.hid (fun W => three7_any x.kind W)
 have HPB : Hid (∀ (l : List Int) (w' : World), strOfNums (partT kin x) = strOfNums l → Below w.heap.size w w' → TxB w (partT kin x) (.returned (.string (strOfNums l))) w') := fun l w' h hb => ⟨by rw [h], hb⟩
 clear ha HA hbr hl
 unfold TxB at HC
 generalize hT : strOfNums (txt x) = TS at *
 have HT := Lib.hid hT
 generalize brkB x.kind kin = br at *
 generalize hq1 : threeB kin = q1 at *
 generalize hq2 : threeB x.kind = q2 at *
 clear hT hq1 hq2
 go_enter Tryz.func94, Tryz.ntmps94
 cases g9 : (x.kind == 9) with
 | true =>
  rw [g9] at HBR
  have HE := Lib.hid (HY.out (by rw [HBR.out]; rfl))
  clear HY HN HBR H1 H2 HPB
  go_wp2_with fail
  refine HC.out.mono ?_
  rintro e w2 ⟨rfl, hb2⟩
  have HB2 := Lib.hid (HB.out.trans (hb2.mono HB.out.size))
  clear hb2 HC
  go_wp2_with fail
  go_ret
  exact ⟨by rw [HE.out] <;> rfl, HB2.out⟩
 | false =>
  rw [g9] at HBR
  cases f9 : (kin == 9) with
  | true =>
   rw [f9] at HBR
   have f9n : (kin != 9) = false := by rw [bne, f9]; rfl
   go_wp2_with fail
   refine (H1.out _).mono ?_
   rintro e w2 ⟨rfl, rfl⟩
   cases q1 with
   | false =>
    have HE := Lib.hid (HN.out (by rw [HBR.out]; rfl))
    clear HY HN HBR H1 H2 HPB
    go_wp2_with fail
    refine HC.out.mono ?_
    rintro e w2 ⟨rfl, hb2⟩
    have HB2 := Lib.hid (HB.out.trans (hb2.mono HB.out.size))
    clear hb2 HC
    go_wp2_with fail
    go_ret
    exact ⟨by rw [HE.out] <;> rfl, HB2.out⟩
   | true =>
    go_wp2_with fail
    refine (H2.out _).mono ?_
    rintro e w2 ⟨rfl, rfl⟩
    cases q2 with
    | false =>
     have HE := Lib.hid (HN.out (by rw [HBR.out]; rfl))
     clear HY HN HBR H1 H2 HPB
     go_wp2_with fail
     refine HC.out.mono ?_
     rintro e w2 ⟨rfl, hb2⟩
     have HB2 := Lib.hid (HB.out.trans (hb2.mono HB.out.size))
     clear hb2 HC
     go_wp2_with fail
     go_ret
     exact ⟨by rw [HE.out] <;> rfl, HB2.out⟩
    | true =>
     have HE := Lib.hid (HY.out (by rw [HBR.out]; rfl))
     clear HY HN HBR H1 H2 HPB
     go_wp2_with fail
     refine HC.out.mono ?_
     rintro e w2 ⟨rfl, hb2⟩
     have HB2 := Lib.hid (HB.out.trans (hb2.mono HB.out.size))
     clear hb2 HC
     go_wp2_with fail
     go_ret
     exact ⟨by rw [HE.out] <;> rfl, HB2.out⟩
  | false =>
   rw [f9] at HBR
   have f9n : (kin != 9) = true := by rw [bne, f9]; rfl
   cases g8 : (x.kind == 8) with
   | true =>
    rw [g8] at HBR
    have HE := Lib.hid (HY.out (by rw [HBR.out]; rfl))
    clear HY HN HBR H1 H2 HPB
    go_wp2_with fail
    refine HC.out.mono ?_
    rintro e w2 ⟨rfl, hb2⟩
    have HB2 := Lib.hid (HB.out.trans (hb2.mono HB.out.size))
    clear hb2 HC
    go_wp2_with fail
    go_ret
    exact ⟨by rw [HE.out] <;> rfl, HB2.out⟩
   | false =>
    rw [g8] at HBR
    go_wp2_with fail
    refine (H1.out _).mono ?_
    rintro e w2 ⟨rfl, rfl⟩
    cases q1 with
    | false =>
     have HE := Lib.hid (HN.out (by rw [HBR.out]; rfl))
     clear HY HN HBR H1 H2 HPB
     go_wp2_with fail
     refine HC.out.mono ?_
     rintro e w2 ⟨rfl, hb2⟩
     have HB2 := Lib.hid (HB.out.trans (hb2.mono HB.out.size))
     clear hb2 HC
     go_wp2_with fail
     go_ret
     exact ⟨by rw [HE.out] <;> rfl, HB2.out⟩
    | true =>
     go_wp2_with fail
     refine (H2.out _).mono ?_
     rintro e w2 ⟨rfl, rfl⟩
     cases q2 with
     | false =>
      have HE := Lib.hid (HN.out (by rw [HBR.out]; rfl))
      clear HY HN HBR H1 H2 HPB
      go_wp2_with fail
      refine HC.out.mono ?_
      rintro e w2 ⟨rfl, hb2⟩
      have HB2 := Lib.hid (HB.out.trans (hb2.mono HB.out.size))
      clear hb2 HC
      go_wp2_with fail
      go_ret
      exact ⟨by rw [HE.out] <;> rfl, HB2.out⟩
     | true =>
      have HE := Lib.hid (HY.out (by rw [HBR.out]; rfl))
      clear HY HN HBR H1 H2 HPB
      go_wp2_with fail
      refine HC.out.mono ?_
      rintro e w2 ⟨rfl, hb2⟩
      have HB2 := Lib.hid (HB.out.trans (hb2.mono HB.out.size))
      clear hb2 HC
      go_wp2_with fail
      go_ret
      exact ⟨by rw [HE.out] <;> rfl, HB2.out⟩
theorem any_kid {x y : Nd} (h : anyB x = true) (hy : y ∈ x.kids) : anyB y = true := (K.any_kids h).1 y hy
theorem kids_next {k : Int} {l : List Nd} {j : Nat} {y : Nd} (h : l[j]? = some y) : kidsT k true (l.take (j + 1)) = kidsT k true (l.take j) ++ (if j = 0 then [] else betweenT k) ++ partT k y := by
 have hj := (List.getElem?_eq_some_iff.1 h).1
 rw [List.take_add_one, h, Option.toList_some, K.kidsT_snoc]
 congr 2
 by_cases h0 : j = 0
 ·subst h0; rw [if_pos ⟨rfl, List.take_zero⟩, if_pos rfl]
 ·rw [if_neg h0, if_neg]
  rintro ⟨_, h2⟩
  have : (l.take j).length = j := by rw [List.length_take]; omega
  rw [h2] at this; exact h0 this.symm
theorem kids_few {x : Nd} (h : anyB x = true) (hs : x.size ≤ 501) (k : Int) (j : Nat) : (kidsT k true (x.kids.take j)).length ≤ 15100 := by
 have h1 := K.kidsT_len k (x.kids.take j) true fun y hy => K.txt_len y.size y (Nat.le_refl _) (any_kid h (List.mem_of_mem_take hy))
 have h2 : Y.sizeL (x.kids.take j) ≤ Y.sizeL x.kids := by
  have := Y.sizeL_app (x.kids.take j) (x.kids.drop j)
  rw [List.take_append_drop] at this; omega
 have h3 := K.size_eq x
 omega
set_option maxHeartbeats 8000000 in
theorem list7_of {k : Nat} (ih : TextK k) (hk5 : k ≤ 500) {x : Nd} (hx : Y.sizeL x.kids ≤ k) (hany : anyB x = true) (bt : ByteArray) (hbt : x.kids.length ≤ 1 ∨ bt = strOfNums (betweenT x.kind)) (hbz : bt.size ≤ 3) {w : World} {A : Option Addr} {n c : Nat} (ha : RdN w (Lt w) A n c x.kids) :
  Calls Tryz.prog 60 #[.agg #[.int .i64 x.kind, .string x.name, .int .i64 x.low, .int .i64 x.high, .slice A n c], .string bt] w (TxB w (kidsT x.kind true x.kids)) := by
 have HP := Lib.hid (kbelow_push w (.cells #[.int .i64 x.kind, .string x.name, .int .i64 x.low, .int .i64 x.high, .slice A n c] 24))
 have HA := Lib.hid (ha.on HP.out)
 have HROW := Lib.hid (heap_alloc_new w (.cells #[.int .i64 x.kind, .string x.name, .int .i64 x.low, .int .i64 x.high, .slice A n c] 24))
 have hz : (w.alloc (.cells #[.int .i64 x.kind, .string x.name, .int .i64 x.low, .int .i64 x.high, .slice A n c] 24)).heap.size = w.heap.size + 1 := by simp
 have hsm := ha.small
 have HB : Hid (Below w.heap.size w (w.alloc (.cells #[.int .i64 x.kind, .string x.name, .int .i64 x.low, .int .i64 x.high, .slice A n c] 24))) := HP.out
 have hn := ha.len
 have HLN := Lib.hid hn
 have HFW := Lib.hid (fun j => kids_few hany (by have := K.size_eq x; omega) x.kind j)
 have HBT := Lib.hid hbt
 have HANY := Lib.hid hany
 have HIH : Hid (∀ (W : World) (y : Nd) (A' : Option Addr) (n' c' : Nat), y ∈ x.kids → RdN W (Lt W) A' n' c' y.kids → Calls Tryz.prog 94 #[.agg #[.int .i64 y.kind, .string y.name, .int .i64 y.low, .int .i64 y.high, .slice A' n' c'], .int .i64 x.kind] W (TxB W (partT x.kind y))) := fun W y A' n' c' hy h => within_of ih hk5 (by have := K.size_in hy; omega) (any_kid hany hy) x.kind h
 clear ha hn hbt hany hx ih
 go_enter Tryz.func60, Tryz.ntmps60
 go_wp2_with fail
 generalize w.alloc (.cells #[.int .i64 x.kind, .string x.name, .int .i64 x.low, .int .i64 x.high, .slice A n c] 24) = W1 at *
 go_loopw [5, 6] (fun sv iv wx => ∃ (j : Nat) (S : ByteArray), j ≤ n ∧ iv = .int .i64 j ∧ sv = .string S ∧ S.size ≤ 15100 ∧ Hid (S = strOfNums (kidsT x.kind true (x.kids.take j))) ∧ Hid (Below W1.heap.size W1 wx)) (fun _ iv _ => n - (intOf iv).toNat)
 case atStart => exact ⟨0, ⟨#[]⟩, by omega, rfl, rfl, by decide, (by show _ = _; rw [List.take_zero, K.kidsT]; rfl), Below.refl _ _⟩
 case round =>
  obtain ⟨j, S, hj, rfl, rfl, hS, HS, HBL⟩ := hrel
  obtain ⟨r0, r1, r2, r3, r4⟩ := cells5 ((HBL.out.block w.heap.size (by omega)).trans HROW.out)
  have HA3 := Lib.hid (HA.out.on HBL.out)
  by_cases hlt : j < n
  ·obtain ⟨b1, o1, y, A1, n1, c1, hA1, hb1, hy, hr1, s0, s1, s2, s3, s4⟩ := HA3.out.got hlt
   subst hA1
   have HBD : Hid (Below wr.heap.size wr wr.drew) := kbelow_drewN (Below.refl _ _) 1
   have HC := Lib.hid (HIH.out wr.drew y A1 n1 c1 (List.mem_of_getElem? hy) (hr1.on HBD.out))
   have hb1' : b1 < wr.heap.size := hb1
   have hN : w.heap.size < wr.drew.heap.size := by have := HBL.out.size; show w.heap.size < wr.heap.size; omega
   have HK0 : Hid (AllHeld w.heap.size b1 (o1 + j * 5) x y (some ⟨b1, o1, none⟩) n c A1 n1 c1 wr.drew) := ⟨r0, r4, s0, s1, s2, s3, s4⟩
   have hnx := kids_next (k := x.kind) hy
   have hf := HFW.out (j + 1)
   rw [hnx] at hf
   have hpl : (partT x.kind y).length ≤ 15100 := by simp only [List.length_append] at hf; omega
   have HNX := Lib.hid hnx
   have hpz : (strOfNums (partT x.kind y)).size = (partT x.kind y).length := strOfNums_size _
   have HF3 := Lib.hid hf
   have hj0 : (0 : Int) ≤ (j : Int) := by omega
   have hj1 : (j : Int) < (n : Int) := by omega
   have hlj : (x.kids.take j).length = j := by rw [List.length_take, HLN.out]; omega
   have HSZ : Hid (S.size = (kidsT x.kind true (x.kids.take j)).length) := by show _ = _; rw [HS.out, strOfNums_size]
   clear hy hr1 hb1 HA3 hnx hf
   unfold TxB at HC
   by_cases h0 : j = 0
   ·have g0 : ¬ (0 : Int) < (j : Int) := by omega
    have HNEW : Hid (S ++ strOfNums (partT x.kind y) = strOfNums (kidsT x.kind true (x.kids.take (j + 1)))) := by
     show _ = _
     rw [HNX.out, if_pos h0, List.append_nil, ← str_app2, HS.out]
    have hnz : S.size + (strOfNums (partT x.kind y)).size ≤ 15100 := by
     have := HF3.out
     rw [if_pos h0, List.append_nil, List.length_append] at this
     rw [HSZ.out, hpz]; exact this
    have a1 : ¬ 9223372036854775807 < S.size + (strOfNums (partT x.kind y)).size := by omega
    clear HNX HS HSZ HF3 HFW h0 hpz hpl hlj
    generalize strOfNums (partT x.kind y) = PT at *
    go_wp2_with fail
    go_region_held_law (fun w' => w'.cell? ⟨w.heap.size, 0, none⟩ = some (.int .i64 x.kind) ∧ w'.cell? ⟨w.heap.size, 4, none⟩ = some (.slice (some ⟨b1, o1, none⟩) n c) ∧ w'.cell? ⟨b1, o1 + j * 5, none⟩ = some (.int .i64 y.kind) ∧ w'.cell? ⟨b1, o1 + j * 5 + 1, none⟩ = some (.string y.name) ∧ w'.cell? ⟨b1, o1 + j * 5 + 2, none⟩ = some (.int .i64 y.low) ∧ w'.cell? ⟨b1, o1 + j * 5 + 3, none⟩ = some (.int .i64 y.high) ∧ w'.cell? ⟨b1, o1 + j * 5 + 4, none⟩ = some (.slice A1 n1 c1)) (first | exact HK0.out | exact HK1.out) ((go_at_call 94; (with_reducible refine HC.out.mono ?_); rintro e w3 ⟨rfl, hb3⟩; have HB3 := Lib.hid (HBL.out.trans ((HBD.out.trans (hb3.mono HBD.out.size)).mono HBL.out.size)); have HK1 := Lib.hid (HK0.out.on hN hb1' hb3); clear hb3)); clear HBL HC HK0 HK1
    go_wp2_with fail
    go_roundw
    case rel => exact ⟨j + 1, S ++ PT, by omega, by go_num, rfl, (by rw [ByteArray.size_append]; exact hnz), HNEW.out, HB3.out⟩
    case measure => simp [intOf]; omega
   ·have g0 : (0 : Int) < (j : Int) := by omega
    have hb2 : bt = strOfNums (betweenT x.kind) := HBT.out.resolve_left (by rw [HLN.out]; omega)
    have hbs : bt.size = (betweenT x.kind).length := by rw [hb2, strOfNums_size]
    have HNEW : Hid (S ++ bt ++ strOfNums (partT x.kind y) = strOfNums (kidsT x.kind true (x.kids.take (j + 1)))) := by
     show _ = _
     rw [HNX.out, if_neg h0, ← str_app2, ← str_app2, HS.out, hb2]
    have hnz : S.size + bt.size + (strOfNums (partT x.kind y)).size ≤ 15100 := by
     have := HF3.out
     rw [if_neg h0, List.length_append, List.length_append] at this
     rw [HSZ.out, hpz, hbs]; exact this
    have a0 : ¬ 9223372036854775807 < S.size + bt.size := by omega
    have a1 : ¬ 9223372036854775807 < S.size + bt.size + (strOfNums (partT x.kind y)).size := by omega
    clear HNX HS HSZ HF3 HFW h0 hpz hpl hlj hb2 hbs
    generalize strOfNums (partT x.kind y) = PT at *
    go_wp2_with fail
    go_region_held_law (fun w' => w'.cell? ⟨w.heap.size, 0, none⟩ = some (.int .i64 x.kind) ∧ w'.cell? ⟨w.heap.size, 4, none⟩ = some (.slice (some ⟨b1, o1, none⟩) n c) ∧ w'.cell? ⟨b1, o1 + j * 5, none⟩ = some (.int .i64 y.kind) ∧ w'.cell? ⟨b1, o1 + j * 5 + 1, none⟩ = some (.string y.name) ∧ w'.cell? ⟨b1, o1 + j * 5 + 2, none⟩ = some (.int .i64 y.low) ∧ w'.cell? ⟨b1, o1 + j * 5 + 3, none⟩ = some (.int .i64 y.high) ∧ w'.cell? ⟨b1, o1 + j * 5 + 4, none⟩ = some (.slice A1 n1 c1)) (first | exact HK0.out | exact HK1.out) ((go_at_call 94; (with_reducible refine HC.out.mono ?_); rintro e w3 ⟨rfl, hb3⟩; have HB3 := Lib.hid (HBL.out.trans ((HBD.out.trans (hb3.mono HBD.out.size)).mono HBL.out.size)); have HK1 := Lib.hid (HK0.out.on hN hb1' hb3); clear hb3)); clear HBL HC HK0 HK1
    go_wp2_with fail
    go_roundw
    case rel => exact ⟨j + 1, S ++ bt ++ PT, by omega, by go_num, rfl, (by rw [ByteArray.size_append, ByteArray.size_append]; exact hnz), HNEW.out, HB3.out⟩
    case measure => simp [intOf]; omega
  ·obtain rfl : j = n := by omega
   have HE : Hid (S = strOfNums (kidsT x.kind true x.kids)) := by
    show _ = _
    rw [HS.out, List.take_of_length_le (by rw [HLN.out]; exact Nat.le_refl _)]
   clear HS HA3 HFW
   go_wp2_with fail
   go_ret
   exact ⟨by rw [HE.out] <;> rfl, HB.out.trans (HBL.out.mono HB.out.size)⟩
end Go.Proofs.YtmohefgdpddldaaGreatDoor
namespace Go.Proofs.YtmohefgdpddldaaGreatDoor
open Go.RowKit
open Y (Nd It noName)
open K (numsOf threeB twoB behindT betweenT brkB rngT txt kidsT partT anyB rightB)

set_option maxHeartbeats 4000000 in
theorem text1 {k : Nat} (ih : TextK k) (hk5 : k + 1 ≤ 500) {x : Nd} (hx : x.size ≤ k + 1) (hany : anyB x = true) (h : x.kind = 1) {w : World} {A : Option Addr} {n c : Nat} (ha : RdN w (Lt w) A n c x.kids) :
  Calls Tryz.prog 26 #[.agg #[.int .i64 x.kind, .string x.name, .int .i64 x.low, .int .i64 x.high, .slice A n c]] w (TxB w (txt x)) := by
 have HP := Lib.hid (kbelow_push w (.cells #[.int .i64 x.kind, .string x.name, .int .i64 x.low, .int .i64 x.high, .slice A n c] 24))
 have HA := Lib.hid (ha.on HP.out)
 have HROW := Lib.hid (heap_alloc_new w (.cells #[.int .i64 x.kind, .string x.name, .int .i64 x.low, .int .i64 x.high, .slice A n c] 24))
 have hz : (w.alloc (.cells #[.int .i64 x.kind, .string x.name, .int .i64 x.low, .int .i64 x.high, .slice A n c] 24)).heap.size = w.heap.size + 1 := by simp
 have hsm := ha.small
 have HB : Hid (Below w.heap.size w (w.alloc (.cells #[.int .i64 x.kind, .string x.name, .int .i64 x.low, .int .i64 x.high, .slice A n c] 24))) := HP.out
 have hF : txt x = [40, 41] := by rw [K.txt_eq]; simp only [h]; rfl
 have HF := Lib.hid hF
 have k1 : (x.kind == 1) = true := by rw [h]; rfl
 have k2 : (x.kind == 2) = false := by rw [h]; rfl
 have k3 : (x.kind == 3) = false := by rw [h]; rfl
 have k4 : (x.kind == 4) = false := by rw [h]; rfl
 have k5 : (x.kind == 5) = false := by rw [h]; rfl
 have k6 : (x.kind == 6) = false := by rw [h]; rfl
 have k7 : (x.kind == 7) = false := by rw [h]; rfl
 have k8 : (x.kind == 8) = false := by rw [h]; rfl
 have k9 : (x.kind == 9) = false := by rw [h]; rfl
 have k10 : (x.kind == 10) = false := by rw [h]; rfl
 have k11 : (x.kind == 11) = false := by rw [h]; rfl
 have k12 : (x.kind == 12) = false := by rw [h]; rfl
 have m2 : (x.kind != 2) = true := by rw [h]; rfl
 have m4 : (x.kind != 4) = true := by rw [h]; rfl
 have m5 : (x.kind != 5) = true := by rw [h]; rfl
 clear ha hF h HA
 go_enter Tryz.func26, Tryz.ntmps26
 go_wp2_with fail
 go_ret
 exact ⟨by rw [HF.out]; rfl, HB.out⟩
set_option maxHeartbeats 4000000 in
theorem text3 {k : Nat} (ih : TextK k) (hk5 : k + 1 ≤ 500) {x : Nd} (hx : x.size ≤ k + 1) (hany : anyB x = true) (h : x.kind = 3) {w : World} {A : Option Addr} {n c : Nat} (ha : RdN w (Lt w) A n c x.kids) :
  Calls Tryz.prog 26 #[.agg #[.int .i64 x.kind, .string x.name, .int .i64 x.low, .int .i64 x.high, .slice A n c]] w (TxB w (txt x)) := by
 have HP := Lib.hid (kbelow_push w (.cells #[.int .i64 x.kind, .string x.name, .int .i64 x.low, .int .i64 x.high, .slice A n c] 24))
 have HA := Lib.hid (ha.on HP.out)
 have HROW := Lib.hid (heap_alloc_new w (.cells #[.int .i64 x.kind, .string x.name, .int .i64 x.low, .int .i64 x.high, .slice A n c] 24))
 have hz : (w.alloc (.cells #[.int .i64 x.kind, .string x.name, .int .i64 x.low, .int .i64 x.high, .slice A n c] 24)).heap.size = w.heap.size + 1 := by simp
 have hsm := ha.small
 have HB : Hid (Below w.heap.size w (w.alloc (.cells #[.int .i64 x.kind, .string x.name, .int .i64 x.low, .int .i64 x.high, .slice A n c] 24))) := HP.out
 have hF : txt x = [46] := by rw [K.txt_eq]; simp only [h]; rfl
 have HF := Lib.hid hF
 have k1 : (x.kind == 1) = false := by rw [h]; rfl
 have k2 : (x.kind == 2) = false := by rw [h]; rfl
 have k3 : (x.kind == 3) = true := by rw [h]; rfl
 have k4 : (x.kind == 4) = false := by rw [h]; rfl
 have k5 : (x.kind == 5) = false := by rw [h]; rfl
 have k6 : (x.kind == 6) = false := by rw [h]; rfl
 have k7 : (x.kind == 7) = false := by rw [h]; rfl
 have k8 : (x.kind == 8) = false := by rw [h]; rfl
 have k9 : (x.kind == 9) = false := by rw [h]; rfl
 have k10 : (x.kind == 10) = false := by rw [h]; rfl
 have k11 : (x.kind == 11) = false := by rw [h]; rfl
 have k12 : (x.kind == 12) = false := by rw [h]; rfl
 have m2 : (x.kind != 2) = true := by rw [h]; rfl
 have m4 : (x.kind != 4) = true := by rw [h]; rfl
 have m5 : (x.kind != 5) = true := by rw [h]; rfl
 clear ha hF h HA
 go_enter Tryz.func26, Tryz.ntmps26
 go_wp2_with fail
 go_ret
 exact ⟨by rw [HF.out]; rfl, HB.out⟩
set_option maxHeartbeats 4000000 in
theorem text2 {k : Nat} (ih : TextK k) (hk5 : k + 1 ≤ 500) {x : Nd} (hx : x.size ≤ k + 1) (hany : anyB x = true) (h : x.kind = 2) {w : World} {A : Option Addr} {n c : Nat} (ha : RdN w (Lt w) A n c x.kids) :
  Calls Tryz.prog 26 #[.agg #[.int .i64 x.kind, .string x.name, .int .i64 x.low, .int .i64 x.high, .slice A n c]] w (TxB w (txt x)) := by
 have HP := Lib.hid (kbelow_push w (.cells #[.int .i64 x.kind, .string x.name, .int .i64 x.low, .int .i64 x.high, .slice A n c] 24))
 have HA := Lib.hid (ha.on HP.out)
 have HROW := Lib.hid (heap_alloc_new w (.cells #[.int .i64 x.kind, .string x.name, .int .i64 x.low, .int .i64 x.high, .slice A n c] 24))
 have hz : (w.alloc (.cells #[.int .i64 x.kind, .string x.name, .int .i64 x.low, .int .i64 x.high, .slice A n c] 24)).heap.size = w.heap.size + 1 := by simp
 have hsm := ha.small
 have HB : Hid (Below w.heap.size w (w.alloc (.cells #[.int .i64 x.kind, .string x.name, .int .i64 x.low, .int .i64 x.high, .slice A n c] 24))) := HP.out
 have hF : txt x = 36 :: numsOf x.name := by rw [K.txt_eq]; simp only [h]; rfl
 have hnm : x.name.size ≤ 16 := (K.any_kids hany).2 h
 have a1 : ¬ 9223372036854775807 < 1 + x.name.size := by omega
 have HF : Hid (strOfNums (txt x) = ⟨#[36]⟩ ++ x.name) := by
  show _ = _
  rw [hF]
  conv => rhs; rw [← K.strOf_numsOf x.name]
  rw [show (⟨#[36]⟩ : ByteArray) = strOfNums [36] from rfl, str_app2]; rfl
 have k1 : (x.kind == 1) = false := by rw [h]; rfl
 have k2 : (x.kind == 2) = true := by rw [h]; rfl
 have k3 : (x.kind == 3) = false := by rw [h]; rfl
 have k4 : (x.kind == 4) = false := by rw [h]; rfl
 have k5 : (x.kind == 5) = false := by rw [h]; rfl
 have k6 : (x.kind == 6) = false := by rw [h]; rfl
 have k7 : (x.kind == 7) = false := by rw [h]; rfl
 have k8 : (x.kind == 8) = false := by rw [h]; rfl
 have k9 : (x.kind == 9) = false := by rw [h]; rfl
 have k10 : (x.kind == 10) = false := by rw [h]; rfl
 have k11 : (x.kind == 11) = false := by rw [h]; rfl
 have k12 : (x.kind == 12) = false := by rw [h]; rfl
 have m2 : (x.kind != 2) = false := by rw [h]; rfl
 have m4 : (x.kind != 4) = true := by rw [h]; rfl
 have m5 : (x.kind != 5) = true := by rw [h]; rfl
 clear ha hF h HA hnm
 go_enter Tryz.func26, Tryz.ntmps26
 go_wp2_with fail
 go_ret
 exact ⟨by rw [HF.out] <;> rfl, HB.out⟩
set_option maxHeartbeats 4000000 in
theorem text8 {k : Nat} (ih : TextK k) (hk5 : k + 1 ≤ 500) {x : Nd} (hx : x.size ≤ k + 1) (hany : anyB x = true) (h : x.kind = 8) {w : World} {A : Option Addr} {n c : Nat} (ha : RdN w (Lt w) A n c x.kids) :
  Calls Tryz.prog 26 #[.agg #[.int .i64 x.kind, .string x.name, .int .i64 x.low, .int .i64 x.high, .slice A n c]] w (TxB w (txt x)) := by
 have HP := Lib.hid (kbelow_push w (.cells #[.int .i64 x.kind, .string x.name, .int .i64 x.low, .int .i64 x.high, .slice A n c] 24))
 have HA := Lib.hid (ha.on HP.out)
 have HROW := Lib.hid (heap_alloc_new w (.cells #[.int .i64 x.kind, .string x.name, .int .i64 x.low, .int .i64 x.high, .slice A n c] 24))
 have hz : (w.alloc (.cells #[.int .i64 x.kind, .string x.name, .int .i64 x.low, .int .i64 x.high, .slice A n c] 24)).heap.size = w.heap.size + 1 := by simp
 have hsm := ha.small
 have HB : Hid (Below w.heap.size w (w.alloc (.cells #[.int .i64 x.kind, .string x.name, .int .i64 x.low, .int .i64 x.high, .slice A n c] 24))) := HP.out
 have hF : txt x = kidsT x.kind true x.kids := by
  rw [K.txt_great (by omega), show behindT x.kind = [] by rw [h]; rfl, List.append_nil]
 have HC : Hid (∀ W, Below w.heap.size w W → Calls Tryz.prog 60 #[.agg #[.int .i64 x.kind, .string x.name, .int .i64 x.low, .int .i64 x.high, .slice A n c], .string ⟨#[32]⟩] W (TxB W (kidsT x.kind true x.kids))) := fun W hb => list7_of ih (by omega) (by have := K.size_eq x; omega) hany ⟨#[32]⟩ (.inr (by rw [h]; rfl)) (by decide) (ha.on hb)
 have hl := kids_few hany (by omega) x.kind x.kids.length
 rw [List.take_length] at hl
 have hsz : (strOfNums (kidsT x.kind true x.kids)).size ≤ 15100 := by rw [strOfNums_size]; exact hl
 have HF : Hid (strOfNums (txt x) = strOfNums (kidsT x.kind true x.kids)) := by
  show _ = _
  rw [hF]
 have k1 : (x.kind == 1) = false := by rw [h]; rfl
 have k2 : (x.kind == 2) = false := by rw [h]; rfl
 have k3 : (x.kind == 3) = false := by rw [h]; rfl
 have k4 : (x.kind == 4) = false := by rw [h]; rfl
 have k5 : (x.kind == 5) = false := by rw [h]; rfl
 have k6 : (x.kind == 6) = false := by rw [h]; rfl
 have k7 : (x.kind == 7) = false := by rw [h]; rfl
 have k8 : (x.kind == 8) = true := by rw [h]; rfl
 have k9 : (x.kind == 9) = false := by rw [h]; rfl
 have k10 : (x.kind == 10) = false := by rw [h]; rfl
 have k11 : (x.kind == 11) = false := by rw [h]; rfl
 have k12 : (x.kind == 12) = false := by rw [h]; rfl
 have m2 : (x.kind != 2) = true := by rw [h]; rfl
 have m4 : (x.kind != 4) = true := by rw [h]; rfl
 have m5 : (x.kind != 5) = true := by rw [h]; rfl

 clear ha hF HA hl
 unfold TxB at HC
 generalize strOfNums (kidsT x.kind true x.kids) = TS at *
 clear h
 go_enter Tryz.func26, Tryz.ntmps26
 go_wp2_with fail
 generalize w.alloc (.cells #[.int .i64 x.kind, .string x.name, .int .i64 x.low, .int .i64 x.high, .slice A n c] 24) = W1 at *
 refine (HC.out _ HB.out).mono ?_
 rintro e w2 ⟨rfl, hb2⟩
 have HB2 := Lib.hid (HB.out.trans (hb2.mono HB.out.size))
 clear hb2 HC
 go_wp2_with fail
 go_ret
 exact ⟨by rw [HF.out] <;> rfl, HB2.out⟩
set_option maxHeartbeats 4000000 in
theorem text9 {k : Nat} (ih : TextK k) (hk5 : k + 1 ≤ 500) {x : Nd} (hx : x.size ≤ k + 1) (hany : anyB x = true) (h : x.kind = 9) {w : World} {A : Option Addr} {n c : Nat} (ha : RdN w (Lt w) A n c x.kids) :
  Calls Tryz.prog 26 #[.agg #[.int .i64 x.kind, .string x.name, .int .i64 x.low, .int .i64 x.high, .slice A n c]] w (TxB w (txt x)) := by
 have HP := Lib.hid (kbelow_push w (.cells #[.int .i64 x.kind, .string x.name, .int .i64 x.low, .int .i64 x.high, .slice A n c] 24))
 have HA := Lib.hid (ha.on HP.out)
 have HROW := Lib.hid (heap_alloc_new w (.cells #[.int .i64 x.kind, .string x.name, .int .i64 x.low, .int .i64 x.high, .slice A n c] 24))
 have hz : (w.alloc (.cells #[.int .i64 x.kind, .string x.name, .int .i64 x.low, .int .i64 x.high, .slice A n c] 24)).heap.size = w.heap.size + 1 := by simp
 have hsm := ha.small
 have HB : Hid (Below w.heap.size w (w.alloc (.cells #[.int .i64 x.kind, .string x.name, .int .i64 x.low, .int .i64 x.high, .slice A n c] 24))) := HP.out
 have hF : txt x = kidsT x.kind true x.kids := by
  rw [K.txt_great (by omega), show behindT x.kind = [] by rw [h]; rfl, List.append_nil]
 have HC : Hid (∀ W, Below w.heap.size w W → Calls Tryz.prog 60 #[.agg #[.int .i64 x.kind, .string x.name, .int .i64 x.low, .int .i64 x.high, .slice A n c], .string ⟨#[32, 124, 32]⟩] W (TxB W (kidsT x.kind true x.kids))) := fun W hb => list7_of ih (by omega) (by have := K.size_eq x; omega) hany ⟨#[32, 124, 32]⟩ (.inr (by rw [h]; rfl)) (by decide) (ha.on hb)
 have hl := kids_few hany (by omega) x.kind x.kids.length
 rw [List.take_length] at hl
 have hsz : (strOfNums (kidsT x.kind true x.kids)).size ≤ 15100 := by rw [strOfNums_size]; exact hl
 have HF : Hid (strOfNums (txt x) = strOfNums (kidsT x.kind true x.kids)) := by
  show _ = _
  rw [hF]
 have k1 : (x.kind == 1) = false := by rw [h]; rfl
 have k2 : (x.kind == 2) = false := by rw [h]; rfl
 have k3 : (x.kind == 3) = false := by rw [h]; rfl
 have k4 : (x.kind == 4) = false := by rw [h]; rfl
 have k5 : (x.kind == 5) = false := by rw [h]; rfl
 have k6 : (x.kind == 6) = false := by rw [h]; rfl
 have k7 : (x.kind == 7) = false := by rw [h]; rfl
 have k8 : (x.kind == 8) = false := by rw [h]; rfl
 have k9 : (x.kind == 9) = true := by rw [h]; rfl
 have k10 : (x.kind == 10) = false := by rw [h]; rfl
 have k11 : (x.kind == 11) = false := by rw [h]; rfl
 have k12 : (x.kind == 12) = false := by rw [h]; rfl
 have m2 : (x.kind != 2) = true := by rw [h]; rfl
 have m4 : (x.kind != 4) = true := by rw [h]; rfl
 have m5 : (x.kind != 5) = true := by rw [h]; rfl

 clear ha hF HA hl
 unfold TxB at HC
 generalize strOfNums (kidsT x.kind true x.kids) = TS at *
 clear h
 go_enter Tryz.func26, Tryz.ntmps26
 go_wp2_with fail
 generalize w.alloc (.cells #[.int .i64 x.kind, .string x.name, .int .i64 x.low, .int .i64 x.high, .slice A n c] 24) = W1 at *
 refine (HC.out _ HB.out).mono ?_
 rintro e w2 ⟨rfl, hb2⟩
 have HB2 := Lib.hid (HB.out.trans (hb2.mono HB.out.size))
 clear hb2 HC
 go_wp2_with fail
 go_ret
 exact ⟨by rw [HF.out] <;> rfl, HB2.out⟩
set_option maxHeartbeats 4000000 in
theorem text6 {k : Nat} (ih : TextK k) (hk5 : k + 1 ≤ 500) {x : Nd} (hx : x.size ≤ k + 1) (hany : anyB x = true) (h : x.kind = 6) {w : World} {A : Option Addr} {n c : Nat} (ha : RdN w (Lt w) A n c x.kids) :
  Calls Tryz.prog 26 #[.agg #[.int .i64 x.kind, .string x.name, .int .i64 x.low, .int .i64 x.high, .slice A n c]] w (TxB w (txt x)) := by
 have HP := Lib.hid (kbelow_push w (.cells #[.int .i64 x.kind, .string x.name, .int .i64 x.low, .int .i64 x.high, .slice A n c] 24))
 have HA := Lib.hid (ha.on HP.out)
 have HROW := Lib.hid (heap_alloc_new w (.cells #[.int .i64 x.kind, .string x.name, .int .i64 x.low, .int .i64 x.high, .slice A n c] 24))
 have hz : (w.alloc (.cells #[.int .i64 x.kind, .string x.name, .int .i64 x.low, .int .i64 x.high, .slice A n c] 24)).heap.size = w.heap.size + 1 := by simp
 have hsm := ha.small
 have HB : Hid (Below w.heap.size w (w.alloc (.cells #[.int .i64 x.kind, .string x.name, .int .i64 x.low, .int .i64 x.high, .slice A n c] 24))) := HP.out
 have hF : txt x = kidsT x.kind true x.kids := by
  rw [K.txt_great (by omega), show behindT x.kind = [] by rw [h]; rfl, List.append_nil]
 have HC : Hid (∀ W, Below w.heap.size w W → Calls Tryz.prog 60 #[.agg #[.int .i64 x.kind, .string x.name, .int .i64 x.low, .int .i64 x.high, .slice A n c], .string ⟨#[38]⟩] W (TxB W (kidsT x.kind true x.kids))) := fun W hb => list7_of ih (by omega) (by have := K.size_eq x; omega) hany ⟨#[38]⟩ (.inr (by rw [h]; rfl)) (by decide) (ha.on hb)
 have hl := kids_few hany (by omega) x.kind x.kids.length
 rw [List.take_length] at hl
 have hsz : (strOfNums (kidsT x.kind true x.kids)).size ≤ 15100 := by rw [strOfNums_size]; exact hl
 have HF : Hid (strOfNums (txt x) = strOfNums (kidsT x.kind true x.kids)) := by
  show _ = _
  rw [hF]
 have k1 : (x.kind == 1) = false := by rw [h]; rfl
 have k2 : (x.kind == 2) = false := by rw [h]; rfl
 have k3 : (x.kind == 3) = false := by rw [h]; rfl
 have k4 : (x.kind == 4) = false := by rw [h]; rfl
 have k5 : (x.kind == 5) = false := by rw [h]; rfl
 have k6 : (x.kind == 6) = true := by rw [h]; rfl
 have k7 : (x.kind == 7) = false := by rw [h]; rfl
 have k8 : (x.kind == 8) = false := by rw [h]; rfl
 have k9 : (x.kind == 9) = false := by rw [h]; rfl
 have k10 : (x.kind == 10) = false := by rw [h]; rfl
 have k11 : (x.kind == 11) = false := by rw [h]; rfl
 have k12 : (x.kind == 12) = false := by rw [h]; rfl
 have m2 : (x.kind != 2) = true := by rw [h]; rfl
 have m4 : (x.kind != 4) = true := by rw [h]; rfl
 have m5 : (x.kind != 5) = true := by rw [h]; rfl

 clear ha hF HA hl
 unfold TxB at HC
 generalize strOfNums (kidsT x.kind true x.kids) = TS at *
 clear h
 go_enter Tryz.func26, Tryz.ntmps26
 go_wp2_with fail
 generalize w.alloc (.cells #[.int .i64 x.kind, .string x.name, .int .i64 x.low, .int .i64 x.high, .slice A n c] 24) = W1 at *
 refine (HC.out _ HB.out).mono ?_
 rintro e w2 ⟨rfl, hb2⟩
 have HB2 := Lib.hid (HB.out.trans (hb2.mono HB.out.size))
 clear hb2 HC
 go_wp2_with fail
 go_ret
 exact ⟨by rw [HF.out] <;> rfl, HB2.out⟩
set_option maxHeartbeats 4000000 in
theorem text7 {k : Nat} (ih : TextK k) (hk5 : k + 1 ≤ 500) {x : Nd} (hx : x.size ≤ k + 1) (hany : anyB x = true) (h : x.kind = 7) {w : World} {A : Option Addr} {n c : Nat} (ha : RdN w (Lt w) A n c x.kids) :
  Calls Tryz.prog 26 #[.agg #[.int .i64 x.kind, .string x.name, .int .i64 x.low, .int .i64 x.high, .slice A n c]] w (TxB w (txt x)) := by
 have HP := Lib.hid (kbelow_push w (.cells #[.int .i64 x.kind, .string x.name, .int .i64 x.low, .int .i64 x.high, .slice A n c] 24))
 have HA := Lib.hid (ha.on HP.out)
 have HROW := Lib.hid (heap_alloc_new w (.cells #[.int .i64 x.kind, .string x.name, .int .i64 x.low, .int .i64 x.high, .slice A n c] 24))
 have hz : (w.alloc (.cells #[.int .i64 x.kind, .string x.name, .int .i64 x.low, .int .i64 x.high, .slice A n c] 24)).heap.size = w.heap.size + 1 := by simp
 have hsm := ha.small
 have HB : Hid (Below w.heap.size w (w.alloc (.cells #[.int .i64 x.kind, .string x.name, .int .i64 x.low, .int .i64 x.high, .slice A n c] 24))) := HP.out
 have hF : txt x = kidsT x.kind true x.kids := by
  rw [K.txt_great (by omega), show behindT x.kind = [] by rw [h]; rfl, List.append_nil]
 have HC : Hid (∀ W, Below w.heap.size w W → Calls Tryz.prog 60 #[.agg #[.int .i64 x.kind, .string x.name, .int .i64 x.low, .int .i64 x.high, .slice A n c], .string ⟨#[45]⟩] W (TxB W (kidsT x.kind true x.kids))) := fun W hb => list7_of ih (by omega) (by have := K.size_eq x; omega) hany ⟨#[45]⟩ (.inr (by rw [h]; rfl)) (by decide) (ha.on hb)
 have hl := kids_few hany (by omega) x.kind x.kids.length
 rw [List.take_length] at hl
 have hsz : (strOfNums (kidsT x.kind true x.kids)).size ≤ 15100 := by rw [strOfNums_size]; exact hl
 have HF : Hid (strOfNums (txt x) = strOfNums (kidsT x.kind true x.kids)) := by
  show _ = _
  rw [hF]
 have k1 : (x.kind == 1) = false := by rw [h]; rfl
 have k2 : (x.kind == 2) = false := by rw [h]; rfl
 have k3 : (x.kind == 3) = false := by rw [h]; rfl
 have k4 : (x.kind == 4) = false := by rw [h]; rfl
 have k5 : (x.kind == 5) = false := by rw [h]; rfl
 have k6 : (x.kind == 6) = false := by rw [h]; rfl
 have k7 : (x.kind == 7) = true := by rw [h]; rfl
 have k8 : (x.kind == 8) = false := by rw [h]; rfl
 have k9 : (x.kind == 9) = false := by rw [h]; rfl
 have k10 : (x.kind == 10) = false := by rw [h]; rfl
 have k11 : (x.kind == 11) = false := by rw [h]; rfl
 have k12 : (x.kind == 12) = false := by rw [h]; rfl
 have m2 : (x.kind != 2) = true := by rw [h]; rfl
 have m4 : (x.kind != 4) = true := by rw [h]; rfl
 have m5 : (x.kind != 5) = true := by rw [h]; rfl

 clear ha hF HA hl
 unfold TxB at HC
 generalize strOfNums (kidsT x.kind true x.kids) = TS at *
 clear h
 go_enter Tryz.func26, Tryz.ntmps26
 go_wp2_with fail
 generalize w.alloc (.cells #[.int .i64 x.kind, .string x.name, .int .i64 x.low, .int .i64 x.high, .slice A n c] 24) = W1 at *
 refine (HC.out _ HB.out).mono ?_
 rintro e w2 ⟨rfl, hb2⟩
 have HB2 := Lib.hid (HB.out.trans (hb2.mono HB.out.size))
 clear hb2 HC
 go_wp2_with fail
 go_ret
 exact ⟨by rw [HF.out] <;> rfl, HB2.out⟩
set_option maxHeartbeats 4000000 in
theorem text10 {k : Nat} (ih : TextK k) (hk5 : k + 1 ≤ 500) {x : Nd} (hx : x.size ≤ k + 1) (hany : anyB x = true) (h : x.kind = 10) {w : World} {A : Option Addr} {n c : Nat} (ha : RdN w (Lt w) A n c x.kids) :
  Calls Tryz.prog 26 #[.agg #[.int .i64 x.kind, .string x.name, .int .i64 x.low, .int .i64 x.high, .slice A n c]] w (TxB w (txt x)) := by
 have HP := Lib.hid (kbelow_push w (.cells #[.int .i64 x.kind, .string x.name, .int .i64 x.low, .int .i64 x.high, .slice A n c] 24))
 have HA := Lib.hid (ha.on HP.out)
 have HROW := Lib.hid (heap_alloc_new w (.cells #[.int .i64 x.kind, .string x.name, .int .i64 x.low, .int .i64 x.high, .slice A n c] 24))
 have hz : (w.alloc (.cells #[.int .i64 x.kind, .string x.name, .int .i64 x.low, .int .i64 x.high, .slice A n c] 24)).heap.size = w.heap.size + 1 := by simp
 have hsm := ha.small
 have HB : Hid (Below w.heap.size w (w.alloc (.cells #[.int .i64 x.kind, .string x.name, .int .i64 x.low, .int .i64 x.high, .slice A n c] 24))) := HP.out
 have hF : txt x = kidsT x.kind true x.kids ++ [42] := by
  rw [K.txt_great (by omega), show behindT x.kind = [42] by rw [h]; rfl]
 have h1 : x.kids.length ≤ 1 := by
  unfold K.anyB at hany
  rw [Bool.or_eq_true, K.inF_three (by omega), K.inS_eq, if_neg (by omega), if_neg (by omega)] at hany
  rcases hany with h2 | h2
  ·simp only [Bool.and_eq_true, decide_eq_true_eq] at h2; omega
  ·unfold K.nosB at h2; rw [if_neg (by omega), if_neg (by omega)] at h2; cases h2
 have HC : Hid (∀ W, Below w.heap.size w W → Calls Tryz.prog 60 #[.agg #[.int .i64 x.kind, .string x.name, .int .i64 x.low, .int .i64 x.high, .slice A n c], .string ⟨#[]⟩] W (TxB W (kidsT x.kind true x.kids))) := fun W hb => list7_of ih (by omega) (by have := K.size_eq x; omega) hany ⟨#[]⟩ (.inl h1) (by decide) (ha.on hb)
 have hl := kids_few hany (by omega) x.kind x.kids.length
 rw [List.take_length] at hl
 have hsz : (strOfNums (kidsT x.kind true x.kids)).size ≤ 15100 := by rw [strOfNums_size]; exact hl
 have a2 : ¬ 9223372036854775807 < (strOfNums (kidsT x.kind true x.kids)).size + 1 := by omega
 have HF : Hid (strOfNums (txt x) = strOfNums (kidsT x.kind true x.kids) ++ ⟨#[42]⟩) := by
  show _ = _
  rw [hF, ← str_app2]; rfl
 have k1 : (x.kind == 1) = false := by rw [h]; rfl
 have k2 : (x.kind == 2) = false := by rw [h]; rfl
 have k3 : (x.kind == 3) = false := by rw [h]; rfl
 have k4 : (x.kind == 4) = false := by rw [h]; rfl
 have k5 : (x.kind == 5) = false := by rw [h]; rfl
 have k6 : (x.kind == 6) = false := by rw [h]; rfl
 have k7 : (x.kind == 7) = false := by rw [h]; rfl
 have k8 : (x.kind == 8) = false := by rw [h]; rfl
 have k9 : (x.kind == 9) = false := by rw [h]; rfl
 have k10 : (x.kind == 10) = true := by rw [h]; rfl
 have k11 : (x.kind == 11) = false := by rw [h]; rfl
 have k12 : (x.kind == 12) = false := by rw [h]; rfl
 have m2 : (x.kind != 2) = true := by rw [h]; rfl
 have m4 : (x.kind != 4) = true := by rw [h]; rfl
 have m5 : (x.kind != 5) = true := by rw [h]; rfl

 clear ha hF HA hl
 unfold TxB at HC
 generalize strOfNums (kidsT x.kind true x.kids) = TS at *
 clear h h1
 go_enter Tryz.func26, Tryz.ntmps26
 go_wp2_with fail
 generalize w.alloc (.cells #[.int .i64 x.kind, .string x.name, .int .i64 x.low, .int .i64 x.high, .slice A n c] 24) = W1 at *
 refine (HC.out _ HB.out).mono ?_
 rintro e w2 ⟨rfl, hb2⟩
 have HB2 := Lib.hid (HB.out.trans (hb2.mono HB.out.size))
 clear hb2 HC
 go_wp2_with fail
 go_ret
 exact ⟨by rw [HF.out] <;> rfl, HB2.out⟩
set_option maxHeartbeats 4000000 in
theorem text11 {k : Nat} (ih : TextK k) (hk5 : k + 1 ≤ 500) {x : Nd} (hx : x.size ≤ k + 1) (hany : anyB x = true) (h : x.kind = 11) {w : World} {A : Option Addr} {n c : Nat} (ha : RdN w (Lt w) A n c x.kids) :
  Calls Tryz.prog 26 #[.agg #[.int .i64 x.kind, .string x.name, .int .i64 x.low, .int .i64 x.high, .slice A n c]] w (TxB w (txt x)) := by
 have HP := Lib.hid (kbelow_push w (.cells #[.int .i64 x.kind, .string x.name, .int .i64 x.low, .int .i64 x.high, .slice A n c] 24))
 have HA := Lib.hid (ha.on HP.out)
 have HROW := Lib.hid (heap_alloc_new w (.cells #[.int .i64 x.kind, .string x.name, .int .i64 x.low, .int .i64 x.high, .slice A n c] 24))
 have hz : (w.alloc (.cells #[.int .i64 x.kind, .string x.name, .int .i64 x.low, .int .i64 x.high, .slice A n c] 24)).heap.size = w.heap.size + 1 := by simp
 have hsm := ha.small
 have HB : Hid (Below w.heap.size w (w.alloc (.cells #[.int .i64 x.kind, .string x.name, .int .i64 x.low, .int .i64 x.high, .slice A n c] 24))) := HP.out
 have hF : txt x = kidsT x.kind true x.kids ++ [43] := by
  rw [K.txt_great (by omega), show behindT x.kind = [43] by rw [h]; rfl]
 have h1 : x.kids.length ≤ 1 := by
  unfold K.anyB at hany
  rw [Bool.or_eq_true, K.inF_three (by omega), K.inS_eq, if_neg (by omega), if_neg (by omega)] at hany
  rcases hany with h2 | h2
  ·simp only [Bool.and_eq_true, decide_eq_true_eq] at h2; omega
  ·unfold K.nosB at h2; rw [if_neg (by omega), if_neg (by omega)] at h2; cases h2
 have HC : Hid (∀ W, Below w.heap.size w W → Calls Tryz.prog 60 #[.agg #[.int .i64 x.kind, .string x.name, .int .i64 x.low, .int .i64 x.high, .slice A n c], .string ⟨#[]⟩] W (TxB W (kidsT x.kind true x.kids))) := fun W hb => list7_of ih (by omega) (by have := K.size_eq x; omega) hany ⟨#[]⟩ (.inl h1) (by decide) (ha.on hb)
 have hl := kids_few hany (by omega) x.kind x.kids.length
 rw [List.take_length] at hl
 have hsz : (strOfNums (kidsT x.kind true x.kids)).size ≤ 15100 := by rw [strOfNums_size]; exact hl
 have a2 : ¬ 9223372036854775807 < (strOfNums (kidsT x.kind true x.kids)).size + 1 := by omega
 have HF : Hid (strOfNums (txt x) = strOfNums (kidsT x.kind true x.kids) ++ ⟨#[43]⟩) := by
  show _ = _
  rw [hF, ← str_app2]; rfl
 have k1 : (x.kind == 1) = false := by rw [h]; rfl
 have k2 : (x.kind == 2) = false := by rw [h]; rfl
 have k3 : (x.kind == 3) = false := by rw [h]; rfl
 have k4 : (x.kind == 4) = false := by rw [h]; rfl
 have k5 : (x.kind == 5) = false := by rw [h]; rfl
 have k6 : (x.kind == 6) = false := by rw [h]; rfl
 have k7 : (x.kind == 7) = false := by rw [h]; rfl
 have k8 : (x.kind == 8) = false := by rw [h]; rfl
 have k9 : (x.kind == 9) = false := by rw [h]; rfl
 have k10 : (x.kind == 10) = false := by rw [h]; rfl
 have k11 : (x.kind == 11) = true := by rw [h]; rfl
 have k12 : (x.kind == 12) = false := by rw [h]; rfl
 have m2 : (x.kind != 2) = true := by rw [h]; rfl
 have m4 : (x.kind != 4) = true := by rw [h]; rfl
 have m5 : (x.kind != 5) = true := by rw [h]; rfl

 clear ha hF HA hl
 unfold TxB at HC
 generalize strOfNums (kidsT x.kind true x.kids) = TS at *
 clear h h1
 go_enter Tryz.func26, Tryz.ntmps26
 go_wp2_with fail
 generalize w.alloc (.cells #[.int .i64 x.kind, .string x.name, .int .i64 x.low, .int .i64 x.high, .slice A n c] 24) = W1 at *
 refine (HC.out _ HB.out).mono ?_
 rintro e w2 ⟨rfl, hb2⟩
 have HB2 := Lib.hid (HB.out.trans (hb2.mono HB.out.size))
 clear hb2 HC
 go_wp2_with fail
 go_ret
 exact ⟨by rw [HF.out] <;> rfl, HB2.out⟩
set_option maxHeartbeats 4000000 in
theorem text12 {k : Nat} (ih : TextK k) (hk5 : k + 1 ≤ 500) {x : Nd} (hx : x.size ≤ k + 1) (hany : anyB x = true) (h : x.kind = 12) {w : World} {A : Option Addr} {n c : Nat} (ha : RdN w (Lt w) A n c x.kids) :
  Calls Tryz.prog 26 #[.agg #[.int .i64 x.kind, .string x.name, .int .i64 x.low, .int .i64 x.high, .slice A n c]] w (TxB w (txt x)) := by
 have HP := Lib.hid (kbelow_push w (.cells #[.int .i64 x.kind, .string x.name, .int .i64 x.low, .int .i64 x.high, .slice A n c] 24))
 have HA := Lib.hid (ha.on HP.out)
 have HROW := Lib.hid (heap_alloc_new w (.cells #[.int .i64 x.kind, .string x.name, .int .i64 x.low, .int .i64 x.high, .slice A n c] 24))
 have hz : (w.alloc (.cells #[.int .i64 x.kind, .string x.name, .int .i64 x.low, .int .i64 x.high, .slice A n c] 24)).heap.size = w.heap.size + 1 := by simp
 have hsm := ha.small
 have HB : Hid (Below w.heap.size w (w.alloc (.cells #[.int .i64 x.kind, .string x.name, .int .i64 x.low, .int .i64 x.high, .slice A n c] 24))) := HP.out
 have hF : txt x = kidsT x.kind true x.kids ++ [63] := by
  rw [K.txt_great (by omega), show behindT x.kind = [63] by rw [h]; rfl]
 have h1 : x.kids.length ≤ 1 := by
  unfold K.anyB at hany
  rw [Bool.or_eq_true, K.inF_three (by omega), K.inS_eq, if_neg (by omega), if_neg (by omega)] at hany
  rcases hany with h2 | h2
  ·simp only [Bool.and_eq_true, decide_eq_true_eq] at h2; omega
  ·unfold K.nosB at h2; rw [if_neg (by omega), if_neg (by omega)] at h2; cases h2
 have HC : Hid (∀ W, Below w.heap.size w W → Calls Tryz.prog 60 #[.agg #[.int .i64 x.kind, .string x.name, .int .i64 x.low, .int .i64 x.high, .slice A n c], .string ⟨#[]⟩] W (TxB W (kidsT x.kind true x.kids))) := fun W hb => list7_of ih (by omega) (by have := K.size_eq x; omega) hany ⟨#[]⟩ (.inl h1) (by decide) (ha.on hb)
 have hl := kids_few hany (by omega) x.kind x.kids.length
 rw [List.take_length] at hl
 have hsz : (strOfNums (kidsT x.kind true x.kids)).size ≤ 15100 := by rw [strOfNums_size]; exact hl
 have a2 : ¬ 9223372036854775807 < (strOfNums (kidsT x.kind true x.kids)).size + 1 := by omega
 have HF : Hid (strOfNums (txt x) = strOfNums (kidsT x.kind true x.kids) ++ ⟨#[63]⟩) := by
  show _ = _
  rw [hF, ← str_app2]; rfl
 have k1 : (x.kind == 1) = false := by rw [h]; rfl
 have k2 : (x.kind == 2) = false := by rw [h]; rfl
 have k3 : (x.kind == 3) = false := by rw [h]; rfl
 have k4 : (x.kind == 4) = false := by rw [h]; rfl
 have k5 : (x.kind == 5) = false := by rw [h]; rfl
 have k6 : (x.kind == 6) = false := by rw [h]; rfl
 have k7 : (x.kind == 7) = false := by rw [h]; rfl
 have k8 : (x.kind == 8) = false := by rw [h]; rfl
 have k9 : (x.kind == 9) = false := by rw [h]; rfl
 have k10 : (x.kind == 10) = false := by rw [h]; rfl
 have k11 : (x.kind == 11) = false := by rw [h]; rfl
 have k12 : (x.kind == 12) = true := by rw [h]; rfl
 have m2 : (x.kind != 2) = true := by rw [h]; rfl
 have m4 : (x.kind != 4) = true := by rw [h]; rfl
 have m5 : (x.kind != 5) = true := by rw [h]; rfl

 clear ha hF HA hl
 unfold TxB at HC
 generalize strOfNums (kidsT x.kind true x.kids) = TS at *
 clear h h1
 go_enter Tryz.func26, Tryz.ntmps26
 go_wp2_with fail
 generalize w.alloc (.cells #[.int .i64 x.kind, .string x.name, .int .i64 x.low, .int .i64 x.high, .slice A n c] 24) = W1 at *
 refine (HC.out _ HB.out).mono ?_
 rintro e w2 ⟨rfl, hb2⟩
 have HB2 := Lib.hid (HB.out.trans (hb2.mono HB.out.size))
 clear hb2 HC
 go_wp2_with fail
 go_ret
 exact ⟨by rw [HF.out] <;> rfl, HB2.out⟩
set_option maxHeartbeats 4000000 in
theorem text4a {k : Nat} (ih : TextK k) (hk5 : k + 1 ≤ 500) {x : Nd} (hx : x.size ≤ k + 1) (hany : anyB x = true) (h : x.kind = 4) (hlow : x.low = 1) {w : World} {A : Option Addr} {n c : Nat} (ha : RdN w (Lt w) A n c x.kids) :
  Calls Tryz.prog 26 #[.agg #[.int .i64 x.kind, .string x.name, .int .i64 x.low, .int .i64 x.high, .slice A n c]] w (TxB w (txt x)) := by
 have HP := Lib.hid (kbelow_push w (.cells #[.int .i64 x.kind, .string x.name, .int .i64 x.low, .int .i64 x.high, .slice A n c] 24))
 have HA := Lib.hid (ha.on HP.out)
 have HROW := Lib.hid (heap_alloc_new w (.cells #[.int .i64 x.kind, .string x.name, .int .i64 x.low, .int .i64 x.high, .slice A n c] 24))
 have hz : (w.alloc (.cells #[.int .i64 x.kind, .string x.name, .int .i64 x.low, .int .i64 x.high, .slice A n c] 24)).heap.size = w.heap.size + 1 := by simp
 have hsm := ha.small
 have HB : Hid (Below w.heap.size w (w.alloc (.cells #[.int .i64 x.kind, .string x.name, .int .i64 x.low, .int .i64 x.high, .slice A n c] 24))) := HP.out
 have hF : txt x = [91, 94] ++ kidsT x.kind true x.kids ++ [93] := by
  rw [K.txt_eq, if_neg (by omega), if_neg (by omega), if_neg (by omega), if_pos h, if_pos hlow, h]
 have HC : Hid (∀ W, Below w.heap.size w W → Calls Tryz.prog 60 #[.agg #[.int .i64 x.kind, .string x.name, .int .i64 x.low, .int .i64 x.high, .slice A n c], .string ⟨#[32]⟩] W (TxB W (kidsT x.kind true x.kids))) := fun W hb => list7_of ih (by omega) (by have := K.size_eq x; omega) hany ⟨#[32]⟩ (.inr (by rw [h]; rfl)) (by decide) (ha.on hb)
 have hl := kids_few hany (by omega) x.kind x.kids.length
 rw [List.take_length] at hl
 have hsz : (strOfNums (kidsT x.kind true x.kids)).size ≤ 15100 := by rw [strOfNums_size]; exact hl
 have a1 : ¬ 9223372036854775807 < 2 + (strOfNums (kidsT x.kind true x.kids)).size := by omega
 have a2 : ¬ 9223372036854775807 < 2 + (strOfNums (kidsT x.kind true x.kids)).size + 1 := by omega
 have HF : Hid (strOfNums (txt x) = ⟨#[91, 94]⟩ ++ strOfNums (kidsT x.kind true x.kids) ++ ⟨#[93]⟩) := by
  show _ = _
  rw [hF, ← str_app2, ← str_app2]; rfl
 have k1 : (x.kind == 1) = false := by rw [h]; rfl
 have k2 : (x.kind == 2) = false := by rw [h]; rfl
 have k3 : (x.kind == 3) = false := by rw [h]; rfl
 have k4 : (x.kind == 4) = true := by rw [h]; rfl
 have k5 : (x.kind == 5) = false := by rw [h]; rfl
 have k6 : (x.kind == 6) = false := by rw [h]; rfl
 have k7 : (x.kind == 7) = false := by rw [h]; rfl
 have k8 : (x.kind == 8) = false := by rw [h]; rfl
 have k9 : (x.kind == 9) = false := by rw [h]; rfl
 have k10 : (x.kind == 10) = false := by rw [h]; rfl
 have k11 : (x.kind == 11) = false := by rw [h]; rfl
 have k12 : (x.kind == 12) = false := by rw [h]; rfl
 have m2 : (x.kind != 2) = true := by rw [h]; rfl
 have m4 : (x.kind != 4) = false := by rw [h]; rfl
 have m5 : (x.kind != 5) = true := by rw [h]; rfl
 have gl : (x.low == 1) = true := by rw [hlow]; rfl
 clear ha hF HA hl hlow
 unfold TxB at HC
 generalize strOfNums (kidsT x.kind true x.kids) = TS at *
 clear h
 go_enter Tryz.func26, Tryz.ntmps26
 go_wp2_with fail
 generalize w.alloc (.cells #[.int .i64 x.kind, .string x.name, .int .i64 x.low, .int .i64 x.high, .slice A n c] 24) = W1 at *
 refine (HC.out _ HB.out).mono ?_
 rintro e w2 ⟨rfl, hb2⟩
 have HB2 := Lib.hid (HB.out.trans (hb2.mono HB.out.size))
 clear hb2 HC
 go_wp2_with fail
 go_ret
 exact ⟨by rw [HF.out] <;> rfl, HB2.out⟩
set_option maxHeartbeats 4000000 in
theorem text4b {k : Nat} (ih : TextK k) (hk5 : k + 1 ≤ 500) {x : Nd} (hx : x.size ≤ k + 1) (hany : anyB x = true) (h : x.kind = 4) (hlow : ¬ x.low = 1) {w : World} {A : Option Addr} {n c : Nat} (ha : RdN w (Lt w) A n c x.kids) :
  Calls Tryz.prog 26 #[.agg #[.int .i64 x.kind, .string x.name, .int .i64 x.low, .int .i64 x.high, .slice A n c]] w (TxB w (txt x)) := by
 have HP := Lib.hid (kbelow_push w (.cells #[.int .i64 x.kind, .string x.name, .int .i64 x.low, .int .i64 x.high, .slice A n c] 24))
 have HA := Lib.hid (ha.on HP.out)
 have HROW := Lib.hid (heap_alloc_new w (.cells #[.int .i64 x.kind, .string x.name, .int .i64 x.low, .int .i64 x.high, .slice A n c] 24))
 have hz : (w.alloc (.cells #[.int .i64 x.kind, .string x.name, .int .i64 x.low, .int .i64 x.high, .slice A n c] 24)).heap.size = w.heap.size + 1 := by simp
 have hsm := ha.small
 have HB : Hid (Below w.heap.size w (w.alloc (.cells #[.int .i64 x.kind, .string x.name, .int .i64 x.low, .int .i64 x.high, .slice A n c] 24))) := HP.out
 have hF : txt x = [91] ++ kidsT x.kind true x.kids ++ [93] := by
  rw [K.txt_eq, if_neg (by omega), if_neg (by omega), if_neg (by omega), if_pos h, if_neg hlow, h]
 have HC : Hid (∀ W, Below w.heap.size w W → Calls Tryz.prog 60 #[.agg #[.int .i64 x.kind, .string x.name, .int .i64 x.low, .int .i64 x.high, .slice A n c], .string ⟨#[32]⟩] W (TxB W (kidsT x.kind true x.kids))) := fun W hb => list7_of ih (by omega) (by have := K.size_eq x; omega) hany ⟨#[32]⟩ (.inr (by rw [h]; rfl)) (by decide) (ha.on hb)
 have hl := kids_few hany (by omega) x.kind x.kids.length
 rw [List.take_length] at hl
 have hsz : (strOfNums (kidsT x.kind true x.kids)).size ≤ 15100 := by rw [strOfNums_size]; exact hl
 have a1 : ¬ 9223372036854775807 < 1 + (strOfNums (kidsT x.kind true x.kids)).size := by omega
 have a2 : ¬ 9223372036854775807 < 1 + (strOfNums (kidsT x.kind true x.kids)).size + 1 := by omega
 have HF : Hid (strOfNums (txt x) = ⟨#[91]⟩ ++ strOfNums (kidsT x.kind true x.kids) ++ ⟨#[93]⟩) := by
  show _ = _
  rw [hF, ← str_app2, ← str_app2]; rfl
 have k1 : (x.kind == 1) = false := by rw [h]; rfl
 have k2 : (x.kind == 2) = false := by rw [h]; rfl
 have k3 : (x.kind == 3) = false := by rw [h]; rfl
 have k4 : (x.kind == 4) = true := by rw [h]; rfl
 have k5 : (x.kind == 5) = false := by rw [h]; rfl
 have k6 : (x.kind == 6) = false := by rw [h]; rfl
 have k7 : (x.kind == 7) = false := by rw [h]; rfl
 have k8 : (x.kind == 8) = false := by rw [h]; rfl
 have k9 : (x.kind == 9) = false := by rw [h]; rfl
 have k10 : (x.kind == 10) = false := by rw [h]; rfl
 have k11 : (x.kind == 11) = false := by rw [h]; rfl
 have k12 : (x.kind == 12) = false := by rw [h]; rfl
 have m2 : (x.kind != 2) = true := by rw [h]; rfl
 have m4 : (x.kind != 4) = false := by rw [h]; rfl
 have m5 : (x.kind != 5) = true := by rw [h]; rfl
 have gl : (x.low == 1) = false := by simpa using hlow
 clear ha hF HA hl hlow
 unfold TxB at HC
 generalize strOfNums (kidsT x.kind true x.kids) = TS at *
 clear h
 go_enter Tryz.func26, Tryz.ntmps26
 go_wp2_with fail
 generalize w.alloc (.cells #[.int .i64 x.kind, .string x.name, .int .i64 x.low, .int .i64 x.high, .slice A n c] 24) = W1 at *
 refine (HC.out _ HB.out).mono ?_
 rintro e w2 ⟨rfl, hb2⟩
 have HB2 := Lib.hid (HB.out.trans (hb2.mono HB.out.size))
 clear hb2 HC
 go_wp2_with fail
 go_ret
 exact ⟨by rw [HF.out] <;> rfl, HB2.out⟩
set_option maxHeartbeats 4000000 in
theorem text5 {k : Nat} (ih : TextK k) (hk5 : k + 1 ≤ 500) {x : Nd} (hx : x.size ≤ k + 1) (hany : anyB x = true) (h : x.kind = 5) {w : World} {A : Option Addr} {n c : Nat} (ha : RdN w (Lt w) A n c x.kids) :
  Calls Tryz.prog 26 #[.agg #[.int .i64 x.kind, .string x.name, .int .i64 x.low, .int .i64 x.high, .slice A n c]] w (TxB w (txt x)) := by
 have HP := Lib.hid (kbelow_push w (.cells #[.int .i64 x.kind, .string x.name, .int .i64 x.low, .int .i64 x.high, .slice A n c] 24))
 have HA := Lib.hid (ha.on HP.out)
 have HROW := Lib.hid (heap_alloc_new w (.cells #[.int .i64 x.kind, .string x.name, .int .i64 x.low, .int .i64 x.high, .slice A n c] 24))
 have hz : (w.alloc (.cells #[.int .i64 x.kind, .string x.name, .int .i64 x.low, .int .i64 x.high, .slice A n c] 24)).heap.size = w.heap.size + 1 := by simp
 have hsm := ha.small
 have HB : Hid (Below w.heap.size w (w.alloc (.cells #[.int .i64 x.kind, .string x.name, .int .i64 x.low, .int .i64 x.high, .slice A n c] 24))) := HP.out
 have hF : txt x = rngT x.low x.high := by rw [K.txt_eq]; simp only [h]; rfl
 obtain ⟨z0, z1, z2⟩ := any_rng hany h
 have HLO : Hid (∀ W, Calls Tryz.prog 61 #[.int .i64 x.low] W (TxB W (Q.textB x.low))) := fun W => char7_any ((Q.isC_iff _).2 (by omega)) W
 have HHI : Hid (∀ W, Calls Tryz.prog 61 #[.int .i64 x.high] W (TxB W (Q.textB x.high))) := fun W => char7_any ((Q.isC_iff _).2 (by omega)) W
 have hl1 := K.text_len x.low
 have hl2 := K.text_len x.high
 have hs1 : (strOfNums (Q.textB x.low)).size ≤ 10 := by rw [strOfNums_size]; exact hl1
 have hs2 : (strOfNums (Q.textB x.high)).size ≤ 10 := by rw [strOfNums_size]; exact hl2
 have k1 : (x.kind == 1) = false := by rw [h]; rfl
 have k2 : (x.kind == 2) = false := by rw [h]; rfl
 have k3 : (x.kind == 3) = false := by rw [h]; rfl
 have k4 : (x.kind == 4) = false := by rw [h]; rfl
 have k5 : (x.kind == 5) = true := by rw [h]; rfl
 have k6 : (x.kind == 6) = false := by rw [h]; rfl
 have k7 : (x.kind == 7) = false := by rw [h]; rfl
 have k8 : (x.kind == 8) = false := by rw [h]; rfl
 have k9 : (x.kind == 9) = false := by rw [h]; rfl
 have k10 : (x.kind == 10) = false := by rw [h]; rfl
 have k11 : (x.kind == 11) = false := by rw [h]; rfl
 have k12 : (x.kind == 12) = false := by rw [h]; rfl
 have m2 : (x.kind != 2) = true := by rw [h]; rfl
 have m4 : (x.kind != 4) = true := by rw [h]; rfl
 have m5 : (x.kind != 5) = false := by rw [h]; rfl
 unfold TxB at HLO HHI
 unfold K.rngT at hF
 by_cases he : x.high = x.low
 ·rw [if_pos he, List.append_nil] at hF
  have HF := Lib.hid hF
  have gl : (x.low == x.high) = true := by rw [he]; simp
  clear ha hF h HA z0 z1 z2 he hl1 hl2 HHI hs1 hs2
  go_enter Tryz.func26, Tryz.ntmps26
  go_wp2_with fail
  refine (HLO.out _).mono ?_
  rintro e w2 ⟨rfl, hb2⟩
  have HB2 := Lib.hid (HB.out.trans (hb2.mono HB.out.size))
  clear hb2 HLO
  go_wp2_with fail
  go_ret
  exact ⟨by rw [HF.out] <;> rfl, HB2.out⟩
 ·rw [if_neg he] at hF
  have HF : Hid (strOfNums (txt x) = strOfNums (Q.textB x.low) ++ ⟨#[45]⟩ ++ strOfNums (Q.textB x.high)) := by
   show _ = _
   rw [hF, show (⟨#[45]⟩ : ByteArray) = strOfNums [45] from rfl, str_app2, str_app2]; simp
  have gl : (x.low == x.high) = false := by rw [beq_eq_false_iff_ne]; exact fun e => he e.symm
  have a1 : ¬ 9223372036854775807 < (strOfNums (Q.textB x.low)).size + 1 := by omega
  have a2 : ¬ 9223372036854775807 < (strOfNums (Q.textB x.low)).size + 1 + (strOfNums (Q.textB x.high)).size := by omega
  generalize strOfNums (Q.textB x.low) = T1 at *
  generalize strOfNums (Q.textB x.high) = T2 at *
  clear ha hF h HA z0 z1 z2 he hl1 hl2
  obtain ⟨r0, r1, r2, r3, r4⟩ := cells5 HROW.out
  go_enter Tryz.func26, Tryz.ntmps26
  go_wp2_with fail
  generalize w.alloc (.cells #[.int .i64 x.kind, .string x.name, .int .i64 x.low, .int .i64 x.high, .slice A n c] 24) = W1 at *
  have hN : w.heap.size < W1.heap.size := by omega
  have HBD : Hid (Below W1.heap.size W1 W1.drew) := kbelow_drewN (Below.refl _ _) 1
  have HK0 : Hid (W1.drew.cell? ⟨w.heap.size, 2, none⟩ = some (.int .i64 x.low) ∧ W1.drew.cell? ⟨w.heap.size, 3, none⟩ = some (.int .i64 x.high)) := ⟨r2, r3⟩
  have HBF : Hid (Below W1.heap.size W1 W1.drew) := HBD.out
  go_region_held_law (fun w' => w'.cell? ⟨w.heap.size, 2, none⟩ = some (.int .i64 x.low) ∧ w'.cell? ⟨w.heap.size, 3, none⟩ = some (.int .i64 x.high)) (first | exact HK2.out | exact HK1.out | exact HK0.out) (first | (go_at_call 61; (with_reducible refine (HLO.out W1.drew).mono ?_); rintro e w3 ⟨rfl, hb3⟩; have HB3 := Lib.hid (HBD.out.trans (hb3.mono HBD.out.size)); have HK1 : Hid (w3.cell? ⟨w.heap.size, 2, none⟩ = some (.int .i64 x.low) ∧ w3.cell? ⟨w.heap.size, 3, none⟩ = some (.int .i64 x.high)) := ⟨held_cell6 hb3 hN HK0.out.1, held_cell6 hb3 hN HK0.out.2⟩; have hN3 : w.heap.size < w3.heap.size := Nat.lt_of_lt_of_le hN HB3.out.size; clear hb3) | (go_at_call 61; (with_reducible refine (HHI.out w3).mono ?_); rintro e w4 ⟨rfl, hb4⟩; have HB4 := Lib.hid (HB3.out.trans (hb4.mono HB3.out.size)); have HK2 : Hid (w4.cell? ⟨w.heap.size, 2, none⟩ = some (.int .i64 x.low) ∧ w4.cell? ⟨w.heap.size, 3, none⟩ = some (.int .i64 x.high)) := ⟨held_cell6 hb4 hN3 HK1.out.1, held_cell6 hb4 hN3 HK1.out.2⟩; clear hb4))
  go_wp2_with fail
  go_ret
  exact ⟨by rw [HF.out] <;> rfl, HB.out.trans (HB4.out.mono HB.out.size)⟩
theorem any_kind {x : Nd} (h : anyB x = true) : 1 ≤ x.kind ∧ x.kind ≤ 12 := by
 have hn : K.nosB x = true → 1 ≤ x.kind ∧ x.kind ≤ 12 := fun h => by
  unfold K.nosB at h
  by_cases h2 : x.kind = 2
  ·omega
  ·rw [if_neg h2] at h
   by_cases h4 : x.kind = 4
   ·omega
   ·rw [if_neg h4] at h; cases h
 unfold K.anyB at h
 rw [Bool.or_eq_true, K.inF_eq, K.inS_eq] at h
 rcases h with h | h
 ·by_cases a : x.kind = 1 ∨ x.kind = 3
  ·omega
  ·rw [if_neg a] at h
   by_cases b : x.kind = 8 ∨ x.kind = 9
   ·omega
   ·rw [if_neg b] at h
    by_cases c : x.kind = 10 ∨ x.kind = 11 ∨ x.kind = 12
    ·omega
    ·rw [if_neg c] at h; exact hn h
 ·by_cases a : x.kind = 5
  ·omega
  ·rw [if_neg a] at h
   by_cases b : x.kind = 6 ∨ x.kind = 7
   ·omega
   ·rw [if_neg b] at h; exact hn h
theorem text_step {k : Nat} (ih : TextK k) : TextK (k + 1) := by
 intro x hx hk5 hany w A n c ha
 have hk := any_kind hany
 by_cases h1 : x.kind = 1
 ·exact text1 ih hk5 hx hany h1 ha
 by_cases h2 : x.kind = 2
 ·exact text2 ih hk5 hx hany h2 ha
 by_cases h3 : x.kind = 3
 ·exact text3 ih hk5 hx hany h3 ha
 by_cases h5 : x.kind = 5
 ·exact text5 ih hk5 hx hany h5 ha
 by_cases h6 : x.kind = 6
 ·exact text6 ih hk5 hx hany h6 ha
 by_cases h7 : x.kind = 7
 ·exact text7 ih hk5 hx hany h7 ha
 by_cases h8 : x.kind = 8
 ·exact text8 ih hk5 hx hany h8 ha
 by_cases h9 : x.kind = 9
 ·exact text9 ih hk5 hx hany h9 ha
 by_cases h10 : x.kind = 10
 ·exact text10 ih hk5 hx hany h10 ha
 by_cases h11 : x.kind = 11
 ·exact text11 ih hk5 hx hany h11 ha
 by_cases h12 : x.kind = 12
 ·exact text12 ih hk5 hx hany h12 ha
 have h4 : x.kind = 4 := by omega
 by_cases hl : x.low = 1
 ·exact text4a ih hk5 hx hany h4 hl ha
 ·exact text4b ih hk5 hx hany h4 hl ha
theorem text7_any {x : Nd} (hx : x.size ≤ 500) (hany : anyB x = true) {w : World} {A : Option Addr} {n c : Nat} (ha : RdN w (Lt w) A n c x.kids) :
  Calls Tryz.prog 26 #[.agg #[.int .i64 x.kind, .string x.name, .int .i64 x.low, .int .i64 x.high, .slice A n c]] w (TxB w (txt x)) := by
 have h : ∀ k, TextK k := by
  intro k
  induction k with
  | zero => intro x h; have := Nd.size_pos x; omega
  | succ k ih => exact text_step ih
 exact h x.size x (Nat.le_refl _) hx hany w A n c ha
set_option maxHeartbeats 4000000 in
theorem form7_any {x : Nd} {w : World} {A : Option Addr} {n c : Nat} (ha : RdN w (Lt w) A n c x.kids) :
  Calls Tryz.prog 11 #[.agg #[.int .i64 x.kind, .string x.name, .int .i64 x.low, .int .i64 x.high, .slice A n c]] w (TxtQ w.heap.size (K.formR x) w) := by
 have HP := Lib.hid (kbelow_push w (.cells #[.int .i64 x.kind, .string x.name, .int .i64 x.low, .int .i64 x.high, .slice A n c] 24))
 have HA := Lib.hid (ha.on HP.out)
 have HROW := Lib.hid (heap_alloc_new w (.cells #[.int .i64 x.kind, .string x.name, .int .i64 x.low, .int .i64 x.high, .slice A n c] 24))
 have hz : (w.alloc (.cells #[.int .i64 x.kind, .string x.name, .int .i64 x.low, .int .i64 x.high, .slice A n c] 24)).heap.size = w.heap.size + 1 := by simp
 have hsm := ha.small
 have HB : Hid (Below w.heap.size w (w.alloc (.cells #[.int .i64 x.kind, .string x.name, .int .i64 x.low, .int .i64 x.high, .slice A n c] 24))) := HP.out
 have HRI := Lib.hid (right7_any HA.out)
 cases hr : rightB x with
 | false =>
  rw [hr] at HRI
  have HF : Hid (K.formR x = ([], 1)) := by show _ = _; unfold K.formR; rw [if_neg (by rw [hr]; decide)]
  clear hr ha HA
  go_enter Tryz.func11, Tryz.ntmps11
  go_wp2_with fail
  refine HRI.out.mono ?_
  rintro e w2 ⟨rfl, hb⟩
  have HE : Hid (TxtQ w.heap.size (K.formR x) w (.returned (.tuple #[.string ⟨#[]⟩, .int .i64 1])) w2) := ⟨by rw [HF.out]; rfl, HB.out.trans (hb.mono HB.out.size)⟩
  clear hb
  go_wp2_with fail
  go_ret2
  exact HE.out
 | true =>
  rw [hr] at HRI
  have hany := right_anyB hr
  have hx := (K.right_any hr).1
  have hl := right_len hr
  have HC : Hid (∀ W, Below w.heap.size w W → Calls Tryz.prog 26 #[.agg #[.int .i64 x.kind, .string x.name, .int .i64 x.low, .int .i64 x.high, .slice A n c]] W (TxB W (txt x))) := fun W hb => text7_any hx hany (ha.on hb)
  have hF : K.formR x = K.longR (txt x) := by unfold K.formR; rw [if_pos hr]
  unfold TxB at HC
  have hsz : (strOfNums (txt x)).size = (txt x).length := strOfNums_size _
  by_cases h3 : (txt x).length ≤ 3000
  ·have HF : Hid (K.formR x = (txt x, 0)) := by show _ = _; rw [hF]; unfold K.longR; rw [if_pos h3]
   have g3 : ¬ (3000 : Int) < ((strOfNums (txt x)).size : Int) := by omega
   have hsz2 : (strOfNums (txt x)).size ≤ 3000 := by omega
   generalize hTS : strOfNums (txt x) = TS at *
   have HTS := Lib.hid hTS
   clear ha hF hr hany hx hl HA h3 hsz hTS
   go_enter Tryz.func11, Tryz.ntmps11
   go_wp2_with fail
   generalize w.alloc (.cells #[.int .i64 x.kind, .string x.name, .int .i64 x.low, .int .i64 x.high, .slice A n c] 24) = W1 at *
   refine HRI.out.mono ?_
   rintro e w2 ⟨rfl, hb⟩
   have HB2 := Lib.hid (HB.out.trans (hb.mono HB.out.size))
   have HROW2 := Lib.hid ((hb.block w.heap.size (by omega)).trans HROW.out)
   obtain ⟨r0, r1, r2, r3, r4⟩ := cells5 HROW2.out
   have hz2 := hb.size
   clear hb HRI
   go_wp2_with fail
   refine (HC.out _ HB2.out).mono ?_
   rintro e w3 ⟨rfl, hb⟩
   have HB3 := Lib.hid (HB2.out.trans (hb.mono HB2.out.size))
   clear hb HC
   go_wp2_with fail
   go_ret2
   exact ⟨by rw [HF.out, ← HTS.out] <;> rfl, HB3.out⟩
  ·have HE : Hid (∀ w', Below w.heap.size w w' → TxtQ w.heap.size (K.formR x) w (.returned (.tuple #[.string ⟨#[]⟩, .int .i64 2])) w') := fun w' hb => ⟨by rw [hF]; unfold K.longR; rw [if_neg h3]; rfl, hb⟩
   have g3 : (3000 : Int) < ((strOfNums (txt x)).size : Int) := by omega
   have hsz2 : (strOfNums (txt x)).size ≤ 15000 := by omega
   generalize strOfNums (txt x) = TS at *
   clear ha hF hr hany hx hl HA h3 hsz
   go_enter Tryz.func11, Tryz.ntmps11
   go_wp2_with fail
   generalize w.alloc (.cells #[.int .i64 x.kind, .string x.name, .int .i64 x.low, .int .i64 x.high, .slice A n c] 24) = W1 at *
   refine HRI.out.mono ?_
   rintro e w2 ⟨rfl, hb⟩
   have HB2 := Lib.hid (HB.out.trans (hb.mono HB.out.size))
   have HROW2 := Lib.hid ((hb.block w.heap.size (by omega)).trans HROW.out)
   obtain ⟨r0, r1, r2, r3, r4⟩ := cells5 HROW2.out
   have hz2 := hb.size
   clear hb HRI
   go_wp2_with fail
   refine (HC.out _ HB2.out).mono ?_
   rintro e w3 ⟨rfl, hb⟩
   have HB3 := Lib.hid (HB2.out.trans (hb.mono HB2.out.size))
   clear hb HC
   go_wp2_with fail
   go_ret2
   exact HE.out _ HB3.out
end Go.Proofs.YtmohefgdpddldaaGreatDoor
namespace Go.Proofs.YtmohefgdpddldaaGreatDoor
namespace U
open Y (Nd It Ps noName zeroN sizeL nextP takeP failP noTok several single kindP deepP formP orsP joinP piecesP pieceP bareP setP partsP partP heldP memberP next_dead next_nil next_cons take_dead take_nil take_cons fail_dead deep_dead dead_all)
open K (numsOf nameB twoB threeB aloneB endK pairB inS inF nosB brkB)

/-- What a token says, wherever it stands. -/
abbrev Sh := Int × List Int × Int × Int
def core (t : Tok) : Sh := (t.kind, t.text, t.low, t.high)
def sg (k : Int) : Sh := (k, [], 0, 0)
def betS (k : Int) : List Sh := if k = 9 then [sg 8] else if k = 6 then [sg 16] else if k = 7 then [sg 17] else []
def behS (k : Int) : List Sh := if k = 10 then [sg 9] else if k = 11 then [sg 10] else if k = 12 then [sg 11] else []
mutual
/-- A form's tokens. -/
def shp : Nd → List Sh
 | .mk k s lo hi l =>
  if k = 1 then [sg 6, sg 7]
  else if k = 3 then [sg 12]
  else if k = 2 then [(1, numsOf s, 0, 0)]
  else if k = 4 then (13, [], lo, 0) :: (shpL 4 true l ++ [sg 14])
  else if k = 5 then [(15, [], lo, hi)]
  else shpL k true l ++ behS k
def shpL (k : Int) : Bool → List Nd → List Sh
 | _, [] => []
 | f, x :: t => (if f = true then [] else betS k) ++ (if brkB x.kind k = true then sg 6 :: (shp x ++ [sg 7]) else shp x) ++ shpL k false t
end
/-- Tokens that say so. -/
def Is (s : List Sh) (us : List Tok) : Prop := us.map core = s
theorem Is.cons {c : Sh} {b : List Sh} {us : List Tok} (h : Is (c :: b) us) : ∃ t v, us = t :: v ∧ core t = c ∧ Is b v := by
 unfold Is at h
 obtain ⟨t, v, h1, h2, h3⟩ := List.map_eq_cons_iff.1 h
 exact ⟨t, v, h1, h2, h3⟩
theorem Is.nil {us : List Tok} (h : Is [] us) : us = [] := List.map_eq_nil_iff.1 h
theorem Is.one {c : Sh} {us : List Tok} (h : Is [c] us) : ∃ t, us = [t] ∧ core t = c := by
 obtain ⟨t, v, h1, h2, h3⟩ := h.cons
 obtain rfl := h3.nil
 exact ⟨t, h1, h2⟩
/-- Read as it was, or too deep. -/
def Gt {α : Type} (r : α × Ps) (x : α) (rest : List Tok) : Prop := r = (x, .live rest) ∨ ∃ a, r.2 = .dead a 8
/-- It begins with one of these. -/
def Fst (ks : List Int) (s : List Sh) : Prop := ∃ c b, s = c :: b ∧ ks.contains c.1 = true
theorem Fst.more {ks ks' : List Int} {s : List Sh} (h : Fst ks s) (hk : ∀ k, ks.contains k = true → ks'.contains k = true) : Fst ks' s := by
 obtain ⟨c, b, rfl, h⟩ := h
 exact ⟨c, b, rfl, hk _ h⟩
theorem take_yes {e : Int} {ks : List Int} {t : Tok} {u : List Tok} (h : ks.contains t.kind = true) : takeP e ks (.live (t :: u)) = (t, .live u) := by rw [take_cons, if_pos h]
theorem pair_two {k : Int} {l : List Nd} (h : pairB k l = true) : ∃ a b, l = [a, b] ∧ twoB b.kind = false ∧ (k = 6 ∨ endK a = 2 ∨ endK a = 4) := by
 unfold K.pairB at h
 split at h
 ·rename_i a b
  simp only [Bool.and_eq_true, Bool.or_eq_true, decide_eq_true_eq, Bool.not_eq_true'] at h
  exact ⟨a, b, rfl, h.1, by rcases h.2 with (h | h) | h <;> simp [h]⟩
 ·cases h
/-- Nothing goes on behind a piece; behind a form. -/
def Stp (rest : List Tok) : Prop := nextP [1, 12, 6, 13] (.live rest) = false ∧ nextP [9, 10, 11] (.live rest) = false
variable {e : Int}
end U
end Go.Proofs.YtmohefgdpddldaaGreatDoor
