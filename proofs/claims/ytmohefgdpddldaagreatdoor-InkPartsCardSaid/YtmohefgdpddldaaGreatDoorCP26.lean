/- The pen's small functions. The pen: characters from one to another one. -/
import Derived.Test.YtmohefgdpddldaaGreatDoorCP25
import Derived.Test.YtmohefgdpddldaaGreatDoorCP14
import Derived.Test.YtmohefgdpddldaaGreatDoorCP08
import Derived.Test.YtmohefgdpddldaaGreatDoorCP15
import Derived.Lib.LaidTab
set_option maxRecDepth 100000
namespace Go.Proofs.YtmohefgdpddldaaGreatDoor
open Go.RowKit
open Y (Nd It noName)
open K (numsOf threeB twoB behindT betweenT brkB rngT txt kidsT partT anyB)

theorem hex_byte : ∀ (f : Nat) (n : Int), 0 ≤ n → ∀ x ∈ Q.hexF f n, 0 ≤ x ∧ x < 256
 | 0, _, _ => fun x hx => by simp [Q.hexF] at hx
 | f + 1, n, h0 => fun x hx => by
  have hd : ∀ d : Int, 0 ≤ d → d < 16 → 0 ≤ Q.dig d ∧ Q.dig d < 256 := fun d h1 h2 => by unfold Q.dig; split <;> omega
  rw [Q.hexF] at hx
  split at hx
  ·simp at hx; subst hx; exact hd n h0 (by omega)
  ·rw [List.mem_append, List.mem_singleton] at hx
   rcases hx with hx | rfl
   ·exact hex_byte f (n / 16) (by omega) x hx
   ·exact hd _ (by omega) (by omega)
def Pen (B b : Nat) (L : List Int) (w w' : World) : Prop := Pn w' B b L ∧ Below B w w' ∧ Keeps ndB w w'
theorem Pen.refl {B b : Nat} {L : List Int} {w : World} (h : Pn w B b L) : Pen B b L w w := ⟨h, Below.refl _ _, Keeps.refl _ _⟩
theorem Pen.put {B b : Nat} {L M : List Int} {v : Value} {w w1 w2 : World} {e : Ending} (h : Pen B b L w w1) (k : PutV B b L M v w1 e w2) : Pen B b (L ++ M) w w2 := ⟨k.2.1, h.2.1.trans k.2.2.1, h.2.2.trans k.2.2.2⟩
theorem Pen.below {B b : Nat} {L : List Int} {w w1 w2 : World} (h : Pen B b L w w1) (hB : B ≤ w1.heap.size) (k : Below w1.heap.size w1 w2) : Pen B b L w w2 := ⟨h.1.below k, h.2.1.trans (k.mono hB), h.2.2.trans (Keeps.below k _)⟩
theorem Pen.drew {B b : Nat} {L : List Int} {w w1 : World} (h : Pen B b L w w1) : Pen B b L w w1.drew := ⟨h.1, kbelow_drewN h.2.1 1, h.2.2.trans (Keeps.drewN _ _ 1)⟩
theorem Pen.size {B b : Nat} {L : List Int} {w w1 : World} (h : Pen B b L w w1) : w.heap.size ≤ w1.heap.size := h.2.1.size
theorem Pen.out {B b : Nat} {L M N : List Int} {w w1 : World} (h : Pen B b N w w1) (e : N = L ++ M) : PutV B b L M (.tuple #[]) w (.returned (.tuple #[])) w1 := ⟨rfl, by rw [← e]; exact h.1, h.2.1, h.2.2⟩
def betweenS (k : Int) : Value := if k = 9 then .string ⟨#[32, 124, 32]⟩ else if k = 6 then .string ⟨#[38]⟩ else if k = 7 then .string ⟨#[45]⟩ else .string ⟨#[32]⟩
def behindS (k : Int) : Value := if k = 10 then .string ⟨#[42]⟩ else if k = 11 then .string ⟨#[43]⟩ else if k = 12 then .string ⟨#[63]⟩ else .string ⟨#[]⟩
theorem betweenS_is (k : Int) : ∃ s, betweenS k = .string s ∧ numsOf s = betweenT k ∧ s.size ≤ 3 := by
 unfold betweenS K.betweenT
 by_cases h9 : k = 9
 ·rw [if_pos h9, if_pos h9]; exact ⟨_, rfl, rfl, by decide⟩
 ·rw [if_neg h9, if_neg h9]
  by_cases h6 : k = 6
  ·rw [if_pos h6, if_pos h6]; exact ⟨_, rfl, rfl, by decide⟩
  ·rw [if_neg h6, if_neg h6]
   by_cases h7 : k = 7
   ·rw [if_pos h7, if_pos h7]; exact ⟨_, rfl, rfl, by decide⟩
   ·rw [if_neg h7, if_neg h7]; exact ⟨_, rfl, rfl, by decide⟩
theorem behindS_is (k : Int) : ∃ s, behindS k = .string s ∧ numsOf s = behindT k ∧ s.size ≤ 1 ∧ (s.toList.isEmpty = !threeB k) ∧ ((s.toList == []) = !threeB k) := by
 unfold behindS K.behindT K.threeB
 by_cases h9 : k = 10
 ·rw [if_pos h9, if_pos h9]; exact ⟨_, rfl, rfl, by decide, by simp [h9], by simp [h9]⟩
 ·rw [if_neg h9, if_neg h9]
  by_cases h6 : k = 11
  ·rw [if_pos h6, if_pos h6]; exact ⟨_, rfl, rfl, by decide, by simp [h6], by simp [h6]⟩
  ·rw [if_neg h6, if_neg h6]
   by_cases h7 : k = 12
   ·rw [if_pos h7, if_pos h7]; exact ⟨_, rfl, rfl, by decide, by simp [h7], by simp [h7]⟩
   ·rw [if_neg h7, if_neg h7]; exact ⟨_, rfl, rfl, by decide, by simp [h9, h6, h7], by simp [h9, h6, h7]⟩
theorem between_any (k : Int) (w : World) : Calls Tryz.prog 92 #[.int .i64 k] w fun e w' => e = .returned (betweenS k) ∧ w = w' := by
 by_cases h9 : k = 9
 ·subst h9
  go_enter Tryz.func92, Tryz.ntmps92
  go_wp2_with fail
  go_ret
  exact ⟨rfl, rfl⟩
 ·have g9 : (k == 9) = false := by simpa using h9
  by_cases h6 : k = 6
  ·subst h6
   go_enter Tryz.func92, Tryz.ntmps92
   go_wp2_with fail
   go_ret
   exact ⟨rfl, rfl⟩
  ·have g6 : (k == 6) = false := by simpa using h6
   by_cases h7 : k = 7
   ·subst h7
    go_enter Tryz.func92, Tryz.ntmps92
    go_wp2_with fail
    go_ret
    exact ⟨rfl, rfl⟩
   ·have g7 : (k == 7) = false := by simpa using h7
    have HE : Hid (Ending.returned (betweenS k) = .returned (.string ⟨#[32]⟩)) := by show _ = _; unfold betweenS; rw [if_neg h9, if_neg h6, if_neg h7]
    clear h9 h6 h7
    go_enter Tryz.func92, Tryz.ntmps92
    go_wp2_with fail
    go_ret
    exact ⟨HE.out.symm, rfl⟩
theorem behind_any (k : Int) (w : World) : Calls Tryz.prog 57 #[.int .i64 k] w fun e w' => e = .returned (behindS k) ∧ w = w' := by
 by_cases h10 : k = 10
 ·subst h10
  go_enter Tryz.func57, Tryz.ntmps57
  go_wp2_with fail
  go_ret
  exact ⟨rfl, rfl⟩
 ·have g10 : (k == 10) = false := by simpa using h10
  by_cases h11 : k = 11
  ·subst h11
   go_enter Tryz.func57, Tryz.ntmps57
   go_wp2_with fail
   go_ret
   exact ⟨rfl, rfl⟩
  ·have g11 : (k == 11) = false := by simpa using h11
   by_cases h12 : k = 12
   ·subst h12
    go_enter Tryz.func57, Tryz.ntmps57
    go_wp2_with fail
    go_ret
    exact ⟨rfl, rfl⟩
   ·have g12 : (k == 12) = false := by simpa using h12
    have HE : Hid (Ending.returned (behindS k) = .returned (.string ⟨#[]⟩)) := by show _ = _; unfold behindS; rw [if_neg h10, if_neg h11, if_neg h12]
    clear h10 h11 h12
    go_enter Tryz.func57, Tryz.ntmps57
    go_wp2_with fail
    go_ret
    exact ⟨HE.out.symm, rfl⟩
theorem ofOne_any (k : Int) (w : World) : Calls Tryz.prog 115 #[.int .i64 k] w fun e w' => e = .returned (.bool (threeB k)) ∧ w = w' := by
 obtain ⟨s, hs, _, _, h1, h2⟩ := behindS_is k
 have hC := behind_any k w
 rw [hs] at hC
 have HC := Lib.hid hC
 clear hC hs
 generalize threeB k = q at *
 cases q with
 | true =>
  go_enter Tryz.func115, Tryz.ntmps115
  go_wp2_with fail
  refine HC.out.mono ?_
  rintro e w2 ⟨rfl, rfl⟩
  go_wp2_with fail
  go_ret
  exact ⟨rfl, rfl⟩
 | false =>
  go_enter Tryz.func115, Tryz.ntmps115
  go_wp2_with fail
  refine HC.out.mono ?_
  rintro e w2 ⟨rfl, rfl⟩
  go_wp2_with fail
  go_ret
  exact ⟨rfl, rfl⟩
theorem brk_any (k i : Int) (w : World) : Calls Tryz.prog 93 #[.int .i64 k, .int .i64 i] w fun e w' => e = .returned (.bool (brkB k i)) ∧ w = w' := by
 have HC := Lib.hid (ofOne_any k w)
 have HD := Lib.hid (ofOne_any i w)
 by_cases h9 : k = 9
 ·have HF : Hid (brkB k i = true) := by show _ = _; unfold K.brkB; rw [if_pos h9]
  have g9 : (k == 9) = true := by simpa using h9
  clear h9 HC HD
  generalize brkB k i = res at *
  go_enter Tryz.func93, Tryz.ntmps93
  go_wp2_with fail
  go_ret
  exact ⟨ret_bool HF.out.symm, rfl⟩
 ·have g9 : (k == 9) = false := by simpa using h9
  by_cases h8 : k = 8
  ·have HF : Hid (brkB k i = (i != 9)) := by
    show _ = _
    unfold K.brkB; rw [if_neg h9, if_pos h8, Bool.eq_iff_iff]; simp
   have g8 : (k == 8) = true := by simpa using h8
   clear h9 h8 HC HD
   generalize brkB k i = res at *
   go_enter Tryz.func93, Tryz.ntmps93
   go_wp2_with fail
   go_ret
   exact ⟨ret_bool HF.out.symm, rfl⟩
  ·have g8 : (k == 8) = false := by simpa using h8
   have HF : Hid (brkB k i = (threeB k && threeB i)) := by show _ = _; unfold K.brkB; rw [if_neg h9, if_neg h8]
   clear h9 h8
   generalize brkB k i = res at *
   generalize threeB k = q at *
   generalize threeB i = q2 at *
   go_enter Tryz.func93, Tryz.ntmps93
   go_wp2_with fail
   refine HC.out.mono ?_
   rintro e w2 ⟨rfl, rfl⟩
   cases q with
   | true =>
    go_wp2_with fail
    refine HD.out.mono ?_
    rintro e w2 ⟨rfl, rfl⟩
    go_wp2_with fail
    go_ret
    exact ⟨ret_bool HF.out.symm, rfl⟩
   | false =>
    go_wp2_with fail
    go_ret
    exact ⟨ret_bool HF.out.symm, rfl⟩
def TbB (B : Nat) (w : World) : Prop := ∀ w', Below B w w' → Tab w' ∧ Lib.TabIs Tryz.prog w' "internal/strconv.uint64pow10" .u64 Lib.pow10Tab
theorem TbB.on {B : Nat} {w w' : World} (h : TbB B w) (hb : Below B w w') : TbB B w' := fun w2 k => h w2 (hb.trans k)
theorem TbB.tab {B : Nat} {w : World} (h : TbB B w) : Tab w := (h w (Below.refl _ _)).1
theorem pname_any {B b : Nat} {L : List Int} {w : World} (h : Pn w B b L) (s : ByteArray) (hlen : L.length + 1 + s.size ≤ 140737488355328) (hBw : B ≤ w.heap.size) :
  Calls Tryz.prog 53 #[.pointer (some ⟨b, 0, none⟩), .string s] w (PutV B b L (36 :: numsOf s) (.tuple #[]) w) := by
 have HC := Lib.hid (wbyte_any h 36 (by omega) hBw)
 have HP := Lib.hid (Pen.refl h)
 clear h
 go_enter Tryz.func53, Tryz.ntmps53
 go_wp2_with fail
 refine HC.out.mono ?_
 rintro e w1 hp
 have HP1 := Lib.hid (HP.out.put hp)
 obtain ⟨rfl, q1, q2, q3⟩ := hp
 clear q1 q2 q3
 have HC2 := Lib.hid (wtext_any HP1.out.1 s (by simp; omega) (Nat.le_trans hBw HP1.out.size))
 clear HC
 go_wp2_with fail
 refine HC2.out.mono ?_
 rintro e w2 hp
 have HP2 := Lib.hid (HP1.out.put hp)
 obtain ⟨rfl, q1, q2, q3⟩ := hp
 clear q1 q2 q3
 have HE := Lib.hid (HP2.out.out (L := L) (M := 36 :: numsOf s) (by simp))
 clear HC2 HP1 HP2
 go_wp2_with fail
 exact bodyPost_ret (v := .tuple #[]) (by simp [results, Tryz.results53, go_sem]) rfl HE.out
theorem text_byte {c : Int} (h : 0 ≤ c) : ∀ x ∈ Q.textB c, 0 ≤ x ∧ x < 256 := fun x hx => by
 unfold Q.textB at hx
 split at hx
 ·rename_i hp
  rw [Q.plain_iff] at hp
  simp at hx; subst hx; omega
 ·have hh := hex_byte 6 c h
  simp only [List.mem_append, List.mem_cons, List.not_mem_nil, or_false] at hx
  rcases hx with (hx | hx) | hx
  ·omega
  ·exact hh x hx
  ·omega
theorem pchar_any {B b : Nat} {L : List Int} {w : World} (h : Pn w B b L) (hT : TbB B w) {c : Int} (h0 : 0 ≤ c) (h1 : c ≤ 1114111) (hlen : L.length + (Q.textB c).length ≤ 140737488355328) (hBw : B ≤ w.heap.size) :
  Calls Tryz.prog 91 #[.pointer (some ⟨b, 0, none⟩), .int .i64 c] w (PutV B b L (Q.textB c) (.tuple #[]) w) := by
 have hC := text_any c hT.tab
 have hv : textV c = (Q.textB c, 0) := by unfold textV; rw [if_pos ((Q.isC_iff c).2 ⟨h0, h1⟩)]
 have hnum := K.numsOf_strOf (text_byte h0)
 unfold TextP at hC
 rw [hv] at hC
 have HC := Lib.hid hC
 have hsz := K.numsOf_len (strOfNums (Q.textB c))
 rw [hnum] at hsz
 have HN := Lib.hid hnum
 have HP := Lib.hid (Pen.refl h)
 simp only at HC
 generalize Q.textB c = T at *
 clear h hT hC hv hnum
 have hsz' : L.length + (strOfNums T).size ≤ 140737488355328 := by omega
 generalize strOfNums T = s at *
 go_enter Tryz.func91, Tryz.ntmps91
 go_wp2_with fail
 refine HC.out.mono ?_
 rintro e w1 ⟨rfl, hb⟩
 have HP1 := Lib.hid (HP.out.below hBw hb)
 have HC2 := Lib.hid (wtext_any HP1.out.1 s (by omega) (Nat.le_trans hBw HP1.out.size))
 clear HC hb
 go_wp2_with fail
 refine HC2.out.mono ?_
 rintro e w2 hp
 have HP2 := Lib.hid (HP1.out.put hp)
 obtain ⟨rfl, q1, q2, q3⟩ := hp
 clear q1 q2 q3
 have HE := Lib.hid (HP2.out.out (L := L) (M := T) (by rw [HN.out]))
 clear HC2 HP1 HP2
 go_wp2_with fail
 exact bodyPost_ret (v := .tuple #[]) (by simp [results, Tryz.results91, go_sem]) rfl HE.out
end Go.Proofs.YtmohefgdpddldaaGreatDoor
namespace Go.Proofs.YtmohefgdpddldaaGreatDoor
open Go.RowKit
open Y (Nd It noName)
open K (numsOf threeB twoB behindT betweenT brkB rngT txt kidsT partT anyB)

theorem any_rng {x : Nd} (h : anyB x = true) (h5 : x.kind = 5) : 0 ≤ x.low ∧ x.low ≤ x.high ∧ x.high ≤ 1114111 := by
 unfold K.anyB at h
 rw [Bool.or_eq_true] at h
 rcases h with h | h
 ·rw [K.inF_eq, if_neg (by omega), if_neg (by omega), if_neg (by omega)] at h
  unfold K.nosB at h
  rw [if_neg (by omega), if_neg (by omega)] at h
  cases h
 ·rw [K.inS_eq, if_pos h5] at h
  simp only [Bool.and_eq_true, decide_eq_true_eq] at h
  exact ⟨h.1.1.2, h.1.2, h.2⟩
theorem kidsT_app (k : Int) : ∀ (l m : List Nd) (f : Bool), kidsT k f (l ++ m) = kidsT k f l ++ kidsT k (f && l.isEmpty) m
 | [], m, f => by rw [List.nil_append]; cases f <;> simp [K.kidsT]
 | x :: t, m, f => by
  rw [List.cons_append, K.kidsT_cons, kidsT_app k t m false, K.kidsT_cons]
  simp
theorem kidsT_take (k : Int) (l : List Nd) (j : Nat) : (kidsT k true (l.take j)).length ≤ (kidsT k true l).length := by
 have h := kidsT_app k (l.take j) (l.drop j) true
 rw [List.take_append_drop] at h
 rw [h, List.length_append]; omega
theorem kidsT_next (k : Int) {l : List Nd} {j : Nat} {y : Nd} (h : l[j]? = some y) : kidsT k true (l.take (j + 1)) = kidsT k true (l.take j) ++ (if j = 0 then [] else betweenT k) ++ partT k y := by
 rw [List.take_add_one, h]
 show kidsT k true (l.take j ++ [y]) = _
 rw [K.kidsT_snoc]
 have hj := (List.getElem?_eq_some_iff.1 h).1
 by_cases h0 : j = 0
 ·subst h0; simp
 ·rw [if_neg h0, if_neg]
  rintro ⟨_, e⟩
  have e2 := congrArg List.length e
  rw [List.length_take, List.length_nil] at e2
  omega
def FormW (k : Nat) : Prop := ∀ (x : Nd), x.size ≤ k → anyB x = true → ∀ (w : World) (B b : Nat) (L : List Int) (A : Option Addr) (n c : Nat), Pn w B b L → TbB B w → B ≤ w.heap.size → RdN w (· < B) A n c x.kids → L.length + (txt x).length ≤ 140737488355328 →
 Calls Tryz.prog 24 #[.pointer (some ⟨b, 0, none⟩), .agg #[.int .i64 x.kind, .string x.name, .int .i64 x.low, .int .i64 x.high, .slice A n c]] w (PutV B b L (txt x) (.tuple #[]) w)
set_option maxHeartbeats 2000000 in
theorem pchars_any {x : Nd} {B b : Nat} {L : List Int} {w : World} {A : Option Addr} {n c : Nat} (h : Pn w B b L) (hT : TbB B w) (h0 : 0 ≤ x.low) (h1 : x.low ≤ x.high) (h2 : x.high ≤ 1114111) (hlen : L.length + (rngT x.low x.high).length ≤ 140737488355328) (hBw : B ≤ w.heap.size) :
  Calls Tryz.prog 55 #[.pointer (some ⟨b, 0, none⟩), .agg #[.int .i64 x.kind, .string x.name, .int .i64 x.low, .int .i64 x.high, .slice A n c]] w (PutV B b L (rngT x.low x.high) (.tuple #[]) w) := by
 have HB0 := kbelow_push w (.cells #[.int .i64 x.kind, .string x.name, .int .i64 x.low, .int .i64 x.high, .slice A n c] 24)
 have HROW := Lib.hid (heap_alloc_new w (.cells #[.int .i64 x.kind, .string x.name, .int .i64 x.low, .int .i64 x.high, .slice A n c] 24))
 have HP := Lib.hid ((Pen.refl h).below hBw HB0)
 have HT := Lib.hid hT
 have hlo : L.length + (Q.textB x.low).length ≤ 140737488355328 := by unfold K.rngT at hlen; rw [List.length_append] at hlen; omega
 have HLEN := Lib.hid hlen
 have HC := Lib.hid (pchar_any HP.out.1 (hT.on HP.out.2.1) h0 (by omega) hlo (Nat.le_trans hBw HP.out.size))
 clear h hT HB0 hlen hlo
 go_enter Tryz.func55, Tryz.ntmps55
 go_wp2_with fail
 generalize w.alloc (.cells #[.int .i64 x.kind, .string x.name, .int .i64 x.low, .int .i64 x.high, .slice A n c] 24) = W1 at *
 refine HC.out.mono ?_
 rintro e w3 hp
 have HPn := Lib.hid (HP.out.put hp)
 have hkp := hp.2.2.2
 obtain ⟨rfl, q1, q2, q3⟩ := hp
 clear HP HC q1 q2 q3
 have HP := HPn
 clear HPn
 have HROWn := Lib.hid (hkp.2 _ _ HROW.out rfl)
 clear HROW
 have HROW := HROWn
 clear HROWn
 obtain ⟨r0, r1, r2, r3, r4⟩ := cells5 HROW.out
 clear hkp
 by_cases hh : x.high = x.low
 ·have g1 : (x.high != x.low) = false := by simpa using hh
  have HE := Lib.hid (HP.out.out (L := L) (M := rngT x.low x.high) (by unfold K.rngT; rw [if_pos hh, List.append_nil]))
  clear HP hh
  go_wp2_with fail
  exact bodyPost_ret (v := .tuple #[]) (by simp [results, Tryz.results55, go_sem]) rfl HE.out
 ·have g1 : (x.high != x.low) = true := by rw [bne_iff_ne]; exact hh
  have HF : Hid (rngT x.low x.high = Q.textB x.low ++ 45 :: Q.textB x.high) := by show _ = _; unfold K.rngT; rw [if_neg hh]
  rw [HF.out] at HLEN
  have HC := Lib.hid (wbyte_any HP.out.1 45 (by have := HLEN.out; simp only [List.length_append, List.length_cons] at this ⊢; omega) (Nat.le_trans hBw HP.out.size))
  clear hh
  go_wp2_with fail
  refine HC.out.mono ?_
  rintro e w3 hp
  have HPn := Lib.hid (HP.out.put hp)
  have hkp := hp.2.2.2
  obtain ⟨rfl, q1, q2, q3⟩ := hp
  clear HP HC q1 q2 q3
  have HP := HPn
  clear HPn
  have HROWn := Lib.hid (hkp.2 _ _ HROW.out rfl)
  clear HROW
  have HROW := HROWn
  clear HROWn
  obtain ⟨r0, r1, r2, r3, r4⟩ := cells5 HROW.out
  clear hkp
  have HC := Lib.hid (pchar_any HP.out.1 (HT.out.on HP.out.2.1) (by omega) h2 (by have := HLEN.out; simp only [List.length_append, List.length_cons, List.length_nil] at this ⊢; omega) (Nat.le_trans hBw HP.out.size))
  go_wp2_with fail
  refine HC.out.mono ?_
  rintro e w3 hp
  have HPn := Lib.hid (HP.out.put hp)
  have hkp := hp.2.2.2
  obtain ⟨rfl, q1, q2, q3⟩ := hp
  clear HP HC q1 q2 q3
  have HP := HPn
  clear HPn
  have HROWn := Lib.hid (hkp.2 _ _ HROW.out rfl)
  clear HROW
  have HROW := HROWn
  clear HROWn
  obtain ⟨r0, r1, r2, r3, r4⟩ := cells5 HROW.out
  clear hkp
  have HE := Lib.hid (HP.out.out (L := L) (M := rngT x.low x.high) (by rw [HF.out]; simp))
  clear HP HF
  go_wp2_with fail
  exact bodyPost_ret (v := .tuple #[]) (by simp [results, Tryz.results55, go_sem]) rfl HE.out
end Go.Proofs.YtmohefgdpddldaaGreatDoor
