/- Plain facts: a form's tokens say it again: all readers, by induction. Plain facts: a form that is written out has the form's tokens. Plain facts: a rule's number, and what is allowed, that are written out are read as they were. The document's Number of layer 5. Whether forms are the same: the document's Same. The document's ink: whether there is no form, whether an item may be written. The document's ink: an item's line. The program's Items of layer 7. The document's ink: Items. The three fixed texts: what they say. The fixed fact of layer 6 holds. What a text's tokens are like, and plain facts on what two parsers agree on. The document's parser of layer 6: its reader in memory; kind, fail, odd, several, begins. -/
import Derived.Test.YtmohefgdpddldaaGreatDoorCW06
import Derived.Test.YtmohefgdpddldaaGreatDoorCW01
import Derived.Deep.RegionHeldLaw
import Derived.Deep.RegionHeld3
import Derived.Test.YtmohefgdpddldaaGreatDoorCW04
import Derived.Test.YtmohefgdpddldaaGreatDoorCW03
import Derived.Test.YtmohefgdpddldaaGreatDoorCW02
set_option maxRecDepth 100000
namespace Go.Proofs.YtmohefgdpddldaaGreatDoor
namespace U
open Y (Nd It Ps noName zeroN sizeL nextP takeP failP noTok several single kindP deepP formP orsP joinP piecesP pieceP bareP setP partsP partP heldP memberP next_dead next_nil next_cons take_dead take_nil take_cons fail_dead deep_dead dead_all)
open K (numsOf nameB twoB threeB aloneB endK pairB inS inF nosB brkB)

/-- The two from which all others follow, of forms of at most so many nodes. -/
structure Al (e : Int) (N : Nat) : Prop where
 held : ∀ x : Nd, x.size ≤ N → inS x = true → ∀ us, Is (shp x) us → ∀ n o rest, 12 * x.size ≤ n →
  (∃ n', n ≤ n' + x.size ∧ partP e n o (.live (us ++ rest)) = heldP e n' o x (.live rest)) ∨ ∃ a, (partP e n o (.live (us ++ rest))).2 = .dead a 8
 form : ∀ x : Nd, x.size ≤ N → inF x = true → ∀ us, Is (shp x) us → ∀ n o rest, 12 * x.size + 3 ≤ n → Stp rest → nextP [8] (.live rest) = false → Gt (formP e n o (.live (us ++ rest))) x rest
theorem held_stop (e : Int) (n o : Nat) (x : Nd) {rest : List Tok} (h : nextP [16, 17] (.live rest) = false) : heldP e n o x (.live rest) = (x, .live rest) := by
 cases n with
 | zero => rw [heldP]
 | succ n => rw [heldP, if_neg (by rw [h]; decide)]
section
variable {e : Int} {N : Nat}
theorem Al.part (ih : Al e N) {x : Nd} (hx : x.size ≤ N) (hS : inS x = true) {us : List Tok} (hu : Is (shp x) us) {n o : Nat} {rest : List Tok} (hn : 12 * x.size ≤ n) (h : nextP [16, 17] (.live rest) = false) : Gt (partP e n o (.live (us ++ rest))) x rest := by
 rcases ih.held x hx hS us hu n o rest hn with ⟨n', _, hg⟩ | hg
 ·rw [hg, held_stop e n' o x h]; exact .inl rfl
 ·exact .inr hg
end
end U
end Go.Proofs.YtmohefgdpddldaaGreatDoor
namespace Go.Proofs.YtmohefgdpddldaaGreatDoor
namespace U
open Y (Nd It Ps noName zeroN sizeL)
open K (numsOf nameB twoB threeB aloneB endK pairB inS inF nosB brkB txt kidsT partT behindT betweenT rngT)
open W (Tk lexS stepS outS inS nameS setS charsS chS hiS opn lastK nmB ltB many markB)
open Q (plainB textB)

def coreT (t : Tk) : Sh := (t.kind, t.text, t.low, t.high)
/-- So much of a text is these tokens. -/
def LexTo (o : Nat) (ts : List Tk) (l rest : List Int) (o' : Nat) (s : List Sh) : Prop :=
 ∀ i, ∃ us : List Tk, us.map coreT = s ∧ lexS (l ++ rest) i o ts = lexS rest (i + l.length) o' (ts ++ us)
theorem LexTo.nil (o : Nat) (ts : List Tk) (rest : List Int) : LexTo o ts [] rest o [] := fun i => ⟨[], rfl, by simp⟩
theorem LexTo.blank (o : Nat) (ts : List Tk) (rest : List Int) : LexTo o ts [32] rest o [] := fun i => ⟨[], rfl, by
 rw [List.singleton_append, W.lexS_blank (.inl rfl), List.append_nil]; rfl⟩
/-- One token. -/
theorem LexTo.tok {o : Nat} {ts : List Tk} {c : Int} {l rest : List Int} {k : Int} {x : List Int} {lo hi : Int} {m : Nat} (hc : ¬ (c = 32 ∨ c = 9)) (h : stepS o ts c (l ++ rest) = .tok k x lo hi m) (hm : m = l.length) : LexTo o ts (c :: l) rest (opn k o) [(k, x, lo, hi)] := fun i => by
 refine ⟨[⟨k, x, lo, hi, i⟩], rfl, ?_⟩
 rw [List.cons_append, W.lexS_step hc, h]
 show lexS ((l ++ rest).drop m) (i + m + 1) (opn k o) _ = _
 rw [hm, List.drop_left, List.length_cons]; rfl
theorem mark_no {x : Int} (h : x = 92 ∨ plainB x = true) : markB x = false := by
 rw [Q.plain_iff] at h
 unfold W.markB
 rw [decide_eq_false_iff_not]; omega
end U
end Go.Proofs.YtmohefgdpddldaaGreatDoor
namespace Go.Proofs.YtmohefgdpddldaaGreatDoor
namespace U
open Y (Nd It noName zeroN)
open K (numsOf decT fracL numT allowT)
open W (Tk lexS stepS outS noteS numB partN valN many dgB noLf noBl allowB lettersB smB nmB allowP)

theorem dig_nat {u : Nat} (h : u < 10) : ((UInt8.ofNat (48 + u)).toNat : Int) = 48 + (u : Int) := by
 rw [UInt8.toNat_ofNat']
 omega
/-- The digits behind the point, without noughts at the end. -/
def fr8 (f : Nat) : List UInt8 := Lib.trimRightB [UInt8.ofNat (48 + f / 100), UInt8.ofNat (48 + f / 10 % 10), UInt8.ofNat (48 + f % 10)] 48
def frL (f : Nat) : List Int := (fr8 f).map fun b => (b.toNat : Int)
theorem frac_eq {n : Int} (h0 : 0 ≤ n) : fracL n = fr8 (n % 1000).toNat := by
 unfold K.fracL fr8 Lib.itoa
 have hr0 : 0 ≤ n % 1000 := by omega
 have hr1 : n % 1000 < 1000 := by omega
 obtain ⟨f, hf⟩ : ∃ f : Nat, n % 1000 = (f : Int) := ⟨(n % 1000).toNat, by omega⟩
 have hf1 : f < 1000 := by omega
 rw [hf, if_neg (by omega), show (1000 + (f : Int)).toNat = 1000 + f by omega, show (f : Int).toNat = f by omega]
 have e : (Lib.decDigits (1000 + f)).drop 1 = [UInt8.ofNat (48 + f / 100), UInt8.ofNat (48 + f / 10 % 10), UInt8.ofNat (48 + f % 10)] := by
  rw [Lib.decDigits, dif_neg (by omega), Lib.decDigits, dif_neg (by omega), Lib.decDigits, dif_neg (by omega), Lib.decDigits, dif_pos (by omega)]
  simp only [List.nil_append, List.singleton_append, List.cons_append, List.drop_succ_cons, List.drop_zero]
  rw [show (1000 + f) / 10 / 10 % 10 = f / 100 by omega, show (1000 + f) / 10 % 10 = f / 10 % 10 by omega, show (1000 + f) % 10 = f % 10 by omega]
  try rfl
 rw [e]
def chkF (f : Nat) : Bool := (frL f).all dgB && decide ((frL f).length ≤ 3) && decide (valN (frL f) 3 0 = (f : Int))
theorem chkF_all : (List.range 1000).all chkF = true := by kernel_rfl
theorem frL_ok {f : Nat} (h : f < 1000) : (frL f).all dgB = true ∧ (frL f).length ≤ 3 ∧ valN (frL f) 3 0 = (f : Int) := by
 have := List.all_eq_true.1 chkF_all f (List.mem_range.2 h)
 unfold chkF at this
 simp only [Bool.and_eq_true, decide_eq_true_eq] at this
 exact ⟨this.1.1, this.1.2, this.2⟩
end U
end Go.Proofs.YtmohefgdpddldaaGreatDoor
namespace Go.Proofs.YtmohefgdpddldaaGreatDoor
open Go.RowKit
open Y (Nd It noName)
open K (numsOf decT fracL numT)
open U (dig_nat fr8 frL frac_eq)

theorem decT_dig {n : Int} (h0 : 0 ≤ n) : decT n = (Lib.decDigits n.toNat).map fun b => (b.toNat : Int) := by
 unfold K.decT Lib.itoa
 rw [if_neg (by omega)]
theorem decT_small {n : Int} (h0 : 0 ≤ n) (h1 : n < 10) : decT n = [48 + n] := by
 rw [decT_dig h0, Lib.decDigits, dif_pos (by omega), List.map_singleton, dig_nat (by omega)]
 congr 2; omega
theorem decT_great {n : Int} (h : 10 ≤ n) : decT n = decT (n / 10) ++ decT (n % 10) := by
 have e1 : (n / 10).toNat = n.toNat / 10 := by omega
 have e2 : (n % 10).toNat = n.toNat % 10 := by omega
 rw [decT_dig (by omega), decT_dig (by omega), decT_dig (by omega), Lib.decDigits, dif_neg (by omega), List.map_append, e1, e2]
 congr 1
 rw [Lib.decDigits, dif_pos (by omega)]
theorem decT_few {n : Int} (h0 : 0 ≤ n) (h1 : n ≤ 999999) : (decT n).length ≤ 21 := by
 unfold K.decT
 rw [List.length_map]
 exact Lib.itoa_length_le n (by omega) (by omega)
def DigC (n : Int) : Prop := ∀ w, Calls Tryz.prog 100 #[.int .i64 n] w (TxB w (decT n))
theorem digits_small {n : Int} (h0 : 0 ≤ n) (h1 : n < 10) : DigC n := by
 intro w
 have q1 : (convert 41 9 (.slice (some ⟨w.heap.size, 0, none⟩) 1 1)).run Tryz.prog (w.alloc (.cells #[.int .u8 (48 + n)] 5)) = .ok (.string (strOfNums [48 + n])) (w.alloc (.cells #[.int .u8 (48 + n)] 5)) :=
  conv_any (rd_lit_k w w.heap.size rfl .u8 [48 + n] 5 _ rfl (by simp)) _ 5 _ Tryz.underlying41 Tryz.underlying5 Tryz.underlying9
 have HE : Hid (TxB w (decT n) (.returned (.string (strOfNums [48 + n]))) (w.alloc (.cells #[.int .u8 (48 + n)] 5))) := ⟨by rw [decT_small h0 h1], kbelow_push w _⟩
 go_enter Tryz.func100, Tryz.ntmps100
 go_wp2_with fail
 go_ret
 exact HE.out
theorem digits_step {n : Int} (h0 : 10 ≤ n) (h1 : n ≤ 999999) (ha : DigC (n / 10)) (hb : DigC (n % 10)) : DigC n := by
 intro w
 have h2 : 0 ≤ n := by omega
 have hz1 : (strOfNums (decT (n / 10))).size ≤ 21 := by rw [strOfNums_size]; exact decT_few (by omega) (by omega)
 have hz2 : (strOfNums (decT (n % 10))).size ≤ 21 := by rw [strOfNums_size]; exact decT_few (by omega) (by omega)
 have a1 : ¬ 9223372036854775807 < (strOfNums (decT (n / 10))).size + (strOfNums (decT (n % 10))).size := by omega
 have hne : ¬ n < 10 := by omega
 have HC := Lib.hid (ha w)
 have HC2 := Lib.hid hb
 have HE : Hid (strOfNums (decT (n / 10)) ++ strOfNums (decT (n % 10)) = strOfNums (decT n)) := by show _ = _; rw [str_app2, ← decT_great h0]
 unfold DigC at HC2
 unfold TxB at HC HC2
 clear ha hb
 go_enter Tryz.func100, Tryz.ntmps100
 go_wp2_with fail
 refine HC.out.mono ?_
 rintro e w1 ⟨rfl, hb1⟩
 have HB1 := Lib.hid hb1
 clear hb1 HC
 go_wp2_with fail
 refine (HC2.out w1).mono ?_
 rintro e w2 ⟨rfl, hb2⟩
 have HB2 := Lib.hid (HB1.out.trans (hb2.mono HB1.out.size))
 clear hb2 HC2
 go_wp2_with fail
 go_ret
 exact ⟨ret_str HE.out, HB2.out⟩
theorem digits_any : ∀ (k : Nat) (n : Int), 0 ≤ n → n ≤ 999999 → n.toNat ≤ k → DigC n := by
 intro k
 induction k with
 | zero => intro n h0 h1 h2; exact digits_small h0 (by omega)
 | succ k ih =>
  intro n h0 h1 h2
  by_cases h : n < 10
  ·exact digits_small h0 h
  ·exact digits_step (by omega) h1 (ih _ (by omega) (by omega) (by omega)) (digits_small (by omega) (by omega))
/-- The three digits behind the point. -/
def dg3 (f : Nat) : List Int := [48 + ((f / 100 : Nat) : Int), 48 + ((f / 10 % 10 : Nat) : Int), 48 + ((f % 10 : Nat) : Int)]
theorem dec1000 {f : Nat} (h : f < 1000) : decT (1000 + (f : Int)) = 49 :: dg3 f := by
 rw [decT_dig (by omega), show (1000 + (f : Int)).toNat = 1000 + f by omega]
 rw [Lib.decDigits, dif_neg (by omega), Lib.decDigits, dif_neg (by omega), Lib.decDigits, dif_neg (by omega), Lib.decDigits, dif_pos (by omega)]
 rw [show (1000 + f) / 10 / 10 / 10 = 1 by omega, show (1000 + f) / 10 / 10 % 10 = f / 100 by omega, show (1000 + f) / 10 % 10 = f / 10 % 10 by omega, show (1000 + f) % 10 = f % 10 by omega]
 simp only [List.nil_append, List.singleton_append, List.cons_append, List.map_cons, List.map_nil, dig_nat (show f / 100 < 10 by omega), dig_nat (show f / 10 % 10 < 10 by omega), dig_nat (show f % 10 < 10 by omega)]
 rfl
def chkT (f : Nat) : Bool := (List.range 4).all fun k => !(decide (1 ≤ k) && decide ((dg3 f)[k - 1]? ≠ some 48) && ((dg3 f).drop k).all (· == 48)) || decide (frL f = (dg3 f).take k)
theorem chkT_all : (List.range 1000).all chkT = true := by kernel_rfl
theorem fr_take {f k : Nat} (hf : f < 1000) (hk : k < 4) (h1 : 1 ≤ k) (h2 : (dg3 f)[k - 1]? ≠ some 48) (h3 : ((dg3 f).drop k).all (· == 48) = true) : frL f = (dg3 f).take k := by
 have := List.all_eq_true.1 chkT_all f (List.mem_range.2 hf)
 unfold chkT at this
 have := List.all_eq_true.1 this k (List.mem_range.2 hk)
 rw [decide_eq_true h1, decide_eq_true h2, h3] at this
 simpa using this
def chkZ (f : Nat) : Bool := decide (f = 0) || !((dg3 f).all (· == 48))
theorem chkZ_all : (List.range 1000).all chkZ = true := by kernel_rfl
theorem dg3_some {f : Nat} (hf : f < 1000) (h0 : f ≠ 0) : (dg3 f).all (· == 48) = false := by
 have := List.all_eq_true.1 chkZ_all f (List.mem_range.2 hf)
 unfold chkZ at this
 rw [decide_eq_false h0] at this
 simpa using this
theorem dg3_byt {f : Nat} (hf : f < 1000) : ∀ x ∈ dg3 f, 0 ≤ x ∧ x < 256 := fun x hx => by
 unfold dg3 at hx
 simp only [List.mem_cons, List.not_mem_nil, or_false] at hx
 rcases hx with h | h | h <;> omega
theorem numT_whole {n : Int} (h0 : 0 ≤ n) (h : n % 1000 = 0) : numT n = decT (n / 1000) := by
 unfold K.numT
 have : fracL n = [] := by rw [frac_eq h0, h]; rfl
 rw [this, if_pos rfl, List.append_nil]
theorem numT_frac {n : Int} (h0 : 0 ≤ n) (h : n % 1000 ≠ 0) : numT n = decT (n / 1000) ++ [46] ++ frL (n % 1000).toNat := by
 unfold K.numT
 rw [frac_eq h0]
 have hne : fr8 (n % 1000).toNat ≠ [] := fun e => by
  have hl : frL (n % 1000).toNat = [] := by unfold frL; rw [e]; rfl
  have hf := dg3_some (f := (n % 1000).toNat) (by omega) (by omega)
  have hv := (U.frL_ok (f := (n % 1000).toNat) (by omega)).2.2
  rw [hl] at hv
  have : W.valN [] 3 0 = 0 := by rfl
  omega
 rw [if_neg hne, List.append_assoc]
 rfl
set_option maxHeartbeats 2000000 in
theorem number5_any {n : Int} (h0 : 0 ≤ n) (h1 : n ≤ 999999) (w : World) : Calls Tryz.prog 67 #[.int .i64 n] w (TxB w (numT n)) := by
 have hn0 : ¬ n < 0 := by omega
 have hn1 : ¬ 999999 < n := by omega
 have hq0 : 0 ≤ n / 1000 := by omega
 have hq1 : n / 1000 ≤ 999 := by omega
 have hr0 : 0 ≤ n % 1000 := by omega
 have hr1 : n % 1000 < 1000 := by omega
 have HC := Lib.hid (digits_any _ (n / 1000) hq0 (by omega) (Nat.le_refl _) w)
 have HC2 := Lib.hid (digits_any _ (n % 1000 + 1000) (by omega) (by omega) (Nat.le_refl _))
 have hz : (strOfNums (decT (n / 1000))).size ≤ 21 := by rw [strOfNums_size]; exact decT_few (by omega) (by omega)
 unfold TxB at HC
 by_cases hm : n % 1000 = 0
 ·have HE : Hid (strOfNums (decT (n / 1000)) = strOfNums (numT n)) := by show _ = _; rw [numT_whole h0 hm]
  clear HC2
  generalize strOfNums (decT (n / 1000)) = D1 at *
  go_enter Tryz.func67, Tryz.ntmps67
  go_wp2_with fail
  refine HC.out.mono ?_
  rintro e w1 ⟨rfl, hb1⟩
  have HB1 := Lib.hid hb1
  clear hb1 HC
  go_wp2_with fail
  go_ret
  exact ⟨ret_str HE.out, HB1.out⟩
 ·obtain ⟨f, hf⟩ : ∃ f : Nat, n % 1000 = (f : Int) := ⟨(n % 1000).toNat, by omega⟩
  have hf0 : f ≠ 0 := by omega
  have hf1 : f < 1000 := by omega
  have hd : decT (n % 1000 + 1000) = 49 :: dg3 f := by rw [hf, Int.add_comm, dec1000 hf1]
  have HE : Hid (∀ k, k < 4 → 1 ≤ k → (dg3 f)[k - 1]? ≠ some 48 → ((dg3 f).drop k).all (· == 48) = true → strOfNums (decT (n / 1000)) ++ ⟨#[46]⟩ ++ strOfNums ((dg3 f).take k) = strOfNums (numT n)) := fun k a b c d => by
   rw [show (⟨#[46]⟩ : ByteArray) = strOfNums [46] from rfl, str_app2, str_app2, numT_frac h0 hm, hf, ← fr_take hf1 a b c d]; rfl
  have HD : Hid (∀ W, Calls Tryz.prog 100 #[.int .i64 (n % 1000 + 1000)] W (TxB W (49 :: dg3 f))) := fun W => by rw [← hd]; exact HC2.out W
  have HX : Hid ((strOfNums (49 :: dg3 f)).extract 1 (strOfNums (49 :: dg3 f)).size = strOfNums ((dg3 f).take 3)) := by
   show _ = _
   rw [(strIs_of (S := 49 :: dg3 f) (fun x hx => by rcases List.mem_cons.1 hx with rfl | hx; exact ⟨by decide, by decide⟩; exact dg3_byt hf1 x hx)).cut, strOfNums_size]
   rfl
  have HN := Lib.hid (dg3_some hf1 hf0)
  have HY := Lib.hid (dg3_byt hf1)
  have hms : (n % 1000 == 0) = false := by simpa using hm
  unfold TxB at HD
  clear HC2 hd hf hm hf0 hf1
  have hl3 : (dg3 f).length = 3 := rfl
  have hsz : (strOfNums (49 :: dg3 f)).size = 4 := by rw [strOfNums_size]; rfl
  generalize dg3 f = D at *
  generalize strOfNums (decT (n / 1000)) = D1 at *
  generalize strOfNums (49 :: D) = U1 at *
  go_enter Tryz.func67, Tryz.ntmps67
  go_wp2_with fail
  refine HC.out.mono ?_
  rintro e w1 ⟨rfl, hb1⟩
  have HB1 := Lib.hid hb1
  clear hb1 HC
  go_wp2_with fail
  refine (HD.out _).mono ?_
  rintro e w2 ⟨rfl, hb2⟩
  have HB2 := Lib.hid (HB1.out.trans (hb2.mono HB1.out.size))
  clear hb2 HD HB1
  go_wp2_with fail
  have HX2 : U1.extract 1 4 = strOfNums (D.take 3) := by have := HX.out; rwa [hsz] at this
  rw [HX2]
  clear HX HX2
  go_loopw [4] (fun sv wx => ∃ (k : Nat), k < 4 ∧ 1 ≤ k ∧ sv = .string (strOfNums (D.take k)) ∧ Hid ((D.drop k).all (· == 48) = true) ∧ w2 = wx) (fun sv _ => (match sv with | .string s => s.size | _ => 0))
  case atStart => exact ⟨3, by decide, by decide, rfl, (by show _ = _; rw [List.drop_of_length_le (by omega)]; rfl), by trivial⟩
  case round =>
   obtain ⟨k, hk4, hk1, rfl, HK, rfl⟩ := hrel
   have hkl : (D.take k).length = k := by rw [List.length_take]; omega
   have hks : (strOfNums (D.take k)).size = k := by rw [strOfNums_size, hkl]
   obtain ⟨x, hx⟩ : ∃ x, D[k - 1]? = some x := ⟨D[k - 1]'(by omega), List.getElem?_eq_getElem _⟩
   have hxt : (D.take k)[k - 1]? = some x := by rw [List.getElem?_take_of_lt (by omega)]; exact hx
   have hS : StrIs (strOfNums (D.take k)) (D.take k) := strIs_of fun y hy => HY.out y (List.mem_of_mem_take hy)
   have g0 : k - 1 < (strOfNums (D.take k)).size := by omega
   have g1 := hS.get hxt g0
   have HX := Lib.hid hx
   have HS := Lib.hid hS
   clear hx hxt hS
   by_cases h48 : x = 48
   ·subst h48
    have hk2 : 2 ≤ k := by
     rcases Nat.lt_or_ge k 2 with h | h
     ·obtain rfl : k = 1 := by omega
      have : D.all (· == 48) = true := by
       have hdd : D = D.take 1 ++ D.drop 1 := (List.take_append_drop 1 D).symm
       have ht1 : D.take 1 = [48] := by
        cases D with
        | nil => cases hl3
        | cons a t => have := HX.out; simp at this; simp [this]
       rw [hdd, List.all_append, ht1, HK.out]; rfl
      rw [HN.out] at this; cases this
     ·exact h
    have HK2 : Hid ((D.drop (k - 1)).all (· == 48) = true) := by
     show _ = _
     rw [List.drop_eq_getElem_cons (by omega : k - 1 < D.length), List.all_cons, show k - 1 + 1 = k by omega, HK.out]
     have : D[k - 1]'(by omega) = 48 := by have := HX.out; rw [List.getElem?_eq_getElem (by omega)] at this; injection this
     rw [this]; rfl
    have HCU : Hid ((strOfNums (D.take k)).extract 0 (k - 1) = strOfNums (D.take (k - 1))) := by
     show _ = _
     rw [HS.out.cut]
     simp only [List.drop_zero, Nat.sub_zero, List.take_take]
     rw [Nat.min_eq_left (by omega)]
    clear HN HE hkl
    generalize hT : strOfNums (D.take k) = TK at *
    go_wp2_with fail
    go_roundw
    case rel => exact ⟨k - 1, by omega, by omega, by rw [HCU.out], HK2.out, by trivial⟩
    case measure =>
     rw [HCU.out]
     show (strOfNums (D.take (k - 1))).size < TK.size
     rw [strOfNums_size, List.length_take]
     omega
   ·have HF := Lib.hid (HE.out k hk4 hk1 (by rw [HX.out]; simpa using h48) HK.out)
    have hx48 : (x == 48) = false := by simpa using h48
    have a1 : ¬ 9223372036854775807 < D1.size + 1 := by omega
    have a2 : ¬ 9223372036854775807 < D1.size + 1 + (strOfNums (D.take k)).size := by omega
    clear HN HE hkl
    go_wp2_with fail
    go_ret
    exact ⟨ret_str HF.out, HB2.out⟩
end Go.Proofs.YtmohefgdpddldaaGreatDoor
namespace Go.Proofs.YtmohefgdpddldaaGreatDoor
open Go.RowKit
open Y (Nd It)

theorem held_cell {w w' : World} {b o : Nat} {v : Value} (h : Below w.heap.size w w') (hb : b < w.heap.size) (hc : w.cell? ⟨b, o, none⟩ = some v) : w'.cell? ⟨b, o, none⟩ = some v := (h.cell (p := ⟨b, o, none⟩) hb).trans hc
/-- What is held in a round. -/
def RHeld (N b1 b2 p1 p2 : Nat) (u v : Nd) (A1 A2 : Option Addr) (n1 c1 n2 c2 : Nat) (k1 k2 : Value) (w' : World) : Prop :=
 w'.cell? ⟨N, 4, none⟩ = some k1 ∧ w'.cell? ⟨N + 1, 4, none⟩ = some k2 ∧
 w'.cell? ⟨b1, p1, none⟩ = some (.int .i64 u.kind) ∧ w'.cell? ⟨b1, p1 + 1, none⟩ = some (.string u.name) ∧ w'.cell? ⟨b1, p1 + 2, none⟩ = some (.int .i64 u.low) ∧ w'.cell? ⟨b1, p1 + 3, none⟩ = some (.int .i64 u.high) ∧ w'.cell? ⟨b1, p1 + 4, none⟩ = some (.slice A1 n1 c1) ∧
 w'.cell? ⟨b2, p2, none⟩ = some (.int .i64 v.kind) ∧ w'.cell? ⟨b2, p2 + 1, none⟩ = some (.string v.name) ∧ w'.cell? ⟨b2, p2 + 2, none⟩ = some (.int .i64 v.low) ∧ w'.cell? ⟨b2, p2 + 3, none⟩ = some (.int .i64 v.high) ∧ w'.cell? ⟨b2, p2 + 4, none⟩ = some (.slice A2 n2 c2)
/-- The document's Same, of forms of so many nodes. -/
def RSameK (k : Nat) : Prop := ∀ (x y : Nd), x.size ≤ k → ∀ (w : World) (A A' : Option Addr) (n c n' c' : Nat), RdN w (Lt w) A n c x.kids → RdN w (Lt w) A' n' c' y.kids →
 Calls Tryz.prog 20 #[.agg #[.int .i64 x.kind, .string x.name, .int .i64 x.low, .int .i64 x.high, .slice A n c], .agg #[.int .i64 y.kind, .string y.name, .int .i64 y.low, .int .i64 y.high, .slice A' n' c']] w (BooK w (eqN x y))
set_option maxHeartbeats 4000000 in
theorem rsame_any : ∀ k : Nat, RSameK k := by
 intro k
 induction k with
 | zero => intro x y h; have := Nd.size_pos x; omega
 | succ k ih =>
  intro x y hk w A A' n c n' c' ha hb
  have hkids : Y.sizeL x.kids ≤ k := by have := size_kids x; omega
  have hna := ha.len
  have hnb := hb.len
  have hsm := ha.small
  have hsm' := hb.small
  have HP := Lib.hid ((kbelow_push w (.cells #[.int .i64 x.kind, .string x.name, .int .i64 x.low, .int .i64 x.high, .slice A n c] 24)).trans ((kbelow_push _ (.cells #[.int .i64 y.kind, .string y.name, .int .i64 y.low, .int .i64 y.high, .slice A' n' c'] 24)).mono (by simp)))
  have HR1 : Hid (((w.alloc (.cells #[.int .i64 x.kind, .string x.name, .int .i64 x.low, .int .i64 x.high, .slice A n c] 24)).alloc (.cells #[.int .i64 y.kind, .string y.name, .int .i64 y.low, .int .i64 y.high, .slice A' n' c'] 24)).heap[w.heap.size]? = some (.cells #[.int .i64 x.kind, .string x.name, .int .i64 x.low, .int .i64 x.high, .slice A n c] 24 (0, 0))) := ((kbelow_push (w.alloc (.cells #[.int .i64 x.kind, .string x.name, .int .i64 x.low, .int .i64 x.high, .slice A n c] 24)) (.cells #[.int .i64 y.kind, .string y.name, .int .i64 y.low, .int .i64 y.high, .slice A' n' c'] 24)).block _ (by simp)).trans (heap_alloc_new w _)
  have HR2 : Hid (((w.alloc (.cells #[.int .i64 x.kind, .string x.name, .int .i64 x.low, .int .i64 x.high, .slice A n c] 24)).alloc (.cells #[.int .i64 y.kind, .string y.name, .int .i64 y.low, .int .i64 y.high, .slice A' n' c'] 24)).heap[w.heap.size + 1]? = some (.cells #[.int .i64 y.kind, .string y.name, .int .i64 y.low, .int .i64 y.high, .slice A' n' c'] 24 (0, 0))) := by
   have := heap_alloc_new (w.alloc (.cells #[.int .i64 x.kind, .string x.name, .int .i64 x.low, .int .i64 x.high, .slice A n c] 24)) (.cells #[.int .i64 y.kind, .string y.name, .int .i64 y.low, .int .i64 y.high, .slice A' n' c'] 24)
   rwa [show (w.alloc (.cells #[.int .i64 x.kind, .string x.name, .int .i64 x.low, .int .i64 x.high, .slice A n c] 24)).heap.size = w.heap.size + 1 by simp] at this
  have hz2 : ((w.alloc (.cells #[.int .i64 x.kind, .string x.name, .int .i64 x.low, .int .i64 x.high, .slice A n c] 24)).alloc (.cells #[.int .i64 y.kind, .string y.name, .int .i64 y.low, .int .i64 y.high, .slice A' n' c'] 24)).heap.size = w.heap.size + 2 := by simp
  have HA := Lib.hid (ha.on HP.out)
  have HB := Lib.hid (hb.on HP.out)
  clear ha hb
  by_cases h1 : x.kind = y.kind
  ·have g1 : (x.kind != y.kind) = false := by simpa using h1
   by_cases h2 : x.name = y.name
   ·have g2 : (x.name.toList == y.name.toList) = true := by rw [bs_eq]; exact decide_eq_true h2
    by_cases h3 : x.low = y.low
    ·have g3 : (x.low != y.low) = false := by simpa using h3
     by_cases h4 : x.high = y.high
     ·have g4 : (x.high != y.high) = false := by simpa using h4
      have hE := eqN_kids h1 h2 h3 h4
      by_cases h5 : n = n'
      ·subst h5
       have HF := Lib.hid hE
       clear h1 h2 h3 h4 hE
       go_enter Tryz.func20, Tryz.ntmps20
       go_wp2_with fail
       generalize hW1 : (w.alloc (.cells #[.int .i64 x.kind, .string x.name, .int .i64 x.low, .int .i64 x.high, .slice A n c] 24)).alloc (.cells #[.int .i64 y.kind, .string y.name, .int .i64 y.low, .int .i64 y.high, .slice A' n c'] 24) = W1 at *
       clear hW1
       generalize hla : x.kids = la at *
       generalize hlb : y.kids = lb at *
       clear hla hlb
       go_loopw [5] (fun iv wx => ∃ j : Nat, j ≤ n ∧ iv = .int .i64 j ∧ Hid (la.take j = lb.take j) ∧ Hid (Below W1.heap.size W1 wx)) (fun iv _ => n - (intOf iv).toNat)
       case atStart => exact ⟨0, by omega, rfl, rfl, Below.refl _ _⟩
       case round =>
        obtain ⟨j, hj, rfl, HT, HBL⟩ := hrel
        have HA2 := Lib.hid (HA.out.on HBL.out)
        have HB2 := Lib.hid (HB.out.on HBL.out)
        have hS0 : ∀ w', Below wr.heap.size wr w' → w'.cell? ⟨w.heap.size, 4, none⟩ = some (.slice A n c) ∧ w'.cell? ⟨w.heap.size + 1, 4, none⟩ = some (.slice A' n c') := fun w' h => by
         have hb := HBL.out.trans (h.mono HBL.out.size)
         exact ⟨(cells5 ((hb.block _ (by omega)).trans HR1.out)).2.2.2.2, (cells5 ((hb.block _ (by omega)).trans HR2.out)).2.2.2.2⟩
        obtain ⟨r4, q4⟩ := hS0 wr (Below.refl _ _)
        by_cases hlt : j < n
        ·obtain ⟨b1, o1, u, A1, n1, c1, hA, hb1, hx, hr1, s0, s1, s2, s3, s4⟩ := HA2.out.got hlt
         obtain ⟨b2, o2, v, A2, n2, c2, hB, hb2, hy, hr2, t0, t1, t2, t3, t4⟩ := HB2.out.got hlt
         subst hA hB
         have hS : ∀ w', Below wr.heap.size wr w' → RHeld w.heap.size b1 b2 (o1 + j * 5) (o2 + j * 5) u v A1 A2 n1 c1 n2 c2 (.slice (some ⟨b1, o1, none⟩) n c) (.slice (some ⟨b2, o2, none⟩) n c') w' := fun w' h => ⟨(hS0 w' h).1, (hS0 w' h).2, held_cell h hb1 s0, held_cell h hb1 s1, held_cell h hb1 s2, held_cell h hb1 s3, held_cell h hb1 s4, held_cell h hb2 t0, held_cell h hb2 t1, held_cell h hb2 t2, held_cell h hb2 t3, held_cell h hb2 t4⟩
         have HS := Lib.hid hS
         have HX := Lib.hid hx
         have HY := Lib.hid hy
         have HR3 := Lib.hid hr1
         have HR4 := Lib.hid hr2
         have hsz : u.size ≤ k := Nat.le_trans (size_mem hx) hkids
         have hj0 : (0 : Int) ≤ (j : Int) := by omega
         have hj1 : (j : Int) < (n : Int) := by omega
         have HC : Hid (∀ w', Below wr.heap.size wr w' → Calls Tryz.prog 20 #[.agg #[.int .i64 u.kind, .string u.name, .int .i64 u.low, .int .i64 u.high, .slice A1 n1 c1], .agg #[.int .i64 v.kind, .string v.name, .int .i64 v.low, .int .i64 v.high, .slice A2 n2 c2]] w' (BooK w' (eqN u v))) := fun w' h => ih u v hsz w' A1 A2 n1 c1 n2 c2 (HR3.out.on h) (HR4.out.on h)
         have HK0 : Hid (RHeld w.heap.size b1 b2 (o1 + j * 5) (o2 + j * 5) u v A1 A2 n1 c1 n2 c2 (.slice (some ⟨b1, o1, none⟩) n c) (.slice (some ⟨b2, o2, none⟩) n c') wr.drew) := HS.out _ (kbelow_drewN (Below.refl _ _) 1)
         have HC0 := Lib.hid (HC.out wr.drew (kbelow_drewN (Below.refl _ _) 1))
         have HBD : Hid (Below wr.heap.size wr wr.drew) := kbelow_drewN (Below.refl _ _) 1
         clear hx hy hr1 hr2 HA2 HB2 hS hS0 HC
         cases he : eqN u v with
         | true =>
          rw [he] at HC0
          have HT2 : Hid (la.take (j + 1) = lb.take (j + 1)) := by
           show _ = _
           have e := eqN_iff.1 he
           subst e
           rw [List.take_add_one, List.take_add_one, HT.out, HX.out, HY.out]
          clear HT HX HY he
          go_wp2_with fail
          go_region_held_law (fun w' => w'.cell? ⟨w.heap.size, 4, none⟩ = some (.slice (some ⟨b1, o1, none⟩) n c) ∧ w'.cell? ⟨w.heap.size + 1, 4, none⟩ = some (.slice (some ⟨b2, o2, none⟩) n c') ∧ w'.cell? ⟨b1, o1 + j * 5, none⟩ = some (.int .i64 u.kind) ∧ w'.cell? ⟨b1, o1 + j * 5 + 1, none⟩ = some (.string u.name) ∧ w'.cell? ⟨b1, o1 + j * 5 + 2, none⟩ = some (.int .i64 u.low) ∧ w'.cell? ⟨b1, o1 + j * 5 + 3, none⟩ = some (.int .i64 u.high) ∧ w'.cell? ⟨b1, o1 + j * 5 + 4, none⟩ = some (.slice A1 n1 c1) ∧ w'.cell? ⟨b2, o2 + j * 5, none⟩ = some (.int .i64 v.kind) ∧ w'.cell? ⟨b2, o2 + j * 5 + 1, none⟩ = some (.string v.name) ∧ w'.cell? ⟨b2, o2 + j * 5 + 2, none⟩ = some (.int .i64 v.low) ∧ w'.cell? ⟨b2, o2 + j * 5 + 3, none⟩ = some (.int .i64 v.high) ∧ w'.cell? ⟨b2, o2 + j * 5 + 4, none⟩ = some (.slice A2 n2 c2)) (first | exact HK0.out | exact HK1.out) ((go_at_call 20; refine HC0.out.mono ?_; rintro en w5 ⟨rfl, hb5⟩; have HB5 := Lib.hid (HBD.out.trans (hb5.mono HBD.out.size)); have HK1 := Lib.hid (HS.out w5 HB5.out); clear hb5))
          go_wp2_with fail
          go_roundw
          case rel => exact ⟨j + 1, by omega, by go_num, HT2.out, HBL.out.trans (HB5.out.mono HBL.out.size)⟩
          case measure => simp [intOf]; omega
         | false =>
          rw [he] at HC0
          have HFF : Hid (eqN x y = false) := by
           show _ = _
           rw [HF.out]
           refine eqL_no fun e => ?_
           subst e
           have e2 := HX.out.symm.trans HY.out
           injection e2 with e2
           subst e2
           rw [eqN_yes] at he
           cases he
          clear HT HX HY he HF
          go_wp2_with fail
          go_region_held_law (fun w' => w'.cell? ⟨w.heap.size, 4, none⟩ = some (.slice (some ⟨b1, o1, none⟩) n c) ∧ w'.cell? ⟨w.heap.size + 1, 4, none⟩ = some (.slice (some ⟨b2, o2, none⟩) n c') ∧ w'.cell? ⟨b1, o1 + j * 5, none⟩ = some (.int .i64 u.kind) ∧ w'.cell? ⟨b1, o1 + j * 5 + 1, none⟩ = some (.string u.name) ∧ w'.cell? ⟨b1, o1 + j * 5 + 2, none⟩ = some (.int .i64 u.low) ∧ w'.cell? ⟨b1, o1 + j * 5 + 3, none⟩ = some (.int .i64 u.high) ∧ w'.cell? ⟨b1, o1 + j * 5 + 4, none⟩ = some (.slice A1 n1 c1) ∧ w'.cell? ⟨b2, o2 + j * 5, none⟩ = some (.int .i64 v.kind) ∧ w'.cell? ⟨b2, o2 + j * 5 + 1, none⟩ = some (.string v.name) ∧ w'.cell? ⟨b2, o2 + j * 5 + 2, none⟩ = some (.int .i64 v.low) ∧ w'.cell? ⟨b2, o2 + j * 5 + 3, none⟩ = some (.int .i64 v.high) ∧ w'.cell? ⟨b2, o2 + j * 5 + 4, none⟩ = some (.slice A2 n2 c2)) (first | exact HK0.out | exact HK1.out) ((go_at_call 20; refine HC0.out.mono ?_; rintro en w5 ⟨rfl, hb5⟩; have HB5 := Lib.hid (HBD.out.trans (hb5.mono HBD.out.size)); have HK1 := Lib.hid (HS.out w5 HB5.out); clear hb5))
          go_wp2_with fail
          go_ret
          exact ⟨sret_bool HFF.out.symm, HP.out.trans ((HBL.out.trans (HB5.out.mono HBL.out.size)).mono HP.out.size)⟩
        ·obtain rfl : j = n := by omega
         have HFF : Hid (eqN x y = true) := by
          show _ = _
          rw [HF.out]
          refine eqL_iff.2 ?_
          have := HT.out
          rwa [List.take_of_length_le (by omega), List.take_of_length_le (by omega)] at this
         clear HT HA2 HB2 HF
         go_wp2_with fail
         go_ret
         exact ⟨sret_bool HFF.out.symm, HP.out.trans (HBL.out.mono HP.out.size)⟩
      ·have g5 : ((n : Int) != (n' : Int)) = true := by rw [bne_iff_ne]; omega
       have HF : Hid (eqN x y = false) := by
        show _ = _
        rw [hE]
        exact eqL_no fun e => h5 (by rw [← hna, ← hnb, e])
       clear h1 h2 h3 h4 hE
       go_enter Tryz.func20, Tryz.ntmps20
       go_wp2_with fail
       go_ret
       exact ⟨sret_bool HF.out.symm, HP.out⟩
     ·have g4 : (x.high != y.high) = true := by rw [bne_iff_ne]; exact h4
      have HF := Lib.hid (eqN_no (x := x) (y := y) fun e => h4 (by rw [e]))
      clear h1 h2 h3 h4
      go_enter Tryz.func20, Tryz.ntmps20
      go_wp2_with fail
      go_ret
      exact ⟨sret_bool HF.out.symm, HP.out⟩
    ·have g3 : (x.low != y.low) = true := by rw [bne_iff_ne]; exact h3
     have HF := Lib.hid (eqN_no (x := x) (y := y) fun e => h3 (by rw [e]))
     clear h1 h2 h3
     go_enter Tryz.func20, Tryz.ntmps20
     go_wp2_with fail
     go_ret
     exact ⟨sret_bool HF.out.symm, HP.out⟩
   ·have g2 : (x.name.toList == y.name.toList) = false := by rw [bs_eq]; exact decide_eq_false h2
    have HF := Lib.hid (eqN_no (x := x) (y := y) fun e => h2 (by rw [e]))
    clear h1 h2
    go_enter Tryz.func20, Tryz.ntmps20
    go_wp2_with fail
    go_ret
    exact ⟨sret_bool HF.out.symm, HP.out⟩
  ·have g1 : (x.kind != y.kind) = true := by rw [bne_iff_ne]; exact h1
   have HF := Lib.hid (eqN_no (x := x) (y := y) fun e => h1 (by rw [e]))
   clear h1
   go_enter Tryz.func20, Tryz.ntmps20
   go_wp2_with fail
   go_ret
   exact ⟨sret_bool HF.out.symm, HP.out⟩
end Go.Proofs.YtmohefgdpddldaaGreatDoor
namespace Go.Proofs.YtmohefgdpddldaaGreatDoor
open Go.RowKit
open Y (Nd It noName zeroN)
open K (numsOf nameB aloneB rightB noneB numOk mayB threeB twoB behindT betweenT brkB rngT txt kidsT partT anyB decT fracL numT lineT itemsT)
open W (lettersB)

theorem str_none' {s : ByteArray} (h : s.size = 0) : s = noName := by
 apply ByteArray.ext
 exact Array.eq_empty_of_size_eq_zero h
theorem zero_none (x : Nd) : eqN x zeroN = noneB x := by
 rw [Bool.eq_iff_iff, eqN_iff]
 unfold K.noneB K.aloneB
 simp only [Bool.and_eq_true, decide_eq_true_eq]
 constructor
 ·rintro rfl
  exact ⟨⟨rfl, ⟨rfl, rfl⟩, rfl⟩, rfl⟩
 ·cases x with
  | mk k s lo hi l =>
   rintro ⟨⟨h1, ⟨h2, h3⟩, h4⟩, h5⟩
   simp only [Nd.kind, Nd.name, Nd.low, Nd.high, Nd.kids] at h1 h2 h3 h4 h5
   subst h1 h3 h4
   rw [List.eq_nil_of_length_eq_zero h5, str_none' h2]
   rfl
set_option maxHeartbeats 1000000 in
theorem none7_any {x : Nd} {w : World} {A : Option Addr} {n c : Nat} (ha : RdN w (Lt w) A n c x.kids) :
  Calls Tryz.prog 36 #[.agg #[.int .i64 x.kind, .string x.name, .int .i64 x.low, .int .i64 x.high, .slice A n c]] w (BooK w (noneB x)) := by
 have HP := Lib.hid (kbelow_push w (.cells #[.int .i64 x.kind, .string x.name, .int .i64 x.low, .int .i64 x.high, .slice A n c] 24))
 have HA := Lib.hid (ha.on HP.out)
 have HROW := Lib.hid (heap_alloc_new w (.cells #[.int .i64 x.kind, .string x.name, .int .i64 x.low, .int .i64 x.high, .slice A n c] 24))
 have hz : (w.alloc (.cells #[.int .i64 x.kind, .string x.name, .int .i64 x.low, .int .i64 x.high, .slice A n c] 24)).heap.size = w.heap.size + 1 := by simp
 have hsm := ha.small
 have HB : Hid (Below w.heap.size w (w.alloc (.cells #[.int .i64 x.kind, .string x.name, .int .i64 x.low, .int .i64 x.high, .slice A n c] 24))) := HP.out
 have HC := Lib.hid (rsame_any _ x zeroN (Nat.le_refl _) _ A none n c 0 0 HA.out (RdN.nil _ _))
 rw [zero_none] at HC
 clear ha HA
 go_enter Tryz.func36, Tryz.ntmps36
 go_wp2_with fail
 refine HC.out.mono ?_
 rintro e w2 ⟨rfl, hb⟩
 have HB2 := Lib.hid (HB.out.trans (hb.mono HB.out.size))
 clear hb HC
 go_wp2_with fail
 go_ret
 exact ⟨rfl, HB2.out⟩
theorem num_ok (n : Int) : numOk n = (decide (0 ≤ n) && decide (n ≤ 999999)) := rfl
theorem num_all (n : Int) : (decide (n = -1) || numOk n) = (decide (-1 ≤ n) && decide (n ≤ 999999)) := by
 rw [Bool.eq_iff_iff, num_ok]
 simp only [Bool.or_eq_true, Bool.and_eq_true, decide_eq_true_eq]
 omega
theorem may7_eq (x : It) : mayB x = if x.kind = 1 then nameB (numsOf x.name) && (x.number == 0) && !x.cut && rightB x.before && noneB x.after
  else if x.kind = 2 then decide (x.name.size = 0) && decide (0 ≤ x.number) && decide (x.number ≤ 999999) && rightB x.before && rightB x.after
  else if x.kind = 3 then lettersB (numsOf x.name) && decide (-1 ≤ x.number) && decide (x.number ≤ 999999) && !x.cut && noneB x.before && noneB x.after
  else false := by
 unfold K.mayB
 simp only [beqd, num_all]
 simp only [num_ok, Bool.and_assoc]
set_option maxHeartbeats 8000000 in
theorem may7_any {x : It} {w : World} {Ab Aa : Option Addr} {nb cb na ca : Nat} (hs : x.name.size ≤ 140737488355328) (hkb : RdN w (Lt w) Ab nb cb x.before.kids) (hka : RdN w (Lt w) Aa na ca x.after.kids) :
  Calls Tryz.prog 15 #[.agg #[.int .i64 x.kind, .string x.name, .int .i64 x.number, .bool x.cut, .int .i64 x.before.kind, .string x.before.name, .int .i64 x.before.low, .int .i64 x.before.high, .slice Ab nb cb, .int .i64 x.after.kind, .string x.after.name, .int .i64 x.after.low, .int .i64 x.after.high, .slice Aa na ca, .int .i64 x.pos]] w (BooK w (mayB x)) := by
 have HP := Lib.hid (kbelow_push w (.cells #[.int .i64 x.kind, .string x.name, .int .i64 x.number, .bool x.cut, .int .i64 x.before.kind, .string x.before.name, .int .i64 x.before.low, .int .i64 x.before.high, .slice Ab nb cb, .int .i64 x.after.kind, .string x.after.name, .int .i64 x.after.low, .int .i64 x.after.high, .slice Aa na ca, .int .i64 x.pos] 35))
 have HROW := Lib.hid (heap_alloc_new w (.cells #[.int .i64 x.kind, .string x.name, .int .i64 x.number, .bool x.cut, .int .i64 x.before.kind, .string x.before.name, .int .i64 x.before.low, .int .i64 x.before.high, .slice Ab nb cb, .int .i64 x.after.kind, .string x.after.name, .int .i64 x.after.low, .int .i64 x.after.high, .slice Aa na ca, .int .i64 x.pos] 35))
 have hz : (w.alloc (.cells #[.int .i64 x.kind, .string x.name, .int .i64 x.number, .bool x.cut, .int .i64 x.before.kind, .string x.before.name, .int .i64 x.before.low, .int .i64 x.before.high, .slice Ab nb cb, .int .i64 x.after.kind, .string x.after.name, .int .i64 x.after.low, .int .i64 x.after.high, .slice Aa na ca, .int .i64 x.pos] 35)).heap.size = w.heap.size + 1 := by simp
 have HB : Hid (Below w.heap.size w (w.alloc (.cells #[.int .i64 x.kind, .string x.name, .int .i64 x.number, .bool x.cut, .int .i64 x.before.kind, .string x.before.name, .int .i64 x.before.low, .int .i64 x.before.high, .slice Ab nb cb, .int .i64 x.after.kind, .string x.after.name, .int .i64 x.after.low, .int .i64 x.after.high, .slice Aa na ca, .int .i64 x.pos] 35))) := HP.out
 have HRB : Hid (∀ W, Below w.heap.size w W → Calls Tryz.prog 17 #[.agg #[.int .i64 x.before.kind, .string x.before.name, .int .i64 x.before.low, .int .i64 x.before.high, .slice Ab nb cb]] W (BooK W (rightB x.before))) := fun W h => right7_any (hkb.on h)
 have HRA : Hid (∀ W, Below w.heap.size w W → Calls Tryz.prog 17 #[.agg #[.int .i64 x.after.kind, .string x.after.name, .int .i64 x.after.low, .int .i64 x.after.high, .slice Aa na ca]] W (BooK W (rightB x.after))) := fun W h => right7_any (hka.on h)
 have HNB : Hid (∀ W, Below w.heap.size w W → Calls Tryz.prog 36 #[.agg #[.int .i64 x.before.kind, .string x.before.name, .int .i64 x.before.low, .int .i64 x.before.high, .slice Ab nb cb]] W (BooK W (noneB x.before))) := fun W h => none7_any (hkb.on h)
 have HNA : Hid (∀ W, Below w.heap.size w W → Calls Tryz.prog 36 #[.agg #[.int .i64 x.after.kind, .string x.after.name, .int .i64 x.after.low, .int .i64 x.after.high, .slice Aa na ca]] W (BooK W (noneB x.after))) := fun W h => none7_any (hka.on h)
 have HNM : Hid (∀ W, Calls Tryz.prog 35 #[.string x.name] W fun e w' => e = .returned (.bool (nameB (numsOf x.name))) ∧ W = w') := fun W => dname7_any _ W
 have HLT : Hid (∀ W, Calls Tryz.prog 37 #[.string x.name] W fun e w' => e = .returned (.bool (lettersB (numsOf x.name))) ∧ W = w') := fun W => dletters_any (strIs_nums x.name) (by rw [K.numsOf_len]; exact hs)
 have hF := may7_eq x
 clear hkb hka hs
 generalize mayB x = res at *
 generalize nameB (numsOf x.name) = qn at *
 generalize lettersB (numsOf x.name) = ql at *
 generalize rightB x.before = qb at *
 generalize rightB x.after = qa at *
 generalize noneB x.before = qnb at *
 generalize noneB x.after = qna at *
 generalize x.cut = cut at *
 by_cases h1 : x.kind = 1
 ·rw [if_pos h1] at hF
  have k1 : (x.kind == 1) = true := by rw [beqd]; exact decide_eq_true h1
  have HF := Lib.hid hF
  clear hF h1 HRA HNB HLT
  go_enter Tryz.func15, Tryz.ntmps15
  go_wp2_with fail
  generalize w.alloc (.cells #[.int .i64 x.kind, .string x.name, .int .i64 x.number, .bool x.cut, .int .i64 x.before.kind, .string x.before.name, .int .i64 x.before.low, .int .i64 x.before.high, .slice Ab nb cb, .int .i64 x.after.kind, .string x.after.name, .int .i64 x.after.low, .int .i64 x.after.high, .slice Aa na ca, .int .i64 x.pos] 35) = W1 at *
  refine (HNM.out _).mono ?_
  rintro e w2 ⟨rfl, rfl⟩
  obtain ⟨r0, r1, r2, r3, r4, r5, r6, r7, r8, r9, r10, r11, r12, r13, r14⟩ := cells15 HROW.out
  cases qn with
  | false =>
   go_wp2_with fail
   go_ret
   exact ⟨ret_bool (by rw [HF.out]; rfl), HB.out⟩
  | true =>
   cases g1 : (x.number == 0) with
   | false =>
    rw [g1] at HF
    go_wp2_with fail
    go_ret
    exact ⟨ret_bool (by rw [HF.out]; rfl), HB.out⟩
   | true =>
    rw [g1] at HF
    cases cut with
    | true =>
     go_wp2_with fail
     go_ret
     exact ⟨ret_bool (by rw [HF.out]; rfl), HB.out⟩
    | false =>
     go_wp2_with fail
     refine (HRB.out _ HB.out).mono ?_
     rintro e w2 ⟨rfl, hb2⟩
     have HB2 := Lib.hid (HB.out.trans (hb2.mono HB.out.size))
     clear HB
     have HB := HB2
     clear HB2
     have HROW2 := Lib.hid ((hb2.block w.heap.size (by omega)).trans HROW.out)
     clear HROW
     have HROW := HROW2
     clear HROW2
     obtain ⟨r0, r1, r2, r3, r4, r5, r6, r7, r8, r9, r10, r11, r12, r13, r14⟩ := cells15 HROW.out
     have hz2 := hb2.size
     clear hb2
     cases qb with
     | false =>
      go_wp2_with fail
      go_ret
      exact ⟨ret_bool (by rw [HF.out]; rfl), HB.out⟩
     | true =>
      go_wp2_with fail
      refine (HNA.out _ HB.out).mono ?_
      rintro e w2 ⟨rfl, hb2⟩
      have HB2 := Lib.hid (HB.out.trans (hb2.mono HB.out.size))
      clear HB
      have HB := HB2
      clear HB2
      have HROW2 := Lib.hid ((hb2.block w.heap.size (by omega)).trans HROW.out)
      clear HROW
      have HROW := HROW2
      clear HROW2
      obtain ⟨r0, r1, r2, r3, r4, r5, r6, r7, r8, r9, r10, r11, r12, r13, r14⟩ := cells15 HROW.out
      have hz2 := hb2.size
      clear hb2
      go_wp2_with fail
      go_ret
      exact ⟨ret_bool (by rw [HF.out]; rfl), HB.out⟩
 ·rw [if_neg h1] at hF
  have k1 : (x.kind == 1) = false := by rw [beqd]; exact decide_eq_false h1
  by_cases h2 : x.kind = 2
  ·rw [if_pos h2] at hF
   have k2 : (x.kind == 2) = true := by rw [beqd]; exact decide_eq_true h2
   have HF := Lib.hid hF
   clear hF h1 h2 HNB HNA HLT HNM
   go_enter Tryz.func15, Tryz.ntmps15
   by_cases g0 : x.name.size = 0
   ·have g0' := str_none g0
    rw [decide_eq_true g0] at HF
    clear g0
    by_cases u0 : 0 ≤ x.number
    ·rw [decide_eq_true u0] at HF
     by_cases u1 : x.number ≤ 999999
     ·rw [decide_eq_true u1] at HF
      go_wp2_with fail
      generalize w.alloc (.cells #[.int .i64 x.kind, .string x.name, .int .i64 x.number, .bool x.cut, .int .i64 x.before.kind, .string x.before.name, .int .i64 x.before.low, .int .i64 x.before.high, .slice Ab nb cb, .int .i64 x.after.kind, .string x.after.name, .int .i64 x.after.low, .int .i64 x.after.high, .slice Aa na ca, .int .i64 x.pos] 35) = W1 at *
      refine (HRB.out _ HB.out).mono ?_
      rintro e w2 ⟨rfl, hb2⟩
      have HB2 := Lib.hid (HB.out.trans (hb2.mono HB.out.size))
      clear HB
      have HB := HB2
      clear HB2
      have HROW2 := Lib.hid ((hb2.block w.heap.size (by omega)).trans HROW.out)
      clear HROW
      have HROW := HROW2
      clear HROW2
      obtain ⟨r0, r1, r2, r3, r4, r5, r6, r7, r8, r9, r10, r11, r12, r13, r14⟩ := cells15 HROW.out
      have hz2 := hb2.size
      clear hb2
      cases qb with
      | false =>
       go_wp2_with fail
       go_ret
       exact ⟨ret_bool (by rw [HF.out]; rfl), HB.out⟩
      | true =>
       go_wp2_with fail
       refine (HRA.out _ HB.out).mono ?_
       rintro e w2 ⟨rfl, hb2⟩
       have HB2 := Lib.hid (HB.out.trans (hb2.mono HB.out.size))
       clear HB
       have HB := HB2
       clear HB2
       have HROW2 := Lib.hid ((hb2.block w.heap.size (by omega)).trans HROW.out)
       clear HROW
       have HROW := HROW2
       clear HROW2
       obtain ⟨r0, r1, r2, r3, r4, r5, r6, r7, r8, r9, r10, r11, r12, r13, r14⟩ := cells15 HROW.out
       have hz2 := hb2.size
       clear hb2
       go_wp2_with fail
       go_ret
       exact ⟨ret_bool (by rw [HF.out]; rfl), HB.out⟩
     ·rw [decide_eq_false u1] at HF
      go_wp2_with fail
      go_ret
      exact ⟨ret_bool (by rw [HF.out]; rfl), HB.out⟩
    ·rw [decide_eq_false u0] at HF
     go_wp2_with fail
     go_ret
     exact ⟨ret_bool (by rw [HF.out]; rfl), HB.out⟩
   ·have g0' := str_some g0
    rw [decide_eq_false g0] at HF
    clear g0
    go_wp2_with fail
    go_ret
    exact ⟨ret_bool (by rw [HF.out]; rfl), HB.out⟩
  ·rw [if_neg h2] at hF
   have k2 : (x.kind == 2) = false := by rw [beqd]; exact decide_eq_false h2
   by_cases h3 : x.kind = 3
   ·rw [if_pos h3] at hF
    have k3 : (x.kind == 3) = true := by rw [beqd]; exact decide_eq_true h3
    have HF := Lib.hid hF
    clear hF h1 h2 h3 HRB HRA HNM
    go_enter Tryz.func15, Tryz.ntmps15
    go_wp2_with fail
    generalize w.alloc (.cells #[.int .i64 x.kind, .string x.name, .int .i64 x.number, .bool x.cut, .int .i64 x.before.kind, .string x.before.name, .int .i64 x.before.low, .int .i64 x.before.high, .slice Ab nb cb, .int .i64 x.after.kind, .string x.after.name, .int .i64 x.after.low, .int .i64 x.after.high, .slice Aa na ca, .int .i64 x.pos] 35) = W1 at *
    refine (HLT.out _).mono ?_
    rintro e w2 ⟨rfl, rfl⟩
    obtain ⟨r0, r1, r2, r3, r4, r5, r6, r7, r8, r9, r10, r11, r12, r13, r14⟩ := cells15 HROW.out
    cases ql with
    | false =>
     go_wp2_with fail
     go_ret
     exact ⟨ret_bool (by rw [HF.out]; rfl), HB.out⟩
    | true =>
     by_cases u0 : -1 ≤ x.number
     ·rw [decide_eq_true u0] at HF
      by_cases u1 : x.number ≤ 999999
      ·rw [decide_eq_true u1] at HF
       cases cut with
       | true =>
        go_wp2_with fail
        go_ret
        exact ⟨ret_bool (by rw [HF.out]; rfl), HB.out⟩
       | false =>
        go_wp2_with fail
        refine (HNB.out _ HB.out).mono ?_
        rintro e w2 ⟨rfl, hb2⟩
        have HB2 := Lib.hid (HB.out.trans (hb2.mono HB.out.size))
        clear HB
        have HB := HB2
        clear HB2
        have HROW2 := Lib.hid ((hb2.block w.heap.size (by omega)).trans HROW.out)
        clear HROW
        have HROW := HROW2
        clear HROW2
        obtain ⟨r0, r1, r2, r3, r4, r5, r6, r7, r8, r9, r10, r11, r12, r13, r14⟩ := cells15 HROW.out
        have hz2 := hb2.size
        clear hb2
        cases qnb with
        | false =>
         go_wp2_with fail
         go_ret
         exact ⟨ret_bool (by rw [HF.out]; rfl), HB.out⟩
        | true =>
         go_wp2_with fail
         refine (HNA.out _ HB.out).mono ?_
         rintro e w2 ⟨rfl, hb2⟩
         have HB2 := Lib.hid (HB.out.trans (hb2.mono HB.out.size))
         clear HB
         have HB := HB2
         clear HB2
         have HROW2 := Lib.hid ((hb2.block w.heap.size (by omega)).trans HROW.out)
         clear HROW
         have HROW := HROW2
         clear HROW2
         obtain ⟨r0, r1, r2, r3, r4, r5, r6, r7, r8, r9, r10, r11, r12, r13, r14⟩ := cells15 HROW.out
         have hz2 := hb2.size
         clear hb2
         go_wp2_with fail
         go_ret
         exact ⟨ret_bool (by rw [HF.out]; rfl), HB.out⟩
      ·rw [decide_eq_false u1] at HF
       go_wp2_with fail
       go_ret
       exact ⟨ret_bool (by rw [HF.out]; rfl), HB.out⟩
     ·rw [decide_eq_false u0] at HF
      go_wp2_with fail
      go_ret
      exact ⟨ret_bool (by rw [HF.out]; rfl), HB.out⟩
   ·rw [if_neg h3] at hF
    have k3 : (x.kind == 3) = false := by rw [beqd]; exact decide_eq_false h3
    have HF := Lib.hid hF
    clear hF h1 h2 h3 HRB HRA HNM HNB HNA HLT
    go_enter Tryz.func15, Tryz.ntmps15
    go_wp2_with fail
    go_ret
    exact ⟨ret_bool HF.out.symm, HB.out⟩
end Go.Proofs.YtmohefgdpddldaaGreatDoor
namespace Go.Proofs.YtmohefgdpddldaaGreatDoor
open Go.RowKit
open Y (Nd It noName zeroN)
open K (numsOf nameB aloneB rightB noneB numOk mayB threeB twoB behindT betweenT brkB rngT txt kidsT partT anyB decT fracL numT lineT itemsT)
open W (lettersB)

theorem line_cat (a : List Int) (n : ByteArray) (b t z : List Int) : strOfNums (a ++ numsOf n ++ b ++ t ++ z) = strOfNums a ++ n ++ strOfNums b ++ strOfNums t ++ strOfNums z := by
 rw [← str_app2, ← str_app2, ← str_app2, ← str_app2, K.strOf_numsOf]
theorem line_cat2 (a : List Int) (n : ByteArray) (z : List Int) : strOfNums (a ++ numsOf n ++ z) = strOfNums a ++ n ++ strOfNums z := by
 rw [← str_app2, ← str_app2, K.strOf_numsOf]
theorem line_cat8 (a b c d e f g h : List Int) : strOfNums a ++ strOfNums b ++ strOfNums c ++ strOfNums d ++ strOfNums e ++ strOfNums f ++ strOfNums g ++ strOfNums h = strOfNums (a ++ b ++ c ++ d ++ e ++ f ++ g ++ h) := by
 simp only [str_app2]
set_option maxHeartbeats 8000000 in
theorem line1 {x : It} (hm : mayB x = true) {w : World} {Ab Aa : Option Addr} {nb cb na ca : Nat} (hkb : RdN w (Lt w) Ab nb cb x.before.kids) (hka : RdN w (Lt w) Aa na ca x.after.kids) (h1 : x.kind = 1) :
  Calls Tryz.prog 30 #[.agg #[.int .i64 x.kind, .string x.name, .int .i64 x.number, .bool x.cut, .int .i64 x.before.kind, .string x.before.name, .int .i64 x.before.low, .int .i64 x.before.high, .slice Ab nb cb, .int .i64 x.after.kind, .string x.after.name, .int .i64 x.after.low, .int .i64 x.after.high, .slice Aa na ca, .int .i64 x.pos]] w (TxB w (lineT x ++ [10])) := by
 have HP := Lib.hid (kbelow_push w (.cells #[.int .i64 x.kind, .string x.name, .int .i64 x.number, .bool x.cut, .int .i64 x.before.kind, .string x.before.name, .int .i64 x.before.low, .int .i64 x.before.high, .slice Ab nb cb, .int .i64 x.after.kind, .string x.after.name, .int .i64 x.after.low, .int .i64 x.after.high, .slice Aa na ca, .int .i64 x.pos] 35))
 have HROW := Lib.hid (heap_alloc_new w (.cells #[.int .i64 x.kind, .string x.name, .int .i64 x.number, .bool x.cut, .int .i64 x.before.kind, .string x.before.name, .int .i64 x.before.low, .int .i64 x.before.high, .slice Ab nb cb, .int .i64 x.after.kind, .string x.after.name, .int .i64 x.after.low, .int .i64 x.after.high, .slice Aa na ca, .int .i64 x.pos] 35))
 have hz : (w.alloc (.cells #[.int .i64 x.kind, .string x.name, .int .i64 x.number, .bool x.cut, .int .i64 x.before.kind, .string x.before.name, .int .i64 x.before.low, .int .i64 x.before.high, .slice Ab nb cb, .int .i64 x.after.kind, .string x.after.name, .int .i64 x.after.low, .int .i64 x.after.high, .slice Aa na ca, .int .i64 x.pos] 35)).heap.size = w.heap.size + 1 := by simp
 have HB : Hid (Below w.heap.size w (w.alloc (.cells #[.int .i64 x.kind, .string x.name, .int .i64 x.number, .bool x.cut, .int .i64 x.before.kind, .string x.before.name, .int .i64 x.before.low, .int .i64 x.before.high, .slice Ab nb cb, .int .i64 x.after.kind, .string x.after.name, .int .i64 x.after.low, .int .i64 x.after.high, .slice Aa na ca, .int .i64 x.pos] 35))) := HP.out
 unfold K.mayB at hm
 rw [if_pos h1] at hm
 simp only [Bool.and_eq_true] at hm
 have hnl := K.name_len hm.1.1.1.1
 rw [K.numsOf_len] at hnl
 have hrb := hm.1.2
 have HTb : Hid (∀ W, Below w.heap.size w W → Calls Tryz.prog 26 #[.agg #[.int .i64 x.before.kind, .string x.before.name, .int .i64 x.before.low, .int .i64 x.before.high, .slice Ab nb cb]] W (TxB W (txt x.before))) := fun W h => text7_any (K.right_any hrb).1 (right_anyB hrb) (hkb.on h)
 have htl := right_len hrb
 have hts : (strOfNums (txt x.before)).size ≤ 15000 := by rw [strOfNums_size]; exact htl
 have HE : Hid (⟨#[36]⟩ ++ x.name ++ ⟨#[32, 61, 32]⟩ ++ strOfNums (txt x.before) ++ ⟨#[10]⟩ = strOfNums (lineT x ++ [10])) := by
  show _ = _
  unfold K.lineT
  rw [if_pos h1]
  exact (line_cat [36] x.name [32, 61, 32] (txt x.before) [10]).symm
 have a1 : ¬ 9223372036854775807 < 1 + x.name.size := by omega
 have a2 : ¬ 9223372036854775807 < 1 + x.name.size + 3 := by omega
 have a3 : ¬ 9223372036854775807 < 1 + x.name.size + 3 + (strOfNums (txt x.before)).size := by omega
 have a4 : ¬ 9223372036854775807 < 1 + x.name.size + 3 + (strOfNums (txt x.before)).size + 1 := by omega
 have k1 : (x.kind == 1) = true := by rw [h1]; rfl
 unfold TxB at HTb
 generalize strOfNums (txt x.before) = TB at *
 clear hm hrb htl hka h1
 go_enter Tryz.func30, Tryz.ntmps30
 go_wp2_with fail
 generalize w.alloc (.cells #[.int .i64 x.kind, .string x.name, .int .i64 x.number, .bool x.cut, .int .i64 x.before.kind, .string x.before.name, .int .i64 x.before.low, .int .i64 x.before.high, .slice Ab nb cb, .int .i64 x.after.kind, .string x.after.name, .int .i64 x.after.low, .int .i64 x.after.high, .slice Aa na ca, .int .i64 x.pos] 35) = W1 at *
 have hN : w.heap.size < W1.heap.size := by omega
 have HBD : Hid (Below W1.heap.size W1 W1.drew) := kbelow_drewN (Below.refl _ _) 1
 have HBW : Hid (Below w.heap.size w W1.drew) := HB.out.trans (HBD.out.mono HB.out.size)
 have HR0 : Hid (W1.drew.heap[w.heap.size]? = some (.cells #[.int .i64 x.kind, .string x.name, .int .i64 x.number, .bool x.cut, .int .i64 x.before.kind, .string x.before.name, .int .i64 x.before.low, .int .i64 x.before.high, .slice Ab nb cb, .int .i64 x.after.kind, .string x.after.name, .int .i64 x.after.low, .int .i64 x.after.high, .slice Aa na ca, .int .i64 x.pos] 35 (0, 0))) := HROW.out
 have HK0 : Hid ((fun w' => w'.cell? ⟨w.heap.size, 1, none⟩ = some (.string x.name) ∧ w'.cell? ⟨w.heap.size, 4, none⟩ = some (.int .i64 x.before.kind) ∧ w'.cell? ⟨w.heap.size, 5, none⟩ = some (.string x.before.name) ∧ w'.cell? ⟨w.heap.size, 6, none⟩ = some (.int .i64 x.before.low) ∧ w'.cell? ⟨w.heap.size, 7, none⟩ = some (.int .i64 x.before.high) ∧ w'.cell? ⟨w.heap.size, 8, none⟩ = some (.slice Ab nb cb)) W1.drew) := by obtain ⟨r0, r1, r2, r3, r4, r5, r6, r7, r8, r9, r10, r11, r12, r13, r14⟩ := cells15 HR0.out; exact ⟨r1, r4, r5, r6, r7, r8⟩
 go_region_held_law (fun w' => w'.cell? ⟨w.heap.size, 1, none⟩ = some (.string x.name) ∧ w'.cell? ⟨w.heap.size, 4, none⟩ = some (.int .i64 x.before.kind) ∧ w'.cell? ⟨w.heap.size, 5, none⟩ = some (.string x.before.name) ∧ w'.cell? ⟨w.heap.size, 6, none⟩ = some (.int .i64 x.before.low) ∧ w'.cell? ⟨w.heap.size, 7, none⟩ = some (.int .i64 x.before.high) ∧ w'.cell? ⟨w.heap.size, 8, none⟩ = some (.slice Ab nb cb)) (first | exact HK0.out | exact HK1.out) ((go_at_call 26; (with_reducible refine (HTb.out _ HBW.out).mono ?_); rintro e u1 ⟨rfl, hu1⟩; have HB1 := Lib.hid (HBW.out.trans (hu1.mono HBW.out.size)); have HR1 : Hid (u1.heap[w.heap.size]? = some (.cells #[.int .i64 x.kind, .string x.name, .int .i64 x.number, .bool x.cut, .int .i64 x.before.kind, .string x.before.name, .int .i64 x.before.low, .int .i64 x.before.high, .slice Ab nb cb, .int .i64 x.after.kind, .string x.after.name, .int .i64 x.after.low, .int .i64 x.after.high, .slice Aa na ca, .int .i64 x.pos] 35 (0, 0))) := (hu1.block w.heap.size hN).trans HR0.out; have HK1 : Hid ((fun w' => w'.cell? ⟨w.heap.size, 1, none⟩ = some (.string x.name) ∧ w'.cell? ⟨w.heap.size, 4, none⟩ = some (.int .i64 x.before.kind) ∧ w'.cell? ⟨w.heap.size, 5, none⟩ = some (.string x.before.name) ∧ w'.cell? ⟨w.heap.size, 6, none⟩ = some (.int .i64 x.before.low) ∧ w'.cell? ⟨w.heap.size, 7, none⟩ = some (.int .i64 x.before.high) ∧ w'.cell? ⟨w.heap.size, 8, none⟩ = some (.slice Ab nb cb)) u1) := (by obtain ⟨r0, r1, r2, r3, r4, r5, r6, r7, r8, r9, r10, r11, r12, r13, r14⟩ := cells15 HR1.out; exact ⟨r1, r4, r5, r6, r7, r8⟩); clear hu1))
 go_wp2_with fail
 go_ret
 exact ⟨ret_str HE.out, HB1.out⟩
set_option maxHeartbeats 8000000 in
theorem line3a {x : It} (hm : mayB x = true) {w : World} {Ab Aa : Option Addr} {nb cb na ca : Nat} (hkb : RdN w (Lt w) Ab nb cb x.before.kids) (hka : RdN w (Lt w) Aa na ca x.after.kids) (h3 : x.kind = 3) (hq : x.number = -1) :
  Calls Tryz.prog 30 #[.agg #[.int .i64 x.kind, .string x.name, .int .i64 x.number, .bool x.cut, .int .i64 x.before.kind, .string x.before.name, .int .i64 x.before.low, .int .i64 x.before.high, .slice Ab nb cb, .int .i64 x.after.kind, .string x.after.name, .int .i64 x.after.low, .int .i64 x.after.high, .slice Aa na ca, .int .i64 x.pos]] w (TxB w (lineT x ++ [10])) := by
 have HP := Lib.hid (kbelow_push w (.cells #[.int .i64 x.kind, .string x.name, .int .i64 x.number, .bool x.cut, .int .i64 x.before.kind, .string x.before.name, .int .i64 x.before.low, .int .i64 x.before.high, .slice Ab nb cb, .int .i64 x.after.kind, .string x.after.name, .int .i64 x.after.low, .int .i64 x.after.high, .slice Aa na ca, .int .i64 x.pos] 35))
 have HROW := Lib.hid (heap_alloc_new w (.cells #[.int .i64 x.kind, .string x.name, .int .i64 x.number, .bool x.cut, .int .i64 x.before.kind, .string x.before.name, .int .i64 x.before.low, .int .i64 x.before.high, .slice Ab nb cb, .int .i64 x.after.kind, .string x.after.name, .int .i64 x.after.low, .int .i64 x.after.high, .slice Aa na ca, .int .i64 x.pos] 35))
 have hz : (w.alloc (.cells #[.int .i64 x.kind, .string x.name, .int .i64 x.number, .bool x.cut, .int .i64 x.before.kind, .string x.before.name, .int .i64 x.before.low, .int .i64 x.before.high, .slice Ab nb cb, .int .i64 x.after.kind, .string x.after.name, .int .i64 x.after.low, .int .i64 x.after.high, .slice Aa na ca, .int .i64 x.pos] 35)).heap.size = w.heap.size + 1 := by simp
 have HB : Hid (Below w.heap.size w (w.alloc (.cells #[.int .i64 x.kind, .string x.name, .int .i64 x.number, .bool x.cut, .int .i64 x.before.kind, .string x.before.name, .int .i64 x.before.low, .int .i64 x.before.high, .slice Ab nb cb, .int .i64 x.after.kind, .string x.after.name, .int .i64 x.after.low, .int .i64 x.after.high, .slice Aa na ca, .int .i64 x.pos] 35))) := HP.out
 have hnl : x.name.size ≤ 16 := by
  unfold K.mayB at hm
  rw [if_neg (by omega), if_neg (by omega), if_pos h3] at hm
  simp only [Bool.and_eq_true] at hm
  have hl := hm.1.1.1.1
  unfold W.lettersB at hl
  simp only [Bool.and_eq_true, decide_eq_true_eq] at hl
  rw [← K.numsOf_len]; omega
 have HE : Hid (⟨#[35, 97, 108, 108, 111, 119, 32]⟩ ++ x.name ++ ⟨#[10]⟩ = strOfNums (lineT x ++ [10])) := by
  show _ = _
  unfold K.lineT
  rw [if_neg (by omega), if_neg (by omega), if_pos hq, List.append_nil]
  exact (line_cat2 K.allowT x.name [10]).symm
 have a1 : ¬ 9223372036854775807 < 7 + x.name.size := by omega
 have a2 : ¬ 9223372036854775807 < 7 + x.name.size + 1 := by omega
 have k1 : (x.kind == 1) = false := by rw [h3]; rfl
 have k3 : (x.kind == 3) = true := by rw [h3]; rfl
 have g0 : x.number < 0 := by omega
 clear hm hka hkb h3 hq
 go_enter Tryz.func30, Tryz.ntmps30
 go_wp2_with fail
 go_ret
 exact ⟨ret_str HE.out, HB.out⟩
set_option maxHeartbeats 8000000 in
theorem line3b {x : It} (hm : mayB x = true) {w : World} {Ab Aa : Option Addr} {nb cb na ca : Nat} (hkb : RdN w (Lt w) Ab nb cb x.before.kids) (hka : RdN w (Lt w) Aa na ca x.after.kids) (h3 : x.kind = 3) (hq : x.number ≠ -1) :
  Calls Tryz.prog 30 #[.agg #[.int .i64 x.kind, .string x.name, .int .i64 x.number, .bool x.cut, .int .i64 x.before.kind, .string x.before.name, .int .i64 x.before.low, .int .i64 x.before.high, .slice Ab nb cb, .int .i64 x.after.kind, .string x.after.name, .int .i64 x.after.low, .int .i64 x.after.high, .slice Aa na ca, .int .i64 x.pos]] w (TxB w (lineT x ++ [10])) := by
 have HP := Lib.hid (kbelow_push w (.cells #[.int .i64 x.kind, .string x.name, .int .i64 x.number, .bool x.cut, .int .i64 x.before.kind, .string x.before.name, .int .i64 x.before.low, .int .i64 x.before.high, .slice Ab nb cb, .int .i64 x.after.kind, .string x.after.name, .int .i64 x.after.low, .int .i64 x.after.high, .slice Aa na ca, .int .i64 x.pos] 35))
 have HROW := Lib.hid (heap_alloc_new w (.cells #[.int .i64 x.kind, .string x.name, .int .i64 x.number, .bool x.cut, .int .i64 x.before.kind, .string x.before.name, .int .i64 x.before.low, .int .i64 x.before.high, .slice Ab nb cb, .int .i64 x.after.kind, .string x.after.name, .int .i64 x.after.low, .int .i64 x.after.high, .slice Aa na ca, .int .i64 x.pos] 35))
 have hz : (w.alloc (.cells #[.int .i64 x.kind, .string x.name, .int .i64 x.number, .bool x.cut, .int .i64 x.before.kind, .string x.before.name, .int .i64 x.before.low, .int .i64 x.before.high, .slice Ab nb cb, .int .i64 x.after.kind, .string x.after.name, .int .i64 x.after.low, .int .i64 x.after.high, .slice Aa na ca, .int .i64 x.pos] 35)).heap.size = w.heap.size + 1 := by simp
 have HB : Hid (Below w.heap.size w (w.alloc (.cells #[.int .i64 x.kind, .string x.name, .int .i64 x.number, .bool x.cut, .int .i64 x.before.kind, .string x.before.name, .int .i64 x.before.low, .int .i64 x.before.high, .slice Ab nb cb, .int .i64 x.after.kind, .string x.after.name, .int .i64 x.after.low, .int .i64 x.after.high, .slice Aa na ca, .int .i64 x.pos] 35))) := HP.out
 unfold K.mayB at hm
 rw [if_neg (by omega), if_neg (by omega), if_pos h3] at hm
 simp only [Bool.and_eq_true, Bool.or_eq_true, decide_eq_true_eq] at hm
 have hl := hm.1.1.1.1
 unfold W.lettersB at hl
 simp only [Bool.and_eq_true, decide_eq_true_eq] at hl
 have hnl : x.name.size ≤ 16 := by rw [← K.numsOf_len]; omega
 have ho := hm.1.1.1.2.resolve_left hq
 rw [num_ok] at ho
 simp only [Bool.and_eq_true, decide_eq_true_eq] at ho
 obtain ⟨hn0, hn1⟩ := ho
 have HNU : Hid (∀ W, Calls Tryz.prog 67 #[.int .i64 x.number] W (TxB W (numT x.number))) := fun W => number5_any hn0 hn1 W
 have hnt := numT_len hn0 hn1
 have hts : (strOfNums (numT x.number)).size ≤ 50 := by rw [strOfNums_size]; exact hnt
 have HE : Hid (⟨#[35, 97, 108, 108, 111, 119, 32]⟩ ++ x.name ++ ⟨#[32]⟩ ++ strOfNums (numT x.number) ++ ⟨#[10]⟩ = strOfNums (lineT x ++ [10])) := by
  show _ = _
  have e : lineT x ++ [10] = K.allowT ++ numsOf x.name ++ [32] ++ numT x.number ++ [10] := by
   unfold K.lineT
   rw [if_neg (by omega), if_neg (by omega), if_neg hq]
   simp
  rw [e]
  exact (line_cat K.allowT x.name [32] (numT x.number) [10]).symm
 have a1 : ¬ 9223372036854775807 < 7 + x.name.size := by omega
 have a2 : ¬ 9223372036854775807 < 7 + x.name.size + 1 := by omega
 have a3 : ¬ 9223372036854775807 < 7 + x.name.size + 1 + (strOfNums (numT x.number)).size := by omega
 have a4 : ¬ 9223372036854775807 < 7 + x.name.size + 1 + (strOfNums (numT x.number)).size + 1 := by omega
 have k1 : (x.kind == 1) = false := by rw [h3]; rfl
 have k3 : (x.kind == 3) = true := by rw [h3]; rfl
 have g0 : ¬ x.number < 0 := by omega
 unfold TxB at HNU
 generalize strOfNums (numT x.number) = TB at *
 clear hm hl hka hkb h3 hq hn0 hn1 hnt
 go_enter Tryz.func30, Tryz.ntmps30
 go_wp2_with fail
 generalize w.alloc (.cells #[.int .i64 x.kind, .string x.name, .int .i64 x.number, .bool x.cut, .int .i64 x.before.kind, .string x.before.name, .int .i64 x.before.low, .int .i64 x.before.high, .slice Ab nb cb, .int .i64 x.after.kind, .string x.after.name, .int .i64 x.after.low, .int .i64 x.after.high, .slice Aa na ca, .int .i64 x.pos] 35) = W1 at *
 have hN : w.heap.size < W1.heap.size := by omega
 have HBD : Hid (Below W1.heap.size W1 W1.drew) := kbelow_drewN (Below.refl _ _) 1
 have HBW : Hid (Below w.heap.size w W1.drew) := HB.out.trans (HBD.out.mono HB.out.size)
 have HR0 : Hid (W1.drew.heap[w.heap.size]? = some (.cells #[.int .i64 x.kind, .string x.name, .int .i64 x.number, .bool x.cut, .int .i64 x.before.kind, .string x.before.name, .int .i64 x.before.low, .int .i64 x.before.high, .slice Ab nb cb, .int .i64 x.after.kind, .string x.after.name, .int .i64 x.after.low, .int .i64 x.after.high, .slice Aa na ca, .int .i64 x.pos] 35 (0, 0))) := HROW.out
 have HK0 : Hid ((fun w' => w'.cell? ⟨w.heap.size, 1, none⟩ = some (.string x.name) ∧ w'.cell? ⟨w.heap.size, 2, none⟩ = some (.int .i64 x.number)) W1.drew) := by obtain ⟨r0, r1, r2, r3, r4, r5, r6, r7, r8, r9, r10, r11, r12, r13, r14⟩ := cells15 HR0.out; exact ⟨r1, r2⟩
 go_region_held_law (fun w' => w'.cell? ⟨w.heap.size, 1, none⟩ = some (.string x.name) ∧ w'.cell? ⟨w.heap.size, 2, none⟩ = some (.int .i64 x.number)) (first | exact HK0.out | exact HK1.out) ((go_at_call 67; (with_reducible refine (HNU.out _).mono ?_); rintro e u1 ⟨rfl, hu1⟩; have HB1 := Lib.hid (HBW.out.trans (hu1.mono HBW.out.size)); have HR1 : Hid (u1.heap[w.heap.size]? = some (.cells #[.int .i64 x.kind, .string x.name, .int .i64 x.number, .bool x.cut, .int .i64 x.before.kind, .string x.before.name, .int .i64 x.before.low, .int .i64 x.before.high, .slice Ab nb cb, .int .i64 x.after.kind, .string x.after.name, .int .i64 x.after.low, .int .i64 x.after.high, .slice Aa na ca, .int .i64 x.pos] 35 (0, 0))) := (hu1.block w.heap.size (Nat.lt_of_lt_of_le hN (Nat.le_refl _))).trans HR0.out; have HK1 : Hid ((fun w' => w'.cell? ⟨w.heap.size, 1, none⟩ = some (.string x.name) ∧ w'.cell? ⟨w.heap.size, 2, none⟩ = some (.int .i64 x.number)) u1) := (by obtain ⟨r0, r1, r2, r3, r4, r5, r6, r7, r8, r9, r10, r11, r12, r13, r14⟩ := cells15 HR1.out; exact ⟨r1, r2⟩); have hz1 : W1.heap.size ≤ u1.heap.size := hu1.size; clear hu1))
 go_wp2_with fail
 go_ret
 exact ⟨ret_str HE.out, HB1.out⟩
set_option maxHeartbeats 8000000 in
theorem line2 {x : It} (hm : mayB x = true) {w : World} {Ab Aa : Option Addr} {nb cb na ca : Nat} (hkb : RdN w (Lt w) Ab nb cb x.before.kids) (hka : RdN w (Lt w) Aa na ca x.after.kids) (h2 : x.kind = 2) :
  Calls Tryz.prog 30 #[.agg #[.int .i64 x.kind, .string x.name, .int .i64 x.number, .bool x.cut, .int .i64 x.before.kind, .string x.before.name, .int .i64 x.before.low, .int .i64 x.before.high, .slice Ab nb cb, .int .i64 x.after.kind, .string x.after.name, .int .i64 x.after.low, .int .i64 x.after.high, .slice Aa na ca, .int .i64 x.pos]] w (TxB w (lineT x ++ [10])) := by
 have HP := Lib.hid (kbelow_push w (.cells #[.int .i64 x.kind, .string x.name, .int .i64 x.number, .bool x.cut, .int .i64 x.before.kind, .string x.before.name, .int .i64 x.before.low, .int .i64 x.before.high, .slice Ab nb cb, .int .i64 x.after.kind, .string x.after.name, .int .i64 x.after.low, .int .i64 x.after.high, .slice Aa na ca, .int .i64 x.pos] 35))
 have HROW := Lib.hid (heap_alloc_new w (.cells #[.int .i64 x.kind, .string x.name, .int .i64 x.number, .bool x.cut, .int .i64 x.before.kind, .string x.before.name, .int .i64 x.before.low, .int .i64 x.before.high, .slice Ab nb cb, .int .i64 x.after.kind, .string x.after.name, .int .i64 x.after.low, .int .i64 x.after.high, .slice Aa na ca, .int .i64 x.pos] 35))
 have hz : (w.alloc (.cells #[.int .i64 x.kind, .string x.name, .int .i64 x.number, .bool x.cut, .int .i64 x.before.kind, .string x.before.name, .int .i64 x.before.low, .int .i64 x.before.high, .slice Ab nb cb, .int .i64 x.after.kind, .string x.after.name, .int .i64 x.after.low, .int .i64 x.after.high, .slice Aa na ca, .int .i64 x.pos] 35)).heap.size = w.heap.size + 1 := by simp
 have HB : Hid (Below w.heap.size w (w.alloc (.cells #[.int .i64 x.kind, .string x.name, .int .i64 x.number, .bool x.cut, .int .i64 x.before.kind, .string x.before.name, .int .i64 x.before.low, .int .i64 x.before.high, .slice Ab nb cb, .int .i64 x.after.kind, .string x.after.name, .int .i64 x.after.low, .int .i64 x.after.high, .slice Aa na ca, .int .i64 x.pos] 35))) := HP.out
 unfold K.mayB at hm
 rw [if_neg (by omega), if_pos h2] at hm
 simp only [Bool.and_eq_true] at hm
 have ho := hm.1.1.2
 rw [num_ok] at ho
 simp only [Bool.and_eq_true, decide_eq_true_eq] at ho
 obtain ⟨hn0, hn1⟩ := ho
 have hrb := hm.1.2
 have hra := hm.2
 have HNU : Hid (∀ W, Calls Tryz.prog 67 #[.int .i64 x.number] W (TxB W (numT x.number))) := fun W => number5_any hn0 hn1 W
 have HTb : Hid (∀ W, Below w.heap.size w W → Calls Tryz.prog 26 #[.agg #[.int .i64 x.before.kind, .string x.before.name, .int .i64 x.before.low, .int .i64 x.before.high, .slice Ab nb cb]] W (TxB W (txt x.before))) := fun W h => text7_any (K.right_any hrb).1 (right_anyB hrb) (hkb.on h)
 have HTa : Hid (∀ W, Below w.heap.size w W → Calls Tryz.prog 26 #[.agg #[.int .i64 x.after.kind, .string x.after.name, .int .i64 x.after.low, .int .i64 x.after.high, .slice Aa na ca]] W (TxB W (txt x.after))) := fun W h => text7_any (K.right_any hra).1 (right_anyB hra) (hka.on h)
 have hnt := numT_len hn0 hn1
 have htb := right_len hrb
 have hta := right_len hra
 have hts : (strOfNums (numT x.number)).size ≤ 50 := by rw [strOfNums_size]; exact hnt
 have htsb : (strOfNums (txt x.before)).size ≤ 15000 := by rw [strOfNums_size]; exact htb
 have htsa : (strOfNums (txt x.after)).size ≤ 15000 := by rw [strOfNums_size]; exact hta
 have HE1 : Hid (x.cut = true → strOfNums (numT x.number) ++ ⟨#[32]⟩ ++ strOfNums (txt x.before) ++ ⟨#[32]⟩ ++ ⟨#[195, 183]⟩ ++ ⟨#[32]⟩ ++ strOfNums (txt x.after) ++ ⟨#[10]⟩ = strOfNums (lineT x ++ [10])) := fun hc => by
  have e : lineT x ++ [10] = numT x.number ++ [32] ++ txt x.before ++ [32] ++ [195, 183] ++ [32] ++ txt x.after ++ [10] := by
   unfold K.lineT
   rw [if_neg (by omega), if_pos h2, if_pos hc]
   simp
  rw [e]
  exact line_cat8 (numT x.number) [32] (txt x.before) [32] [195, 183] [32] (txt x.after) [10]
 have HE0 : Hid (x.cut = false → strOfNums (numT x.number) ++ ⟨#[32]⟩ ++ strOfNums (txt x.before) ++ ⟨#[32]⟩ ++ ⟨#[195, 151]⟩ ++ ⟨#[32]⟩ ++ strOfNums (txt x.after) ++ ⟨#[10]⟩ = strOfNums (lineT x ++ [10])) := fun hc => by
  have e : lineT x ++ [10] = numT x.number ++ [32] ++ txt x.before ++ [32] ++ [195, 151] ++ [32] ++ txt x.after ++ [10] := by
   unfold K.lineT
   rw [if_neg (by omega), if_pos h2, if_neg (by rw [hc]; decide)]
   simp
  rw [e]
  exact line_cat8 (numT x.number) [32] (txt x.before) [32] [195, 151] [32] (txt x.after) [10]
 have k1 : (x.kind == 1) = false := by rw [h2]; rfl
 have k3 : (x.kind == 3) = false := by rw [h2]; rfl
 unfold TxB at HNU HTb HTa
 generalize strOfNums (numT x.number) = TN at *
 generalize strOfNums (txt x.before) = TB at *
 generalize strOfNums (txt x.after) = TA at *
 have a1 : ¬ 9223372036854775807 < TN.size + 1 := by omega
 have a2 : ¬ 9223372036854775807 < TN.size + 1 + TB.size := by omega
 have a3 : ¬ 9223372036854775807 < TN.size + 1 + TB.size + 1 := by omega
 have a4 : ¬ 9223372036854775807 < TN.size + 1 + TB.size + 1 + 2 := by omega
 have a5 : ¬ 9223372036854775807 < TN.size + 1 + TB.size + 1 + 2 + 1 := by omega
 have a6 : ¬ 9223372036854775807 < TN.size + 1 + TB.size + 1 + 2 + 1 + TA.size := by omega
 have a7 : ¬ 9223372036854775807 < TN.size + 1 + TB.size + 1 + 2 + 1 + TA.size + 1 := by omega
 clear hm hka hkb h2 hn0 hn1 hnt htb hta hrb hra
 generalize lineT x = LT at *
 generalize x.cut = cut at *
 cases cut with
 | false =>
  have HE := Lib.hid (HE0.out rfl)
  clear HE0 HE1
  go_enter Tryz.func30, Tryz.ntmps30
  go_wp2_with fail
  generalize w.alloc (.cells #[.int .i64 x.kind, .string x.name, .int .i64 x.number, .bool false, .int .i64 x.before.kind, .string x.before.name, .int .i64 x.before.low, .int .i64 x.before.high, .slice Ab nb cb, .int .i64 x.after.kind, .string x.after.name, .int .i64 x.after.low, .int .i64 x.after.high, .slice Aa na ca, .int .i64 x.pos] 35) = W1 at *
  have hN : w.heap.size < W1.heap.size := by omega
  have HBD : Hid (Below W1.heap.size W1 W1.drew) := kbelow_drewN (Below.refl _ _) 1
  have HBW : Hid (Below w.heap.size w W1.drew) := HB.out.trans (HBD.out.mono HB.out.size)
  have HR0 : Hid (W1.drew.heap[w.heap.size]? = some (.cells #[.int .i64 x.kind, .string x.name, .int .i64 x.number, .bool false, .int .i64 x.before.kind, .string x.before.name, .int .i64 x.before.low, .int .i64 x.before.high, .slice Ab nb cb, .int .i64 x.after.kind, .string x.after.name, .int .i64 x.after.low, .int .i64 x.after.high, .slice Aa na ca, .int .i64 x.pos] 35 (0, 0))) := HROW.out
  have HK0 : Hid ((fun w' => w'.cell? ⟨w.heap.size, 2, none⟩ = some (.int .i64 x.number) ∧ w'.cell? ⟨w.heap.size, 4, none⟩ = some (.int .i64 x.before.kind) ∧ w'.cell? ⟨w.heap.size, 5, none⟩ = some (.string x.before.name) ∧ w'.cell? ⟨w.heap.size, 6, none⟩ = some (.int .i64 x.before.low) ∧ w'.cell? ⟨w.heap.size, 7, none⟩ = some (.int .i64 x.before.high) ∧ w'.cell? ⟨w.heap.size, 8, none⟩ = some (.slice Ab nb cb) ∧ w'.cell? ⟨w.heap.size, 9, none⟩ = some (.int .i64 x.after.kind) ∧ w'.cell? ⟨w.heap.size, 10, none⟩ = some (.string x.after.name) ∧ w'.cell? ⟨w.heap.size, 11, none⟩ = some (.int .i64 x.after.low) ∧ w'.cell? ⟨w.heap.size, 12, none⟩ = some (.int .i64 x.after.high) ∧ w'.cell? ⟨w.heap.size, 13, none⟩ = some (.slice Aa na ca)) W1.drew) := by obtain ⟨r0, r1, r2, r3, r4, r5, r6, r7, r8, r9, r10, r11, r12, r13, r14⟩ := cells15 HR0.out; exact ⟨r2, r4, r5, r6, r7, r8, r9, r10, r11, r12, r13⟩
  go_region_held_law (fun w' => w'.cell? ⟨w.heap.size, 2, none⟩ = some (.int .i64 x.number) ∧ w'.cell? ⟨w.heap.size, 4, none⟩ = some (.int .i64 x.before.kind) ∧ w'.cell? ⟨w.heap.size, 5, none⟩ = some (.string x.before.name) ∧ w'.cell? ⟨w.heap.size, 6, none⟩ = some (.int .i64 x.before.low) ∧ w'.cell? ⟨w.heap.size, 7, none⟩ = some (.int .i64 x.before.high) ∧ w'.cell? ⟨w.heap.size, 8, none⟩ = some (.slice Ab nb cb) ∧ w'.cell? ⟨w.heap.size, 9, none⟩ = some (.int .i64 x.after.kind) ∧ w'.cell? ⟨w.heap.size, 10, none⟩ = some (.string x.after.name) ∧ w'.cell? ⟨w.heap.size, 11, none⟩ = some (.int .i64 x.after.low) ∧ w'.cell? ⟨w.heap.size, 12, none⟩ = some (.int .i64 x.after.high) ∧ w'.cell? ⟨w.heap.size, 13, none⟩ = some (.slice Aa na ca)) (first | exact HK3.out | exact HK2.out | exact HK1.out | exact HK0.out) (first | (go_at_call 67; (with_reducible refine (HNU.out _).mono ?_); rintro e u1 ⟨rfl, hu1⟩; have HB1 := Lib.hid (HBW.out.trans (hu1.mono HBW.out.size)); have HR1 : Hid (u1.heap[w.heap.size]? = some (.cells #[.int .i64 x.kind, .string x.name, .int .i64 x.number, .bool false, .int .i64 x.before.kind, .string x.before.name, .int .i64 x.before.low, .int .i64 x.before.high, .slice Ab nb cb, .int .i64 x.after.kind, .string x.after.name, .int .i64 x.after.low, .int .i64 x.after.high, .slice Aa na ca, .int .i64 x.pos] 35 (0, 0))) := (hu1.block w.heap.size (Nat.lt_of_lt_of_le hN (Nat.le_refl _))).trans HR0.out; have HK1 : Hid ((fun w' => w'.cell? ⟨w.heap.size, 2, none⟩ = some (.int .i64 x.number) ∧ w'.cell? ⟨w.heap.size, 4, none⟩ = some (.int .i64 x.before.kind) ∧ w'.cell? ⟨w.heap.size, 5, none⟩ = some (.string x.before.name) ∧ w'.cell? ⟨w.heap.size, 6, none⟩ = some (.int .i64 x.before.low) ∧ w'.cell? ⟨w.heap.size, 7, none⟩ = some (.int .i64 x.before.high) ∧ w'.cell? ⟨w.heap.size, 8, none⟩ = some (.slice Ab nb cb) ∧ w'.cell? ⟨w.heap.size, 9, none⟩ = some (.int .i64 x.after.kind) ∧ w'.cell? ⟨w.heap.size, 10, none⟩ = some (.string x.after.name) ∧ w'.cell? ⟨w.heap.size, 11, none⟩ = some (.int .i64 x.after.low) ∧ w'.cell? ⟨w.heap.size, 12, none⟩ = some (.int .i64 x.after.high) ∧ w'.cell? ⟨w.heap.size, 13, none⟩ = some (.slice Aa na ca)) u1) := (by obtain ⟨r0, r1, r2, r3, r4, r5, r6, r7, r8, r9, r10, r11, r12, r13, r14⟩ := cells15 HR1.out; exact ⟨r2, r4, r5, r6, r7, r8, r9, r10, r11, r12, r13⟩); have hz1 : W1.heap.size ≤ u1.heap.size := hu1.size; clear hu1) | (go_at_call 26; (with_reducible refine (HTb.out _ HB1.out).mono ?_); rintro e u2 ⟨rfl, hu2⟩; have HB2 := Lib.hid (HB1.out.trans (hu2.mono HB1.out.size)); have HR2 : Hid (u2.heap[w.heap.size]? = some (.cells #[.int .i64 x.kind, .string x.name, .int .i64 x.number, .bool false, .int .i64 x.before.kind, .string x.before.name, .int .i64 x.before.low, .int .i64 x.before.high, .slice Ab nb cb, .int .i64 x.after.kind, .string x.after.name, .int .i64 x.after.low, .int .i64 x.after.high, .slice Aa na ca, .int .i64 x.pos] 35 (0, 0))) := (hu2.block w.heap.size (Nat.lt_of_lt_of_le hN hz1)).trans HR1.out; have HK2 : Hid ((fun w' => w'.cell? ⟨w.heap.size, 2, none⟩ = some (.int .i64 x.number) ∧ w'.cell? ⟨w.heap.size, 4, none⟩ = some (.int .i64 x.before.kind) ∧ w'.cell? ⟨w.heap.size, 5, none⟩ = some (.string x.before.name) ∧ w'.cell? ⟨w.heap.size, 6, none⟩ = some (.int .i64 x.before.low) ∧ w'.cell? ⟨w.heap.size, 7, none⟩ = some (.int .i64 x.before.high) ∧ w'.cell? ⟨w.heap.size, 8, none⟩ = some (.slice Ab nb cb) ∧ w'.cell? ⟨w.heap.size, 9, none⟩ = some (.int .i64 x.after.kind) ∧ w'.cell? ⟨w.heap.size, 10, none⟩ = some (.string x.after.name) ∧ w'.cell? ⟨w.heap.size, 11, none⟩ = some (.int .i64 x.after.low) ∧ w'.cell? ⟨w.heap.size, 12, none⟩ = some (.int .i64 x.after.high) ∧ w'.cell? ⟨w.heap.size, 13, none⟩ = some (.slice Aa na ca)) u2) := (by obtain ⟨r0, r1, r2, r3, r4, r5, r6, r7, r8, r9, r10, r11, r12, r13, r14⟩ := cells15 HR2.out; exact ⟨r2, r4, r5, r6, r7, r8, r9, r10, r11, r12, r13⟩); have hz2 : W1.heap.size ≤ u2.heap.size := Nat.le_trans hz1 hu2.size; clear hu2) | (go_at_call 26; (with_reducible refine (HTa.out _ HB2.out).mono ?_); rintro e u3 ⟨rfl, hu3⟩; have HB3 := Lib.hid (HB2.out.trans (hu3.mono HB2.out.size)); have HR3 : Hid (u3.heap[w.heap.size]? = some (.cells #[.int .i64 x.kind, .string x.name, .int .i64 x.number, .bool false, .int .i64 x.before.kind, .string x.before.name, .int .i64 x.before.low, .int .i64 x.before.high, .slice Ab nb cb, .int .i64 x.after.kind, .string x.after.name, .int .i64 x.after.low, .int .i64 x.after.high, .slice Aa na ca, .int .i64 x.pos] 35 (0, 0))) := (hu3.block w.heap.size (Nat.lt_of_lt_of_le hN hz2)).trans HR2.out; have HK3 : Hid ((fun w' => w'.cell? ⟨w.heap.size, 2, none⟩ = some (.int .i64 x.number) ∧ w'.cell? ⟨w.heap.size, 4, none⟩ = some (.int .i64 x.before.kind) ∧ w'.cell? ⟨w.heap.size, 5, none⟩ = some (.string x.before.name) ∧ w'.cell? ⟨w.heap.size, 6, none⟩ = some (.int .i64 x.before.low) ∧ w'.cell? ⟨w.heap.size, 7, none⟩ = some (.int .i64 x.before.high) ∧ w'.cell? ⟨w.heap.size, 8, none⟩ = some (.slice Ab nb cb) ∧ w'.cell? ⟨w.heap.size, 9, none⟩ = some (.int .i64 x.after.kind) ∧ w'.cell? ⟨w.heap.size, 10, none⟩ = some (.string x.after.name) ∧ w'.cell? ⟨w.heap.size, 11, none⟩ = some (.int .i64 x.after.low) ∧ w'.cell? ⟨w.heap.size, 12, none⟩ = some (.int .i64 x.after.high) ∧ w'.cell? ⟨w.heap.size, 13, none⟩ = some (.slice Aa na ca)) u3) := (by obtain ⟨r0, r1, r2, r3, r4, r5, r6, r7, r8, r9, r10, r11, r12, r13, r14⟩ := cells15 HR3.out; exact ⟨r2, r4, r5, r6, r7, r8, r9, r10, r11, r12, r13⟩); have hz3 : W1.heap.size ≤ u3.heap.size := Nat.le_trans hz2 hu3.size; clear hu3))
  go_wp2_with fail
  go_ret
  exact ⟨ret_str HE.out, HB3.out⟩
 | true =>
  have HE := Lib.hid (HE1.out rfl)
  clear HE0 HE1
  go_enter Tryz.func30, Tryz.ntmps30
  go_wp2_with fail
  generalize w.alloc (.cells #[.int .i64 x.kind, .string x.name, .int .i64 x.number, .bool true, .int .i64 x.before.kind, .string x.before.name, .int .i64 x.before.low, .int .i64 x.before.high, .slice Ab nb cb, .int .i64 x.after.kind, .string x.after.name, .int .i64 x.after.low, .int .i64 x.after.high, .slice Aa na ca, .int .i64 x.pos] 35) = W1 at *
  have hN : w.heap.size < W1.heap.size := by omega
  have HBD : Hid (Below W1.heap.size W1 W1.drew) := kbelow_drewN (Below.refl _ _) 1
  have HBW : Hid (Below w.heap.size w W1.drew) := HB.out.trans (HBD.out.mono HB.out.size)
  have HR0 : Hid (W1.drew.heap[w.heap.size]? = some (.cells #[.int .i64 x.kind, .string x.name, .int .i64 x.number, .bool true, .int .i64 x.before.kind, .string x.before.name, .int .i64 x.before.low, .int .i64 x.before.high, .slice Ab nb cb, .int .i64 x.after.kind, .string x.after.name, .int .i64 x.after.low, .int .i64 x.after.high, .slice Aa na ca, .int .i64 x.pos] 35 (0, 0))) := HROW.out
  have HK0 : Hid ((fun w' => w'.cell? ⟨w.heap.size, 2, none⟩ = some (.int .i64 x.number) ∧ w'.cell? ⟨w.heap.size, 4, none⟩ = some (.int .i64 x.before.kind) ∧ w'.cell? ⟨w.heap.size, 5, none⟩ = some (.string x.before.name) ∧ w'.cell? ⟨w.heap.size, 6, none⟩ = some (.int .i64 x.before.low) ∧ w'.cell? ⟨w.heap.size, 7, none⟩ = some (.int .i64 x.before.high) ∧ w'.cell? ⟨w.heap.size, 8, none⟩ = some (.slice Ab nb cb) ∧ w'.cell? ⟨w.heap.size, 9, none⟩ = some (.int .i64 x.after.kind) ∧ w'.cell? ⟨w.heap.size, 10, none⟩ = some (.string x.after.name) ∧ w'.cell? ⟨w.heap.size, 11, none⟩ = some (.int .i64 x.after.low) ∧ w'.cell? ⟨w.heap.size, 12, none⟩ = some (.int .i64 x.after.high) ∧ w'.cell? ⟨w.heap.size, 13, none⟩ = some (.slice Aa na ca)) W1.drew) := by obtain ⟨r0, r1, r2, r3, r4, r5, r6, r7, r8, r9, r10, r11, r12, r13, r14⟩ := cells15 HR0.out; exact ⟨r2, r4, r5, r6, r7, r8, r9, r10, r11, r12, r13⟩
  go_region_held_law (fun w' => w'.cell? ⟨w.heap.size, 2, none⟩ = some (.int .i64 x.number) ∧ w'.cell? ⟨w.heap.size, 4, none⟩ = some (.int .i64 x.before.kind) ∧ w'.cell? ⟨w.heap.size, 5, none⟩ = some (.string x.before.name) ∧ w'.cell? ⟨w.heap.size, 6, none⟩ = some (.int .i64 x.before.low) ∧ w'.cell? ⟨w.heap.size, 7, none⟩ = some (.int .i64 x.before.high) ∧ w'.cell? ⟨w.heap.size, 8, none⟩ = some (.slice Ab nb cb) ∧ w'.cell? ⟨w.heap.size, 9, none⟩ = some (.int .i64 x.after.kind) ∧ w'.cell? ⟨w.heap.size, 10, none⟩ = some (.string x.after.name) ∧ w'.cell? ⟨w.heap.size, 11, none⟩ = some (.int .i64 x.after.low) ∧ w'.cell? ⟨w.heap.size, 12, none⟩ = some (.int .i64 x.after.high) ∧ w'.cell? ⟨w.heap.size, 13, none⟩ = some (.slice Aa na ca)) (first | exact HK3.out | exact HK2.out | exact HK1.out | exact HK0.out) (first | (go_at_call 67; (with_reducible refine (HNU.out _).mono ?_); rintro e u1 ⟨rfl, hu1⟩; have HB1 := Lib.hid (HBW.out.trans (hu1.mono HBW.out.size)); have HR1 : Hid (u1.heap[w.heap.size]? = some (.cells #[.int .i64 x.kind, .string x.name, .int .i64 x.number, .bool true, .int .i64 x.before.kind, .string x.before.name, .int .i64 x.before.low, .int .i64 x.before.high, .slice Ab nb cb, .int .i64 x.after.kind, .string x.after.name, .int .i64 x.after.low, .int .i64 x.after.high, .slice Aa na ca, .int .i64 x.pos] 35 (0, 0))) := (hu1.block w.heap.size (Nat.lt_of_lt_of_le hN (Nat.le_refl _))).trans HR0.out; have HK1 : Hid ((fun w' => w'.cell? ⟨w.heap.size, 2, none⟩ = some (.int .i64 x.number) ∧ w'.cell? ⟨w.heap.size, 4, none⟩ = some (.int .i64 x.before.kind) ∧ w'.cell? ⟨w.heap.size, 5, none⟩ = some (.string x.before.name) ∧ w'.cell? ⟨w.heap.size, 6, none⟩ = some (.int .i64 x.before.low) ∧ w'.cell? ⟨w.heap.size, 7, none⟩ = some (.int .i64 x.before.high) ∧ w'.cell? ⟨w.heap.size, 8, none⟩ = some (.slice Ab nb cb) ∧ w'.cell? ⟨w.heap.size, 9, none⟩ = some (.int .i64 x.after.kind) ∧ w'.cell? ⟨w.heap.size, 10, none⟩ = some (.string x.after.name) ∧ w'.cell? ⟨w.heap.size, 11, none⟩ = some (.int .i64 x.after.low) ∧ w'.cell? ⟨w.heap.size, 12, none⟩ = some (.int .i64 x.after.high) ∧ w'.cell? ⟨w.heap.size, 13, none⟩ = some (.slice Aa na ca)) u1) := (by obtain ⟨r0, r1, r2, r3, r4, r5, r6, r7, r8, r9, r10, r11, r12, r13, r14⟩ := cells15 HR1.out; exact ⟨r2, r4, r5, r6, r7, r8, r9, r10, r11, r12, r13⟩); have hz1 : W1.heap.size ≤ u1.heap.size := hu1.size; clear hu1) | (go_at_call 26; (with_reducible refine (HTb.out _ HB1.out).mono ?_); rintro e u2 ⟨rfl, hu2⟩; have HB2 := Lib.hid (HB1.out.trans (hu2.mono HB1.out.size)); have HR2 : Hid (u2.heap[w.heap.size]? = some (.cells #[.int .i64 x.kind, .string x.name, .int .i64 x.number, .bool true, .int .i64 x.before.kind, .string x.before.name, .int .i64 x.before.low, .int .i64 x.before.high, .slice Ab nb cb, .int .i64 x.after.kind, .string x.after.name, .int .i64 x.after.low, .int .i64 x.after.high, .slice Aa na ca, .int .i64 x.pos] 35 (0, 0))) := (hu2.block w.heap.size (Nat.lt_of_lt_of_le hN hz1)).trans HR1.out; have HK2 : Hid ((fun w' => w'.cell? ⟨w.heap.size, 2, none⟩ = some (.int .i64 x.number) ∧ w'.cell? ⟨w.heap.size, 4, none⟩ = some (.int .i64 x.before.kind) ∧ w'.cell? ⟨w.heap.size, 5, none⟩ = some (.string x.before.name) ∧ w'.cell? ⟨w.heap.size, 6, none⟩ = some (.int .i64 x.before.low) ∧ w'.cell? ⟨w.heap.size, 7, none⟩ = some (.int .i64 x.before.high) ∧ w'.cell? ⟨w.heap.size, 8, none⟩ = some (.slice Ab nb cb) ∧ w'.cell? ⟨w.heap.size, 9, none⟩ = some (.int .i64 x.after.kind) ∧ w'.cell? ⟨w.heap.size, 10, none⟩ = some (.string x.after.name) ∧ w'.cell? ⟨w.heap.size, 11, none⟩ = some (.int .i64 x.after.low) ∧ w'.cell? ⟨w.heap.size, 12, none⟩ = some (.int .i64 x.after.high) ∧ w'.cell? ⟨w.heap.size, 13, none⟩ = some (.slice Aa na ca)) u2) := (by obtain ⟨r0, r1, r2, r3, r4, r5, r6, r7, r8, r9, r10, r11, r12, r13, r14⟩ := cells15 HR2.out; exact ⟨r2, r4, r5, r6, r7, r8, r9, r10, r11, r12, r13⟩); have hz2 : W1.heap.size ≤ u2.heap.size := Nat.le_trans hz1 hu2.size; clear hu2) | (go_at_call 26; (with_reducible refine (HTa.out _ HB2.out).mono ?_); rintro e u3 ⟨rfl, hu3⟩; have HB3 := Lib.hid (HB2.out.trans (hu3.mono HB2.out.size)); have HR3 : Hid (u3.heap[w.heap.size]? = some (.cells #[.int .i64 x.kind, .string x.name, .int .i64 x.number, .bool true, .int .i64 x.before.kind, .string x.before.name, .int .i64 x.before.low, .int .i64 x.before.high, .slice Ab nb cb, .int .i64 x.after.kind, .string x.after.name, .int .i64 x.after.low, .int .i64 x.after.high, .slice Aa na ca, .int .i64 x.pos] 35 (0, 0))) := (hu3.block w.heap.size (Nat.lt_of_lt_of_le hN hz2)).trans HR2.out; have HK3 : Hid ((fun w' => w'.cell? ⟨w.heap.size, 2, none⟩ = some (.int .i64 x.number) ∧ w'.cell? ⟨w.heap.size, 4, none⟩ = some (.int .i64 x.before.kind) ∧ w'.cell? ⟨w.heap.size, 5, none⟩ = some (.string x.before.name) ∧ w'.cell? ⟨w.heap.size, 6, none⟩ = some (.int .i64 x.before.low) ∧ w'.cell? ⟨w.heap.size, 7, none⟩ = some (.int .i64 x.before.high) ∧ w'.cell? ⟨w.heap.size, 8, none⟩ = some (.slice Ab nb cb) ∧ w'.cell? ⟨w.heap.size, 9, none⟩ = some (.int .i64 x.after.kind) ∧ w'.cell? ⟨w.heap.size, 10, none⟩ = some (.string x.after.name) ∧ w'.cell? ⟨w.heap.size, 11, none⟩ = some (.int .i64 x.after.low) ∧ w'.cell? ⟨w.heap.size, 12, none⟩ = some (.int .i64 x.after.high) ∧ w'.cell? ⟨w.heap.size, 13, none⟩ = some (.slice Aa na ca)) u3) := (by obtain ⟨r0, r1, r2, r3, r4, r5, r6, r7, r8, r9, r10, r11, r12, r13, r14⟩ := cells15 HR3.out; exact ⟨r2, r4, r5, r6, r7, r8, r9, r10, r11, r12, r13⟩); have hz3 : W1.heap.size ≤ u3.heap.size := Nat.le_trans hz2 hu3.size; clear hu3))
  go_wp2_with fail
  go_ret
  exact ⟨ret_str HE.out, HB3.out⟩
theorem line7_any {x : It} (hm : mayB x = true) {w : World} {Ab Aa : Option Addr} {nb cb na ca : Nat} (hkb : RdN w (Lt w) Ab nb cb x.before.kids) (hka : RdN w (Lt w) Aa na ca x.after.kids) : Calls Tryz.prog 30 #[.agg #[.int .i64 x.kind, .string x.name, .int .i64 x.number, .bool x.cut, .int .i64 x.before.kind, .string x.before.name, .int .i64 x.before.low, .int .i64 x.before.high, .slice Ab nb cb, .int .i64 x.after.kind, .string x.after.name, .int .i64 x.after.low, .int .i64 x.after.high, .slice Aa na ca, .int .i64 x.pos]] w (TxB w (lineT x ++ [10])) := by
 by_cases h1 : x.kind = 1
 ·exact line1 hm hkb hka h1
 ·by_cases h2 : x.kind = 2
  ·exact line2 hm hkb hka h2
  ·by_cases h3 : x.kind = 3
   ·by_cases hq : x.number = -1
    ·exact line3a hm hkb hka h3 hq
    ·exact line3b hm hkb hka h3 hq
   ·unfold K.mayB at hm
    rw [if_neg h1, if_neg h2, if_neg h3] at hm
    cases hm
end Go.Proofs.YtmohefgdpddldaaGreatDoor
namespace Go.Proofs.YtmohefgdpddldaaGreatDoor
open Go.RowKit
open Y (Nd It noName)
open K (numsOf threeB twoB behindT betweenT brkB rngT txt kidsT partT anyB decT fracL numT lineT itemsT rightB noneB numOk mayB nameB)

set_option maxHeartbeats 8000000 in
theorem iitems_any {l : List It} {w : World} {A : Option Addr} {n c : Nat} (ha : RdI6 w (Lt w) A n c l) (hs : ∀ x ∈ l, x.name.size ≤ 140737488355328) (hT : TbB w.heap.size w) :
  Calls Tryz.prog 12 #[.slice A n c] w (TxtQ w.heap.size (K.itemsR l) w) := by
 have hn := ha.small
 have hlen := ha.len
 have HA := Lib.hid ha
 have HT := Lib.hid hT
 have HAL := Lib.hid (allI_any 14 #[] mayB ha (enters_of Tryz.func14 (by kernel_rfl) rfl) fun W x Ab nb cb Aa na ca hx _ hr hr2 => may_any (hs x hx) hr hr2)
 have HB : Hid (Below w.heap.size w w) := Below.refl _ _
 clear ha hT hs
 by_cases h100 : n ≤ 100
 ·have g1 : ¬ (100 : Int) < (n : Int) := by omega
  cases hall : l.all mayB with
  | false =>
   rw [hall] at HAL
   have HF : Hid (K.itemsR l = ([], 1)) := by show _ = _; unfold K.itemsR K.okL; rw [hall, Bool.and_false, if_neg (by decide)]
   clear hall HA HT
   go_enter Tryz.func12, Tryz.ntmps12
   go_wp2_with fail
   refine HAL.out.mono ?_
   rintro e w2 ⟨rfl, hb⟩
   have HE : Hid (TxtQ w.heap.size (K.itemsR l) w (.returned (.tuple #[.string ⟨#[]⟩, .int .i64 1])) w2) := ⟨by rw [HF.out]; rfl, hb⟩
   clear hb
   go_wp2_with fail
   go_ret2
   exact HE.out
  | true =>
   rw [hall] at HAL
   have HF : Hid (K.itemsR l = K.longR (itemsT l)) := by show _ = _; unfold K.itemsR K.okL; rw [hall, hlen, decide_eq_true h100]; rfl
   have HALL := Lib.hid hall
   have HLN := Lib.hid hlen
   clear hall hlen
   go_enter Tryz.func12, Tryz.ntmps12
   go_wp2_with fail
   refine HAL.out.mono ?_
   rintro e w2 ⟨rfl, hb⟩
   have HB2 := Lib.hid hb
   have HP3 := Lib.hid (pn_fresh w2)
   have HB3 := Lib.hid (kbelow_push w2 (.cells #[.pointer none, .slice none 0 0] 53))
   have HA3 : Hid (RdI6 (w2.alloc (.cells #[.pointer none, .slice none 0 0] 53)) (· < w2.heap.size) A n c l) := (HA.out.on HB2.out).keep (fun _ h => h) (fun p hp => HB3.out.cell (p := p) hp)
   have HT3 : Hid (TbB w2.heap.size (w2.alloc (.cells #[.pointer none, .slice none 0 0] 53))) := (HT.out.up HB2.out).on HB3.out
   have HPB : Hid (Pen w2.heap.size w2.heap.size [] (w2.alloc (.cells #[.pointer none, .slice none 0 0] 53)) (w2.alloc (.cells #[.pointer none, .slice none 0 0] 53))) := Pen.refl HP3.out
   have hz3 : (w2.alloc (.cells #[.pointer none, .slice none 0 0] 53)).heap.size = w2.heap.size + 1 := by simp
   clear hb HA HT HP3 HAL HB
   go_wp2_with fail
   generalize w2.alloc (.cells #[.pointer none, .slice none 0 0] 53) = W3 at *
   go_loopw [17] (fun iv wx => ∃ j : Nat, j ≤ n ∧ iv = .int .i64 j ∧ Hid (Pen w2.heap.size w2.heap.size (itemsT (l.take j)) W3 wx)) (fun iv _ => n - (intOf iv).toNat)
   case atStart => exact ⟨0, by omega, rfl, HPB.out⟩
   case round =>
    obtain ⟨j, hj, rfl, HP⟩ := hrel
    have hws := HP.out.size
    have hTl := itemsT_len (l.take j) (all_take HALL.out j)
    have hTl2 : (l.take j).length ≤ 100 := by rw [List.length_take]; omega
    have hBw : w2.heap.size ≤ wr.heap.size := by omega
    by_cases hlt : j < n
    ·obtain ⟨b1, o1, x, Ab, Aa, nb, cb, na, ca, hA1, hb1, hx, hr1, hr2, hc1⟩ := (HA3.out.keep (S' := (· < w2.heap.size)) (fun _ h => h) (fun p hp => HP.out.2.1.cell (p := p) hp)).got hlt
     subst hA1
     obtain ⟨s0, s1, s2, s3, s4, s5, s6, s7, s8, s9, s10, s11, s12, s13, s14⟩ := it_cells hc1
     have hj0 : (0 : Int) ≤ (j : Int) := by omega
     have hj1 : (j : Int) < (n : Int) := by omega
     have HNX := Lib.hid (itemsT_next hx)
     have hmx := List.all_eq_true.1 HALL.out x (List.mem_of_getElem? hx)
     have hll := (line_ok hmx).2
     have HBY := Lib.hid (kbelow_push wr (.cells #[.int .i64 x.kind, .string x.name, .int .i64 x.number, .bool x.cut, .int .i64 x.before.kind, .string x.before.name, .int .i64 x.before.low, .int .i64 x.before.high, .slice Ab nb cb, .int .i64 x.after.kind, .string x.after.name, .int .i64 x.after.low, .int .i64 x.after.high, .slice Aa na ca, .int .i64 x.pos] 35))
     have HPN := Lib.hid (HP.out.below hBw HBY.out)
     have HBR : Hid (Below w2.heap.size wr (wr.alloc (.cells #[.int .i64 x.kind, .string x.name, .int .i64 x.number, .bool x.cut, .int .i64 x.before.kind, .string x.before.name, .int .i64 x.before.low, .int .i64 x.before.high, .slice Ab nb cb, .int .i64 x.after.kind, .string x.after.name, .int .i64 x.after.low, .int .i64 x.after.high, .slice Aa na ca, .int .i64 x.pos] 35))) := HBY.out.mono hBw
     have HC := Lib.hid (pitem_any hmx HPN.out.1 (HT3.out.on HPN.out.2.1) (Nat.le_trans hBw HBY.out.size) (hr1.keep (fun _ h => h) (fun p hp => HBR.out.cell (p := p) hp)) (hr2.keep (fun _ h => h) (fun p hp => HBR.out.cell (p := p) hp)) (by omega))
     have hb1' : b1 < wr.heap.size := by have h : b1 < w2.heap.size := hb1; omega
     have hTl3 : (itemsT (l.take j) ++ lineT x).length ≤ 10000000 := by rw [List.length_append]; omega
     clear hx hr1 hr2 hc1 hb1 hmx hll HP hTl hTl2 HA3
     generalize itemsT (l.take j) = T at *
     generalize lineT x = LX at *
     go_wp2_with fail
     generalize wr.alloc (.cells #[.int .i64 x.kind, .string x.name, .int .i64 x.number, .bool x.cut, .int .i64 x.before.kind, .string x.before.name, .int .i64 x.before.low, .int .i64 x.before.high, .slice Ab nb cb, .int .i64 x.after.kind, .string x.after.name, .int .i64 x.after.low, .int .i64 x.after.high, .slice Aa na ca, .int .i64 x.pos] 35) = W4 at *
     refine HC.out.mono ?_
     rintro e w5 hp
     have HP5 := Lib.hid (HPN.out.put hp)
     obtain ⟨rfl, q1, q2, q3⟩ := hp
     clear q1 q2 q3 HC HPN
     have HC := Lib.hid (wbyte_any HP5.out.1 10 (by omega) (by have := HP5.out.size; omega))
     go_wp2_with fail
     refine HC.out.mono ?_
     rintro e w6 hp
     have HP6 := Lib.hid (HP5.out.put hp)
     obtain ⟨rfl, q1, q2, q3⟩ := hp
     clear q1 q2 q3 HC HP5
     go_wp2_with fail
     go_roundw
     case rel => exact ⟨j + 1, by omega, by go_num, (by have h1 := HP6.out; show Pen _ _ _ _ _; rw [HNX.out]; exact h1)⟩
     case measure => simp [intOf]; omega
    ·obtain rfl : j = n := by omega
     have HPE : Hid (Pen w2.heap.size w2.heap.size (itemsT l) W3 wr) := by
      have h1 := HP.out
      rw [List.take_of_length_le (by have := HLN.out; omega)] at h1
      exact h1
     have hTE : (itemsT l).length ≤ 10000000 := by have h1 := itemsT_len l HALL.out; have h2 := HLN.out; omega
     have HTX := Lib.hid (ptext_any HPE.out.1 (itemsT_byt l HALL.out) hBw (by omega))
     clear HP hTl hTl2 HA3
     go_wp2_with fail
     refine HTX.out.mono ?_
     rintro e w5 ⟨rfl, hb5⟩
     have HE : Hid (TxtQ w.heap.size (K.itemsR l) w (.returned (.tuple #[.string (strOfNums (K.longR (itemsT l)).1), .int .i64 (K.longR (itemsT l)).2])) w5) := ⟨by rw [HF.out], HB2.out.trans ((HB3.out.trans (HPE.out.2.1.trans hb5)).mono HB2.out.size)⟩
     clear hb5 HTX HPE HF
     generalize K.longR (itemsT l) = rr at *
     go_wp2_with fail
     go_ret2
     exact HE.out
 ·have g1 : (100 : Int) < (n : Int) := by omega
  have HE : Hid (TxtQ w.heap.size (K.itemsR l) w (.returned (.tuple #[.string ⟨#[]⟩, .int .i64 1])) w) := ⟨by unfold K.itemsR K.okL; rw [hlen, decide_eq_false h100, Bool.false_and, if_neg (by decide)]; rfl, HB.out⟩
  clear h100 HA HT HAL hlen
  go_enter Tryz.func12, Tryz.ntmps12
  go_wp2_with fail
  go_ret2
  exact HE.out
end Go.Proofs.YtmohefgdpddldaaGreatDoor
namespace Go.Proofs.YtmohefgdpddldaaGreatDoor
open Go.RowKit
open Y (Nd It noName zeroN)
open K (numsOf nameB aloneB rightB noneB numOk mayB threeB twoB behindT betweenT brkB rngT txt kidsT partT anyB decT fracL numT lineT itemsT)
open W (lettersB)

set_option maxHeartbeats 8000000 in
theorem items7_any {l : List It} {w : World} {A : Option Addr} {n c : Nat} (ha : RdI6 w (Lt w) A n c l) (hs : ∀ x ∈ l, x.name.size ≤ 140737488355328) :
  Calls Tryz.prog 13 #[.slice A n c] w (TxtQ w.heap.size (K.itemsR l) w) := by
 have hn := ha.small
 have hlen := ha.len
 have HA := Lib.hid ha
 have HSN := Lib.hid hs
 have HB0 : Hid (Below w.heap.size w w) := Below.refl _ _
 have HLN := Lib.hid hlen
 clear ha hs
 by_cases h100 : n ≤ 100
 ·have g1 : ¬ (100 : Int) < (n : Int) := by omega
  have HBAD : Hid (∀ (w' : World) (j : Nat) (x : It), l[j]? = some x → mayB x = false → Below w.heap.size w w' → TxtQ w.heap.size (K.itemsR l) w (.returned (.tuple #[.string ⟨#[]⟩, .int .i64 1])) w') := fun w' j x hx hm hb => ⟨by
   have : l.all mayB = false := by rw [List.all_eq_false]; exact ⟨x, List.mem_of_getElem? hx, by rw [hm]; decide⟩
   unfold K.itemsR K.okL
   rw [this, Bool.and_false, if_neg (by decide)]; rfl, hb⟩
  have HGOOD : Hid (l.all mayB = true → K.itemsR l = K.longR (itemsT l)) := fun h => by unfold K.itemsR K.okL; rw [h, hlen, decide_eq_true h100]; rfl
  clear hlen
  go_enter Tryz.func13, Tryz.ntmps13
  go_wp2_with fail
  go_loopw [4] (fun iv wx => ∃ j : Nat, j ≤ n ∧ iv = .int .i64 j ∧ Hid ((l.take j).all mayB = true) ∧ Hid (Below w.heap.size w wx)) (fun iv _ => n - (intOf iv).toNat)
  case atStart => exact ⟨0, by omega, rfl, (by show _ = _; rw [List.take_zero]; rfl), HB0.out⟩
  case round =>
   obtain ⟨j, hj, rfl, HD, HB⟩ := hrel
   by_cases hlt : j < n
   ·obtain ⟨b1, o1, x, Ab, Aa, nb, cb, na, ca, hA1, hb1, hx, hr1, hr2, hc1⟩ := (HA.out.on HB.out).got hlt
    subst hA1
    obtain ⟨s0, s1, s2, s3, s4, s5, s6, s7, s8, s9, s10, s11, s12, s13, s14⟩ := it_cells hc1
    have HC := Lib.hid (may7_any (HSN.out x (List.mem_of_getElem? hx)) hr1 hr2)
    have HY1 : Hid (mayB x = true → (l.take (j + 1)).all mayB = true) := fun h => by
     show _ = _
     rw [List.take_add_one, hx, Option.toList_some, List.all_append, HD.out]; simp [h]
    have HY0 : Hid (mayB x = false → ∀ w', Below w.heap.size w w' → TxtQ w.heap.size (K.itemsR l) w (.returned (.tuple #[.string ⟨#[]⟩, .int .i64 1])) w') := fun h w' hb => HBAD.out w' j x hx h hb
    have hj0 : (0 : Int) ≤ (j : Int) := by omega
    have hj1 : (j : Int) < (n : Int) := by omega
    clear hx hr1 hr2 hb1 hc1 HD
    generalize mayB x = r at *
    go_wp2_with fail
    refine HC.out.mono ?_
    rintro e w3 ⟨rfl, hb3⟩
    have HB3 := Lib.hid (HB.out.trans (hb3.mono HB.out.size))
    clear hb3 HC HB
    cases r with
    | true =>
     have HD2 := Lib.hid (HY1.out rfl)
     clear HY1 HY0
     go_wp2_with fail
     go_roundw
     case rel => exact ⟨j + 1, by omega, by go_num, HD2.out, HB3.out⟩
     case measure => simp [intOf]; omega
    | false =>
     have HE := Lib.hid (HY0.out rfl w3 HB3.out)
     clear HY1 HY0
     go_wp2_with fail
     go_ret2
     exact HE.out
   ·obtain rfl : j = n := by omega
    have HALL : Hid (l.all mayB = true) := by have := HD.out; rwa [List.take_of_length_le (by rw [HLN.out]; exact Nat.le_refl _)] at this
    have HF := Lib.hid (HGOOD.out HALL.out)
    clear HD HBAD HGOOD
    go_wp2_with fail
    go_loopw [5, 6] (fun sv iv wx => ∃ (k : Nat) (S : ByteArray), k ≤ j ∧ iv = .int .i64 k ∧ sv = .string S ∧ S.size ≤ 3000 ∧ Hid (S = strOfNums (itemsT (l.take k))) ∧ Hid (Below w.heap.size w wx)) (fun _ iv _ => j - (intOf iv).toNat)
    case atStart => exact ⟨0, ⟨#[]⟩, by omega, rfl, rfl, by decide, (by show _ = _; rw [List.take_zero]; rfl), HB.out⟩
    case round =>
     obtain ⟨k, S, hk, rfl, rfl, hS, HS, HBL⟩ := hrel
     by_cases hlt2 : k < j
     ·obtain ⟨b1, o1, x, Ab, Aa, nb, cb, na, ca, hA1, hb1, hx, hr1, hr2, hc1⟩ := (HA.out.on HBL.out).got hlt2
      subst hA1
      obtain ⟨s0, s1, s2, s3, s4, s5, s6, s7, s8, s9, s10, s11, s12, s13, s14⟩ := it_cells hc1
      have hmx := List.all_eq_true.1 HALL.out x (List.mem_of_getElem? hx)
      have HC := Lib.hid (line7_any hmx hr1 hr2)
      have hll := (line_ok hmx).2
      have hsz : (strOfNums (lineT x ++ [10])).size ≤ 30101 := by rw [strOfNums_size, List.length_append]; simp; omega
      have HN : Hid (S ++ strOfNums (lineT x ++ [10]) = strOfNums (itemsT (l.take (k + 1)))) := by
       show _ = _
       rw [itemsT_next hx, HS.out, str_app2, List.append_assoc]
      have HLE : Hid ((itemsT (l.take (k + 1))).length ≤ (itemsT l).length) := by
       have e : itemsT l = itemsT (l.take (k + 1)) ++ itemsT (l.drop (k + 1)) := by rw [← K.itemsT_app, List.take_append_drop]
       show _ ≤ _
       rw [e, List.length_append]; omega
      have hj0 : (0 : Int) ≤ (k : Int) := by omega
      have hj1 : (k : Int) < (j : Int) := by omega
      unfold TxB at HC
      clear hx hr1 hr2 hb1 hc1 hmx hll HS
      generalize strOfNums (lineT x ++ [10]) = LX at *
      have a1 : ¬ 9223372036854775807 < S.size + LX.size := by omega
      by_cases h3 : S.size + LX.size ≤ 3000
      ·have g3 : ¬ (3000 : Int) < ((S ++ LX).size : Int) := by rw [ByteArray.size_append]; omega
       have g4 : ¬ (3000 : Int) < (S.size : Int) + (LX.size : Int) := by omega
       clear HLE
       go_wp2_with fail
       refine HC.out.mono ?_
       rintro e w3 ⟨rfl, hb3⟩
       have HB3 := Lib.hid (HBL.out.trans (hb3.mono HBL.out.size))
       clear hb3 HC
       go_wp2_with fail
       go_roundw
       case rel => exact ⟨k + 1, S ++ LX, by omega, by go_num, rfl, by rw [ByteArray.size_append]; exact h3, HN.out, HB3.out⟩
       case measure => simp [intOf]; omega
      ·have g3 : (3000 : Int) < ((S ++ LX).size : Int) := by rw [ByteArray.size_append]; omega
       have g4 : (3000 : Int) < (S.size : Int) + (LX.size : Int) := by omega
       have HE : Hid (∀ w', Below w.heap.size w w' → TxtQ w.heap.size (K.itemsR l) w (.returned (.tuple #[.string ⟨#[]⟩, .int .i64 2])) w') := fun w' hb => ⟨by
        rw [HF.out]
        unfold K.longR
        have h1 : (S ++ LX).size = (itemsT (l.take (k + 1))).length := by rw [HN.out, strOfNums_size]
        rw [ByteArray.size_append] at h1
        rw [if_neg (by have := HLE.out; omega)]; rfl, hb⟩
       clear HLE HF HN
       go_wp2_with fail
       refine HC.out.mono ?_
       rintro e w3 ⟨rfl, hb3⟩
       have HB3 := Lib.hid (HBL.out.trans (hb3.mono HBL.out.size))
       clear hb3 HC
       go_wp2_with fail
       go_ret2
       exact HE.out _ HB3.out
     ·obtain rfl : k = j := by omega
      have HE : Hid (TxtQ w.heap.size (K.itemsR l) w (.returned (.tuple #[.string S, .int .i64 0])) wr) := ⟨by
       have h1 := HS.out
       rw [List.take_of_length_le (by rw [HLN.out]; exact Nat.le_refl _)] at h1
       have h2 : (itemsT l).length ≤ 3000 := by rw [← strOfNums_size, ← h1]; exact hS
       rw [HF.out]
       unfold K.longR
       rw [if_pos h2, h1], HBL.out⟩
      clear HS HF
      go_wp2_with fail
      go_ret2
      exact HE.out
 ·have g1 : (100 : Int) < (n : Int) := by omega
  have HE : Hid (TxtQ w.heap.size (K.itemsR l) w (.returned (.tuple #[.string ⟨#[]⟩, .int .i64 1])) w) := ⟨by unfold K.itemsR K.okL; rw [hlen, decide_eq_false h100, Bool.false_and, if_neg (by decide)]; rfl, HB0.out⟩
  clear h100 HA hlen HLN HSN
  go_enter Tryz.func13, Tryz.ntmps13
  go_wp2_with fail
  go_ret2
  exact HE.out
end Go.Proofs.YtmohefgdpddldaaGreatDoor
namespace Go.Proofs.YtmohefgdpddldaaGreatDoor
open Go.RowKit
open E (okb encB flat offs DecIs Upto)
open W (Tk lexS)
open Y (Nd It Ps)

def lexL (l : List Int) : List Tk := match lexS l 0 0 [] with | .ok ts => ts | .bad _ _ => []
/-- A text that is decoded and read has these items alone. -/
theorem items_one {Bs cs ats : List Int} {x : Int} {N M : Nat} {r : List It × Int × Int} {ts : List Tk} (hd : DecIs Bs cs ats x 0) (hl : lexS cs 0 0 [] = .ok ts) (h : ItemsIs Bs N M r) : r = allS Bs.length N M (placed cs ts) := by
 have hone : ∀ {us : List Tok} {y er : Int}, TokIs Bs us y er → us = placed cs ts ∧ er = 0 := by
  intro us y er ht
  cases ht with
  | dec cs' ats' _ _ h he => obtain ⟨_, _, _, e⟩ := h.one hd; exact absurd e he
  | bad cs' ats' _ h k _ hl' => obtain ⟨e, _⟩ := h.one hd; subst e; rw [hl] at hl'; cases hl'
  | ok cs' ats' _ h ts' hl' => obtain ⟨e, _⟩ := h.one hd; subst e; rw [hl] at hl'; injection hl' with e; subst e; exact ⟨rfl, rfl⟩
 cases h with
 | bad x er h he => exact absurd (hone h).2 he
 | ok us y h => rw [(hone h).1]
end Go.Proofs.YtmohefgdpddldaaGreatDoor
namespace Go.Proofs.YtmohefgdpddldaaGreatDoor
open Go.RowKit
open Y (Nd It Ps)

end Go.Proofs.YtmohefgdpddldaaGreatDoor
namespace Go.Proofs.YtmohefgdpddldaaGreatDoor
open W (Tk St lexS lexS_nil lexS_blank lexS_step stepS inS outS nameS setS numT noteS charsS signK)

/-- A token as the lexer makes it. -/
def GdK (k : Int) (x : List Int) (lo : Int) : Prop := k ≠ 0 ∧ (k = 1 → lo = 0) ∧ (k = 2 → x = [])
def Gd (t : Tok) : Prop := GdK t.kind t.text t.low
def GdS : St → Prop
 | .tok k x lo _ _ => GdK k x lo
 | _ => True
theorem gd_bare {k lo : Int} (h : k ≠ 0) (h1 : k ≠ 1) : GdK k [] lo := ⟨h, fun e => absurd e h1, fun _ => rfl⟩
theorem nameS_gd (t : List Int) : GdS (nameS t) := by
 unfold W.nameS
 split
 ·split
  ·trivial
  ·exact ⟨by decide, fun _ => rfl, fun h => absurd h (by decide)⟩
 ·trivial
theorem setS_gd (t : List Int) : GdS (setS t) := by
 unfold W.setS
 split <;> exact gd_bare (by decide) (by decide)
theorem numT_gd (t : List Int) : GdS (numT t) := by
 unfold W.numT
 split
 ·exact gd_bare (by decide) (by decide)
 ·trivial
theorem noteS_gd (t : List Int) : GdS (noteS t) := by
 unfold W.noteS
 split
 ·split
  ·exact ⟨by decide, fun h => absurd h (by decide), fun h => absurd h (by decide)⟩
  ·trivial
 ·trivial
theorem charsS_gd (t : List Int) : GdS (charsS t) := by
 unfold W.charsS
 split
 ·trivial
 ·split
  ·trivial
  ·split
   ·trivial
   ·exact gd_bare (by decide) (by decide)
theorem stepS_gd (o : Nat) (ts : List Tk) (c : Int) (t : List Int) : GdS (stepS o ts c t) := by
 unfold W.stepS
 split
 ·unfold W.inS
  split
  ·exact nameS_gd t
  ·split
   ·exact setS_gd t
   ·split
    ·exact gd_bare (by decide) (by decide)
    ·split
     ·exact gd_bare (by decide) (by decide)
     ·split
      ·split
       ·exact gd_bare (by decide) (by decide)
       ·trivial
      ·exact charsS_gd _
 ·unfold W.outS
  split
  ·exact nameS_gd t
  ·split
   ·exact numT_gd _
   ·split
    ·exact setS_gd t
    ·split
     ·exact noteS_gd _
     ·split
      ·trivial
      ·rename_i h
       exact ⟨h, fun _ => rfl, fun _ => rfl⟩
theorem lex_gd : ∀ (n : Nat) (l : List Int), l.length ≤ n → ∀ (i o : Nat) (ts ts' : List Tk), (∀ t ∈ ts, GdK t.kind t.text t.low) → lexS l i o ts = .ok ts' → ∀ t ∈ ts', GdK t.kind t.text t.low := by
 intro n
 induction n with
 | zero =>
  intro l hl i o ts ts' hg h
  obtain rfl : l = [] := List.eq_nil_of_length_eq_zero (by omega)
  rw [lexS_nil] at h
  split at h
  ·cases h
  ·injection h with h; subst h; exact hg
 | succ n ih =>
  intro l hl i o ts ts' hg h
  cases l with
  | nil =>
   rw [lexS_nil] at h
   split at h
   ·cases h
   ·injection h with h; subst h; exact hg
  | cons c t =>
   simp only [List.length_cons] at hl
   by_cases hb : c = 32 ∨ c = 9
   ·rw [lexS_blank hb] at h
    exact ih t (by omega) _ _ _ _ hg h
   ·rw [lexS_step hb] at h
    have hs2 := stepS_gd o ts c t
    cases hs : stepS o ts c t with
    | bad k e => rw [hs] at h; cases h
    | tok k x lo hi m =>
     rw [hs] at h hs2
     refine ih (t.drop m) (by rw [List.length_drop]; omega) _ _ _ _ (fun u hu => ?_) h
     rcases List.mem_append.1 hu with h1 | h1
     ·exact hg u h1
     ·simp at h1; subst h1; exact hs2
    | skip m =>
     rw [hs] at h
     exact ih (t.drop m) (by rw [List.length_drop]; omega) _ _ _ _ hg h
end Go.Proofs.YtmohefgdpddldaaGreatDoor
namespace Go.Proofs.YtmohefgdpddldaaGreatDoor
open Y (Nd Ps)
/-- Two answers agree where what is left is right. -/
def Agr {α : Type} (p q : α × Ps) : Prop := p.2 = q.2 ∧ ∀ ts, p.2 = .live ts → p.1 = q.1
theorem Agr.refl {α : Type} (p : α × Ps) : Agr p p := ⟨rfl, fun _ _ => rfl⟩
end Go.Proofs.YtmohefgdpddldaaGreatDoor
namespace Go.Proofs.YtmohefgdpddldaaGreatDoor
open Go.RowKit
open Y (Nd It Ps nextP takeP failP noTok noName deepP formP orsP joinP piecesP pieceP bareP setP partsP partP heldP memberP)

/-- What the document's reader goes through. -/
structure Px where
 A : Option Addr
 n : Nat
 c : Nat
 T : List Tok
 e : Int
/-- The document's reader at block b: s is still to be read; o are open. -/
structure Rdd (X : Px) (b : Nat) (w : World) (o : Nat) (s : Ps) (h : Nat) : Prop where
 blk : w.heap[b]? = some (.cells #[.slice X.A X.n X.c, .int .i64 X.e, .int .i64 s.atv, .int .i64 s.whyv, .int .i64 h] 76 (0, 0))
 rd : RdT w b X.A X.n X.c X.T
 st : (s = .live (X.T.drop h) ∧ h ≤ X.n) ∨ (∃ a y, s = .dead a y ∧ y ≠ 0 ∧ h + o ≤ X.n + 20)
 few : X.n ≤ 4000
 good : ∀ t ∈ X.T, Gd t
def RdF (X : Px) (b : Nat) (w : World) (o : Nat) (s : Ps) : Prop := ∃ h, Rdd X b w o s h
section
variable {X : Px} {b : Nat} {w w' : World} {o h : Nat} {s : Ps}
theorem Rdd.lt (H : Rdd X b w o s h) : b < w.heap.size := by
 rcases Nat.lt_or_ge b w.heap.size with hlt | hge
 ·exact hlt
 ·have := H.blk; rw [Array.getElem?_eq_none hge] at this; cases this
theorem Rdd.drewN (H : Rdd X b w o s h) (q : Nat) : Rdd X b (w.drewN q) o s h := ⟨H.blk, H.rd.drewN q, H.st, H.few, H.good⟩
theorem Rdd.below (H : Rdd X b w o s h) (hb : Below w.heap.size w w') : Rdd X b w' o s h :=
 ⟨(hb.block b H.lt).trans H.blk, H.rd.keep fun p hp => hb.cell (by have := H.lt; omega), H.st, H.few, H.good⟩
theorem Rdd.other (H : Rdd X b w o s h) {g : Nat} (hg : b < g) (j : Nat) (v : Value) : Rdd X b (w.setCell ⟨g, j, none⟩ v) o s h :=
 ⟨(Below.heap_setCell _ _ _ _ (by show b ≠ g; omega)).trans H.blk, H.rd.keep fun p hp => World.cell?_of_block (w := w) (Below.heap_setCell _ _ _ _ (by show p.block ≠ g; omega)), H.st, H.few, H.good⟩
theorem Rdd.fr (H : Rdd X b w o s h) (j : Nat) : w.frozen? ⟨b, j, none⟩ = false := frozen_of_row _ _ _ _ _ H.blk
theorem Rdd.cells (H : Rdd X b w o s h) : w.cell? ⟨b, 0, none⟩ = some (.slice X.A X.n X.c) ∧ w.cell? ⟨b, 1, none⟩ = some (.int .i64 X.e) ∧ w.cell? ⟨b, 2, none⟩ = some (.int .i64 s.atv) ∧ w.cell? ⟨b, 3, none⟩ = some (.int .i64 s.whyv) ∧ w.cell? ⟨b, 4, none⟩ = some (.int .i64 h) := by
 refine ⟨?_, ?_, ?_, ?_, ?_⟩ <;> (rw [cell_of_row _ _ _ _ _ _ H.blk]; rfl)
theorem Rdd.le (H : Rdd X b w o s h) : h ≤ 4020 := by
 have := H.few
 rcases H.st with ⟨_, h2⟩ | ⟨_, _, _, _, h2⟩ <;> omega
/-- Less is open. -/
theorem Rdd.less (H : Rdd X b w o s h) {o' : Nat} (ho : o' ≤ o) : Rdd X b w o' s h := ⟨H.blk, H.rd, by
 rcases H.st with h2 | ⟨a, y, h1, h2, h3⟩
 ·exact .inl h2
 ·exact .inr ⟨a, y, h1, h2, by omega⟩, H.few, H.good⟩
/-- The next token's kind; 0: there is none. -/
def kAt (l : List Tok) : Int := match l with | [] => 0 | t :: _ => t.kind
theorem Rdd.here (H : Rdd X b w o s h) {q : Nat} {x : Int} {s' : Ps} {o' : Nat} (hx : x = (q : Int)) (ha : s'.atv = s.atv) (hy : s'.whyv = s.whyv) (hs : (s' = .live (X.T.drop q) ∧ q ≤ X.n) ∨ (∃ a y, s' = .dead a y ∧ y ≠ 0 ∧ q + o' ≤ X.n + 20)) :
  Rdd X b (w.setCell ⟨b, 4, none⟩ (.int .i64 x)) o' s' q := by
 subst hx
 refine ⟨?_, H.rd.keep fun p hp => World.cell?_of_block (w := w) (Below.heap_setCell _ _ _ _ (by show p.block ≠ b; omega)), hs, H.few, H.good⟩
 rw [heap_setCell_same _ _ _ _ _ _ H.blk, ha, hy]; rfl
/-- One token has been taken. -/
theorem Rdd.next {t : Tok} {u : List Tok} (H : Rdd X b w o (.live (t :: u)) h) {x : Int} (hx : x = (h : Int) + 1) : Rdd X b (w.setCell ⟨b, 4, none⟩ (.int .i64 x)) o (.live u) (h + 1) := by
 refine H.here (q := h + 1) (by omega) rfl rfl (.inl ?_)
 rcases H.st with ⟨h1, h2⟩ | ⟨a, y, h1, _⟩
 ·injection h1 with h1
  have hl : h < X.T.length := by
   have := congrArg List.length h1
   rw [List.length_cons, List.length_drop] at this
   omega
  refine ⟨?_, by rw [← H.rd.len]; omega⟩
  rw [List.drop_eq_getElem_cons hl] at h1
  injection h1 with _ h1
  rw [h1]
 ·cases h1
/-- The like, where it is wrong. -/
theorem Rdd.past {a y : Int} {o' : Nat} (H : Rdd X b w (o' + 1) (.dead a y) h) {x : Int} (hx : x = (h : Int) + 1) : Rdd X b (w.setCell ⟨b, 4, none⟩ (.int .i64 x)) o' (.dead a y) (h + 1) := by
 refine H.here (q := h + 1) (by omega) rfl rfl (.inr ?_)
 rcases H.st with ⟨h1, h2⟩ | ⟨a', y', h1, h2, h3⟩
 ·cases h1
 ·exact ⟨a', y', h1, h2, by omega⟩
theorem Rdd.live {l : List Tok} (H : Rdd X b w o (.live l) h) : l = X.T.drop h ∧ h ≤ X.n ∧ l.length = X.n - h := by
 rcases H.st with ⟨h1, h2⟩ | ⟨a, y, h1, _⟩
 ·injection h1 with h1
  refine ⟨h1, h2, ?_⟩
  rw [h1, List.length_drop, H.rd.len]
 ·cases h1
theorem Rdd.gd {t : Tok} {u : List Tok} (H : Rdd X b w o (.live (t :: u)) h) : Gd t := by
 refine H.good t ?_
 have := H.live.1
 exact List.mem_of_mem_drop (i := h) (by rw [← this]; simp)
/-- A token lies in memory. -/
theorem Rdd.tokAt {t : Tok} (H : Rdd X b w o s h) (ht : X.T[h]? = some t) : ∃ g off, X.A = some ⟨g, off, none⟩ ∧ g < b ∧ h < X.n ∧ w.cell? ⟨g, off + h * 5, none⟩ = some (.int .i64 t.kind) ∧ w.cell? ⟨g, off + h * 5 + 1, none⟩ = some (.string (strOfNums t.text)) ∧ w.cell? ⟨g, off + h * 5 + 2, none⟩ = some (.int .i64 t.low) ∧ w.cell? ⟨g, off + h * 5 + 3, none⟩ = some (.int .i64 t.high) ∧ w.cell? ⟨g, off + h * 5 + 4, none⟩ = some (.int .i64 t.pos) := by
 have hlt : h < X.n := by have := (List.getElem?_eq_some_iff.1 ht).1; have := H.rd.len; omega
 obtain ⟨g, off, e, hg, hc⟩ := H.rd.at_ (by omega)
 refine ⟨g, off, e, hg, hlt, ?_, ?_, ?_, ?_, ?_⟩
 ·exact hc (h * 5 + 0) _ (by rw [cellsP_at ht (by decide)]; rfl)
 ·exact hc (h * 5 + 1) _ (by rw [cellsP_at ht (by decide)]; rfl)
 ·exact hc (h * 5 + 2) _ (by rw [cellsP_at ht (by decide)]; rfl)
 ·exact hc (h * 5 + 3) _ (by rw [cellsP_at ht (by decide)]; rfl)
 ·exact hc (h * 5 + 4) _ (by rw [cellsP_at ht (by decide)]; rfl)
/-- The next token lies in memory. -/
theorem Rdd.tok {t : Tok} {u : List Tok} (H : Rdd X b w o (.live (t :: u)) h) : ∃ g off, X.A = some ⟨g, off, none⟩ ∧ g < b ∧ h < X.n ∧ w.cell? ⟨g, off + h * 5, none⟩ = some (.int .i64 t.kind) ∧ w.cell? ⟨g, off + h * 5 + 1, none⟩ = some (.string (strOfNums t.text)) ∧ w.cell? ⟨g, off + h * 5 + 2, none⟩ = some (.int .i64 t.low) ∧ w.cell? ⟨g, off + h * 5 + 3, none⟩ = some (.int .i64 t.high) ∧ w.cell? ⟨g, off + h * 5 + 4, none⟩ = some (.int .i64 t.pos) := by
 refine H.tokAt ?_
 have := congrArg (fun l => l[0]?) H.live.1
 simpa using this.symm
/-- A kind is handed back; nothing but the order has been drawn. -/
def KindD (w : World) (k : Int) (e : Ending) (w' : World) : Prop := e = .returned (.int .i64 k) ∧ ∃ q, w' = w.drewN q
set_option maxHeartbeats 2000000 in
theorem dkind_all (H : Rdd X b w o s h) :
  Calls Tryz.prog 48 #[.pointer (some ⟨b, 0, none⟩)] w (KindD w (kAt (X.T.drop h))) := by
 obtain ⟨c0, _, _, _, c4⟩ := H.cells
 have hf := H.few
 have hle := H.le
 have hl := H.rd.len
 by_cases hlt : h < X.n
 ·obtain ⟨t, ht⟩ : ∃ t, X.T[h]? = some t := ⟨_, List.getElem?_eq_getElem (by omega)⟩
  obtain ⟨g, off, hA, _, _, d0, _⟩ := H.tokAt ht
  have hk : kAt (X.T.drop h) = t.kind := by
   have h1 : (X.T.drop h)[0]? = some t := by rw [List.getElem?_drop]; exact ht
   cases hd : X.T.drop h with
   | nil => rw [hd] at h1; cases h1
   | cons a u => rw [hd] at h1; injection h1 with h1; subst h1; rfl
  rw [hk]
  rw [hA] at c0
  have hli : ¬ (X.n : Int) ≤ (h : Int) := by omega
  have hl2 : (h : Int) < (X.n : Int) := by omega
  clear H hA hl hk ht
  go_enter Tryz.func48, Tryz.ntmps48
  go_wp2_with fail
  go_quiet (fail)
  go_wp2_with fail
  go_quiet (fail)
  go_wp2_with fail
  go_ret
  exact ⟨rfl, _, kdrewN_two _ _ _⟩
 ·have hk : kAt (X.T.drop h) = 0 := by rw [List.drop_eq_nil_of_le (by omega)]; rfl
  rw [hk]
  have hli : (X.n : Int) ≤ (h : Int) := by omega
  clear H hl hk
  go_enter Tryz.func48, Tryz.ntmps48
  go_wp2_with fail
  go_quiet (fail)
  go_wp2_with fail
  go_ret
  exact ⟨rfl, nq, rfl⟩
theorem dkind_any {l : List Tok} (H : Rdd X b w o (.live l) h) :
  Calls Tryz.prog 48 #[.pointer (some ⟨b, 0, none⟩)] w (KindD w (kAt l)) := by
 rw [H.live.1]; exact dkind_all H
/-- What is left to be gone through. -/
def dlen (b : Nat) (w : World) : Nat := match w.cell? ⟨b, 3, none⟩, w.cell? ⟨b, 0, none⟩, w.cell? ⟨b, 4, none⟩ with
 | some (.int _ y), some (.slice _ n _), some (.int _ h) => if y = 0 then n + 1 - h.toNat else 0
 | _, _, _ => 0
def left_ : Ps → Nat | .live l => l.length + 1 | .dead _ _ => 0
theorem Rdd.dlen (H : Rdd X b w o s h) : dlen b w = left_ s := by
 obtain ⟨c0, _, _, c3, c4⟩ := H.cells
 unfold Proofs.YtmohefgdpddldaaGreatDoor.dlen
 rw [c0, c3, c4]
 cases s with
 | live l =>
  obtain ⟨_, h2, h3⟩ := H.live
  show (if (0 : Int) = 0 then X.n + 1 - (h : Int).toNat else 0) = l.length + 1
  rw [if_pos rfl, h3]; simp; omega
 | dead a y =>
  rcases H.st with ⟨h1, _⟩ | ⟨a', y', h1, h2, _⟩
  ·cases h1
  ·injection h1 with _ h1; subst h1
   show (if y = 0 then _ else 0) = 0
   rw [if_neg h2]
end
end Go.Proofs.YtmohefgdpddldaaGreatDoor
