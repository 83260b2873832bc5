/- Plain facts on forms that are written out: what may be written, and its text. Plain facts: what the document lets be written is what the program does. -/
import Derived.Test.YtmohefgdpddldaaGreatDoorCP03
import Derived.Test.YtmohefgdpddldaaGreatDoorCP06
import Derived.Lib.ItoaNum
import Derived.Lib.TrimByte
set_option maxRecDepth 100000
namespace Go.Proofs.YtmohefgdpddldaaGreatDoor
namespace K
open Y (Nd It noName zeroN sizeL)

def numsOf (s : ByteArray) : List Int := s.data.toList.map fun b => (b.toNat : Int)
theorem numsOf_len (s : ByteArray) : (numsOf s).length = s.size := by unfold numsOf; rw [List.length_map]; rfl
theorem numsOf_byte (s : ByteArray) : ∀ x ∈ numsOf s, 0 ≤ x ∧ x < 256 := fun x hx => by
 simp [numsOf] at hx
 obtain ⟨b, _, rfl⟩ := hx
 have := b.toNat_lt
 omega
theorem strOf_numsOf (s : ByteArray) : strOfNums (numsOf s) = s := by
 apply ByteArray.ext
 apply Array.ext'
 rw [strOfNums_data, numsOf, List.map_map]
 conv => rhs; rw [← List.map_id s.data.toList]
 refine List.map_congr_left fun b _ => ?_
 simp
theorem numsOf_strOf {l : List Int} (h : ∀ x ∈ l, 0 ≤ x ∧ x < 256) : numsOf (strOfNums l) = l := by
 unfold numsOf
 rw [strOfNums_data, List.map_map]
 conv => rhs; rw [← List.map_id l]
 refine List.map_congr_left fun x hx => ?_
 have := h x hx
 simp
 omega
def nameB : List Int → Bool
 | [] => false
 | c :: t => decide (t.length + 1 ≤ 16) && W.ltB c && (c :: t).all W.nmB
def twoB (k : Int) : Bool := decide (k = 6 ∨ k = 7)
def threeB (k : Int) : Bool := decide (k = 10 ∨ k = 11 ∨ k = 12)
def aloneB (s : ByteArray) (lo hi : Int) : Bool := decide (s.size = 0) && decide (lo = 0) && decide (hi = 0)
def endK (a : Nd) : Int := if twoB a.kind = true then (match a.kids with | [_, c] => c.kind | _ => a.kind) else a.kind
def pairB (k : Int) : List Nd → Bool
 | [a, b] => !twoB b.kind && (decide (k = 6) || decide (endK a = 2) || decide (endK a = 4))
 | _ => false
mutual
def inS : Nd → Bool
 | .mk k s lo hi l =>
  if k = 5 then decide (s.size = 0) && decide (l.length = 0) && decide (0 ≤ lo) && decide (lo ≤ hi) && decide (hi ≤ 1114111)
  else if k = 6 ∨ k = 7 then aloneB s lo hi && pairB k l && inSL l
  else if k = 2 then nameB (numsOf s) && decide (lo = 0) && decide (hi = 0) && decide (l.length = 0)
  else if k = 4 then decide (s.size = 0) && (decide (lo = 0) || decide (lo = 1)) && decide (hi = 0) && inSL l
  else false
def inSL : List Nd → Bool
 | [] => true
 | x :: t => inS x && inSL t
end
def nosB (x : Nd) : Bool :=
 if x.kind = 2 then nameB (numsOf x.name) && decide (x.low = 0) && decide (x.high = 0) && decide (x.kids.length = 0)
 else if x.kind = 4 then decide (x.name.size = 0) && (decide (x.low = 0) || decide (x.low = 1)) && decide (x.high = 0) && inSL x.kids
 else false
mutual
def inF : Nd → Bool
 | .mk k s lo hi l =>
  if k = 1 ∨ k = 3 then aloneB s lo hi && decide (l.length = 0)
  else if k = 8 ∨ k = 9 then aloneB s lo hi && decide (2 ≤ l.length) && inFL l
  else if k = 10 ∨ k = 11 ∨ k = 12 then aloneB s lo hi && decide (l.length = 1) && inFL l
  else nosB (.mk k s lo hi l)
def inFL : List Nd → Bool
 | [] => true
 | x :: t => inF x && inFL t
end
mutual
def deepB : Nat → Nd → Bool
 | 0, _ => false
 | m + 1, .mk _ _ _ _ l => deepL m l
def deepL : Nat → List Nd → Bool
 | _, [] => true
 | m, x :: t => deepB m x && deepL m t
end
def rightB (x : Nd) : Bool := decide (x.size ≤ 500) && deepB 100 x && inF x
def noneB (x : Nd) : Bool := decide (x.kind = 0) && aloneB x.name x.low x.high && decide (x.kids.length = 0)
def numOk (n : Int) : Bool := decide (0 ≤ n) && decide (n ≤ 999999)
def mayB (x : It) : Bool :=
 if x.kind = 1 then nameB (numsOf x.name) && decide (x.number = 0) && !x.cut && rightB x.before && noneB x.after
 else if x.kind = 2 then decide (x.name.size = 0) && numOk x.number && rightB x.before && rightB x.after
 else if x.kind = 3 then W.lettersB (numsOf x.name) && (decide (x.number = -1) || numOk x.number) && !x.cut && noneB x.before && noneB x.after
 else false
def behindT (k : Int) : List Int := if k = 10 then [42] else if k = 11 then [43] else if k = 12 then [63] else []
def betweenT (k : Int) : List Int := if k = 9 then [32, 124, 32] else if k = 6 then [38] else if k = 7 then [45] else [32]
def brkB (k kin : Int) : Bool := if k = 9 then true else if k = 8 then decide (kin ≠ 9) else threeB k && threeB kin
def rngT (lo hi : Int) : List Int := Q.textB lo ++ if hi = lo then [] else 45 :: Q.textB hi
mutual
def txt : Nd → List Int
 | .mk k s lo hi l =>
  if k = 1 then [40, 41]
  else if k = 3 then [46]
  else if k = 2 then 36 :: numsOf s
  else if k = 4 then (if lo = 1 then [91, 94] else [91]) ++ kidsT 4 true l ++ [93]
  else if k = 5 then rngT lo hi
  else kidsT k true l ++ behindT k
def kidsT (k : Int) : Bool → List Nd → List Int
 | _, [] => []
 | f, x :: t => (if f = true then [] else betweenT k) ++ (if brkB x.kind k = true then [40] ++ txt x ++ [41] else txt x) ++ kidsT k false t
end
def partT (k : Int) (x : Nd) : List Int := if brkB x.kind k = true then [40] ++ txt x ++ [41] else txt x
theorem kidsT_cons (k : Int) (f : Bool) (x : Nd) (t : List Nd) : kidsT k f (x :: t) = (if f = true then [] else betweenT k) ++ partT k x ++ kidsT k false t := by rw [kidsT]; rfl
theorem kidsT_snoc (k : Int) (x : Nd) : ∀ (l : List Nd) (f : Bool), kidsT k f (l ++ [x]) = kidsT k f l ++ (if f = true ∧ l = [] then [] else betweenT k) ++ partT k x
 | [], f => by rw [List.nil_append, kidsT_cons, kidsT, kidsT]; cases f <;> simp
 | y :: t, f => by
  rw [List.cons_append, kidsT_cons, kidsT_snoc k x t false, kidsT_cons]
  simp
def decT (n : Int) : List Int := (Lib.itoa n).map fun b => (b.toNat : Int)
def fracL (n : Int) : List UInt8 := Lib.trimRightB ((Lib.itoa (1000 + n % 1000)).drop 1) 48
def numT (n : Int) : List Int := decT (n / 1000) ++ if fracL n = [] then [] else 46 :: (fracL n).map fun b => (b.toNat : Int)
def allowT : List Int := [35, 97, 108, 108, 111, 119, 32]
def lineT (x : It) : List Int :=
 if x.kind = 1 then 36 :: numsOf x.name ++ [32, 61, 32] ++ txt x.before
 else if x.kind = 2 then numT x.number ++ [32] ++ txt x.before ++ (if x.cut = true then [32, 195, 183, 32] else [32, 195, 151, 32]) ++ txt x.after
 else allowT ++ numsOf x.name ++ if x.number = -1 then [] else 32 :: numT x.number
def itemsT (l : List It) : List Int := l.flatMap fun x => lineT x ++ [10]
theorem itemsT_app (l m : List It) : itemsT (l ++ m) = itemsT l ++ itemsT m := by simp [itemsT]
def longR (t : List Int) : List Int × Int := if t.length ≤ 3000 then (t, 0) else ([], 2)
def formR (x : Nd) : List Int × Int := if rightB x = true then longR (txt x) else ([], 1)
def okL (l : List It) : Bool := decide (l.length ≤ 100) && l.all mayB
def itemsR (l : List It) : List Int × Int := if okL l = true then longR (itemsT l) else ([], 1)
theorem inSL_all (l : List Nd) : inSL l = l.all inS := by
 induction l with
 | nil => rw [inSL]; rfl
 | cons x t ih => rw [inSL, ih]; rfl
theorem inFL_all (l : List Nd) : inFL l = l.all inF := by
 induction l with
 | nil => rw [inFL]; rfl
 | cons x t ih => rw [inFL, ih]; rfl
theorem deepL_all (m : Nat) (l : List Nd) : deepL m l = l.all (deepB m) := by
 induction l with
 | nil => rw [deepL]; rfl
 | cons x t ih => rw [deepL, ih]; rfl
theorem inS_eq (x : Nd) : inS x = if x.kind = 5 then decide (x.name.size = 0) && decide (x.kids.length = 0) && decide (0 ≤ x.low) && decide (x.low ≤ x.high) && decide (x.high ≤ 1114111)
  else if x.kind = 6 ∨ x.kind = 7 then aloneB x.name x.low x.high && pairB x.kind x.kids && x.kids.all inS
  else nosB x := by
 cases x with
 | mk k s lo hi l =>
  rw [inS, inSL_all]
  simp only [nosB, Nd.kind, Nd.name, Nd.low, Nd.high, Nd.kids, inSL_all]
  rfl
theorem inF_eq (x : Nd) : inF x = if x.kind = 1 ∨ x.kind = 3 then aloneB x.name x.low x.high && decide (x.kids.length = 0)
  else if x.kind = 8 ∨ x.kind = 9 then aloneB x.name x.low x.high && decide (2 ≤ x.kids.length) && x.kids.all inF
  else if x.kind = 10 ∨ x.kind = 11 ∨ x.kind = 12 then aloneB x.name x.low x.high && decide (x.kids.length = 1) && x.kids.all inF
  else nosB x := by
 cases x with
 | mk k s lo hi l =>
  rw [inF, inFL_all]
  rfl
theorem deepB_eq (m : Nat) (x : Nd) : deepB (m + 1) x = x.kids.all (deepB m) := by
 cases x with
 | mk k s lo hi l => rw [deepB, deepL_all]; rfl
theorem txt_eq (x : Nd) : txt x = if x.kind = 1 then [40, 41]
  else if x.kind = 3 then [46]
  else if x.kind = 2 then 36 :: numsOf x.name
  else if x.kind = 4 then (if x.low = 1 then [91, 94] else [91]) ++ kidsT 4 true x.kids ++ [93]
  else if x.kind = 5 then rngT x.low x.high
  else kidsT x.kind true x.kids ++ behindT x.kind := by
 cases x with
 | mk k s lo hi l => rw [txt]; rfl
theorem text_len (c : Int) : (Q.textB c).length ≤ 10 := by
 unfold Q.textB
 split
 ·simp
 ·have := Q.hex_len 6 c
  simp
  omega
theorem behind_len (k : Int) : (behindT k).length ≤ 1 := by unfold behindT; split <;> (try split) <;> (try split) <;> simp
theorem between_len (k : Int) : (betweenT k).length ≤ 3 := by unfold betweenT; split <;> (try split) <;> (try split) <;> simp
theorem name_len {l : List Int} (h : nameB l = true) : l.length ≤ 16 := by
 cases l with
 | nil => simp
 | cons c t =>
  unfold nameB at h
  simp only [Bool.and_eq_true, decide_eq_true_eq] at h
  simp only [List.length_cons]
  exact h.1.1
theorem nos_len {x : Nd} (h : nosB x = true) : x.kind ≠ 2 ∨ x.name.size ≤ 16 := by
 by_cases hk : x.kind = 2
 ·right
  unfold nosB at h
  rw [if_pos hk] at h
  simp only [Bool.and_eq_true] at h
  have := name_len h.1.1.1
  rwa [numsOf_len] at this
 ·exact .inl hk
theorem all_mem {p : Nd → Bool} {l : List Nd} (h : l.all p = true) : ∀ x ∈ l, p x = true := List.all_eq_true.1 h
def anyB (x : Nd) : Bool := inF x || inS x
theorem any_kids {x : Nd} (h : anyB x = true) : (∀ y ∈ x.kids, anyB y = true) ∧ (x.kind = 2 → x.name.size ≤ 16) := by
 have hn : nosB x = true → (∀ y ∈ x.kids, anyB y = true) ∧ (x.kind = 2 → x.name.size ≤ 16) := fun h => by
  refine ⟨fun y hy => ?_, fun hk => (nos_len h).resolve_left (fun e => e hk)⟩
  unfold nosB at h
  split at h
  ·simp only [Bool.and_eq_true, decide_eq_true_eq] at h
   rw [List.eq_nil_of_length_eq_zero h.2] at hy; cases hy
  ·split at h
   ·simp only [Bool.and_eq_true] at h
    have := h.2
    rw [inSL_all] at this
    unfold anyB; rw [all_mem this y hy, Bool.or_true]
   ·cases h
 unfold anyB at h
 rw [Bool.or_eq_true] at h
 rcases h with h | h
 ·rw [inF_eq] at h
  split at h
  ·rename_i hk
   simp only [Bool.and_eq_true, decide_eq_true_eq] at h
   exact ⟨fun y hy => (by rw [List.eq_nil_of_length_eq_zero h.2] at hy; cases hy), fun e => by omega⟩
  ·split at h
   ·rename_i hk
    simp only [Bool.and_eq_true] at h
    exact ⟨fun y hy => (by unfold anyB; rw [all_mem h.2 y hy, Bool.true_or]), fun e => by omega⟩
   ·split at h
    ·rename_i hk
     simp only [Bool.and_eq_true] at h
     exact ⟨fun y hy => (by unfold anyB; rw [all_mem h.2 y hy, Bool.true_or]), fun e => by omega⟩
    ·exact hn h
 ·rw [inS_eq] at h
  split at h
  ·simp only [Bool.and_eq_true, decide_eq_true_eq] at h
   exact ⟨fun y hy => (by rw [List.eq_nil_of_length_eq_zero h.1.1.1.2] at hy; cases hy), fun e => by omega⟩
  ·split at h
   ·simp only [Bool.and_eq_true] at h
    exact ⟨fun y hy => (by unfold anyB; rw [all_mem h.2 y hy, Bool.or_true]), fun e => by omega⟩
   ·exact hn h
theorem kidsT_len (k : Int) : ∀ (l : List Nd) (f : Bool), (∀ y ∈ l, (txt y).length + 5 ≤ 30 * y.size) → (kidsT k f l).length ≤ 30 * sizeL l := by
 intro l
 induction l with
 | nil => intro f _; rw [kidsT]; simp
 | cons x t ih =>
  intro f h
  have h1 := h x (List.mem_cons_self ..)
  have h2 := ih false (fun y hy => h y (List.mem_cons_of_mem _ hy))
  have h3 := between_len k
  rw [kidsT_cons, sizeL]
  have h5 : (partT k x).length ≤ (txt x).length + 2 := by unfold partT; split <;> simp
  have h6 : (if f = true then ([] : List Int) else betweenT k).length ≤ 3 := by
   split
   ·simp
   ·exact h3
  simp only [List.length_append]
  omega
theorem size_eq (x : Nd) : x.size = sizeL x.kids + 1 := by cases x; rw [Nd.size]; rfl
theorem size_in {l : List Nd} {y : Nd} (h : y ∈ l) : y.size ≤ sizeL l := by
 induction l with
 | nil => cases h
 | cons z t ih =>
  rw [sizeL]
  rcases List.mem_cons.1 h with rfl | h
  ·omega
  ·have := ih h; omega
theorem txt_len : ∀ (n : Nat) (x : Nd), x.size ≤ n → anyB x = true → (txt x).length + 5 ≤ 30 * x.size := by
 intro n
 induction n with
 | zero => intro x h; have := x.size_pos; omega
 | succ n ih =>
  intro x hn h
  have hp := x.size_pos
  have hs := size_eq x
  obtain ⟨hk, hnm⟩ := any_kids h
  have hkids : ∀ k f, (kidsT k f x.kids).length ≤ 30 * sizeL x.kids := fun k f => kidsT_len k x.kids f fun y hy => ih y (by have := size_in hy; omega) (hk y hy)
  rw [txt_eq]
  by_cases h1 : x.kind = 1
  ·rw [if_pos h1]; simp; omega
  ·rw [if_neg h1]
   by_cases h3 : x.kind = 3
   ·rw [if_pos h3]; simp; omega
   ·rw [if_neg h3]
    by_cases h2 : x.kind = 2
    ·rw [if_pos h2, List.length_cons, numsOf_len]
     have := hnm h2
     omega
    ·rw [if_neg h2]
     by_cases h4 : x.kind = 4
     ·rw [if_pos h4]
      have := hkids 4 true
      have e : (if x.low = 1 then [91, 94] else [91] : List Int).length ≤ 2 := by split <;> simp
      simp only [List.length_append, List.length_cons, List.length_nil]
      omega
     ·rw [if_neg h4]
      by_cases h5 : x.kind = 5
      ·rw [if_pos h5]
       have e1 := text_len x.low
       have e2 := text_len x.high
       unfold rngT
       split
       ·simp; omega
       ·simp only [List.length_append, List.length_cons]; omega
      ·rw [if_neg h5]
       have := hkids x.kind true
       have := behind_len x.kind
       simp only [List.length_append]
       omega
theorem right_any {x : Nd} (h : rightB x = true) : x.size ≤ 500 ∧ anyB x = true ∧ (txt x).length ≤ 15000 := by
 unfold rightB at h
 simp only [Bool.and_eq_true, decide_eq_true_eq] at h
 have ha : anyB x = true := by unfold anyB; rw [h.2, Bool.true_or]
 exact ⟨h.1.1, ha, by have := txt_len x.size x (Nat.le_refl _) ha; omega⟩
end K
end Go.Proofs.YtmohefgdpddldaaGreatDoor
namespace Go.Proofs.YtmohefgdpddldaaGreatDoor
namespace K
open Y (Nd It noName zeroN sizeL)

def innerB (k : Int) : Bool := decide (k = 5 ∨ k = 2 ∨ k = 4 ∨ k = 6 ∨ k = 7)
mutual
def endsD : Nd → Bool
 | .mk k _ _ _ l => if (k = 6 ∨ k = 7) ∧ l.length = 2 then endsL l else decide (k = 2 ∨ k = 4)
def endsL : List Nd → Bool
 | [] => false
 | x :: t => if t.isEmpty = true then endsD x else endsL t
end
theorem endsD_eq (x : Nd) : endsD x = if (x.kind = 6 ∨ x.kind = 7) ∧ x.kids.length = 2 then endsL x.kids else decide (x.kind = 2 ∨ x.kind = 4) := by
 cases x with
 | mk k s lo hi l => rw [endsD]; rfl
theorem endsL_two (a b : Nd) : endsL [a, b] = endsD b := by
 simp [endsL]
def badD (x : Nd) (within : Bool) : Bool := decide ((x.kind ≠ 2 ∧ x.name.size ≠ 0) ∨ (x.kind ≠ 5 ∧ (x.high ≠ 0 ∨ x.kind ≠ 4 ∧ x.low ≠ 0)) ∨ (within = true ∧ innerB x.kind = false))
def pairD (k : Int) : List Nd → Bool
 | [a, b] => !twoB b.kind && (decide (k = 6) || endsD a)
 | _ => false
def nodeD (x : Nd) (within : Bool) : Bool :=
 if badD x within = true then false
 else if x.kind = 1 ∨ x.kind = 3 then decide (x.kids.length = 0)
 else if x.kind = 2 then decide (x.kids.length = 0) && nameB (numsOf x.name)
 else if x.kind = 4 then decide (x.low = 0) || decide (x.low = 1)
 else if x.kind = 5 then within && decide (x.kids.length = 0) && decide (0 ≤ x.low) && decide (x.low ≤ x.high) && decide (x.high ≤ 1114111)
 else if x.kind = 6 ∨ x.kind = 7 then within && pairD x.kind x.kids
 else if x.kind = 8 ∨ x.kind = 9 then decide (2 ≤ x.kids.length)
 else if x.kind = 10 ∨ x.kind = 11 ∨ x.kind = 12 then decide (x.kids.length = 1)
 else false
mutual
def allD : Bool → Nd → Bool
 | b, .mk k s lo hi l => nodeD (.mk k s lo hi l) b && allDL (b || decide (k = 4)) l
def allDL : Bool → List Nd → Bool
 | _, [] => true
 | b, x :: t => allD b x && allDL b t
end
theorem allDL_all (b : Bool) (l : List Nd) : allDL b l = l.all (allD b) := by
 induction l with
 | nil => rw [allDL]; rfl
 | cons x t ih => rw [allDL, ih]; rfl
theorem allD_eq (x : Nd) (b : Bool) : allD b x = (nodeD x b && x.kids.all (allD (b || decide (x.kind = 4)))) := by
 cases x with
 | mk k s lo hi l => rw [allD, allDL_all]; rfl
theorem all_congr {p q : Nd → Bool} {l : List Nd} (h : ∀ y ∈ l, p y = q y) : l.all p = l.all q := by
 induction l with
 | nil => rfl
 | cons x t ih => rw [List.all_cons, List.all_cons, h x (List.mem_cons_self ..), ih fun y hy => h y (List.mem_cons_of_mem _ hy)]
theorem twoB_iff (k : Int) : twoB k = decide (k = 6 ∨ k = 7) := rfl
theorem endK_of {a : Nd} (h : inS a = true) : endsD a = (decide (endK a = 2) || decide (endK a = 4)) := by
 rw [endsD_eq]
 by_cases ht : a.kind = 6 ∨ a.kind = 7
 ·rw [inS_eq, if_neg (by omega), if_pos ht] at h
  simp only [Bool.and_eq_true] at h
  have hp := h.1.2
  unfold pairB at hp
  split at hp
  ·rename_i p q e
   simp only [Bool.and_eq_true, Bool.not_eq_true'] at hp
   have hq : ¬ (q.kind = 6 ∨ q.kind = 7) := by have := hp.1; rw [twoB_iff] at this; exact of_decide_eq_false this
   have hl : a.kids.length = 2 := by rw [e]; rfl
   have hk : endK a = q.kind := by
    unfold endK
    rw [if_pos (show twoB a.kind = true from decide_eq_true ht), e]
   rw [if_pos ⟨ht, hl⟩, hk, e, endsL_two, endsD_eq, if_neg (fun e => hq e.1)]
   simp
  ·cases hp
 ·rw [if_neg (fun e => ht e.1)]
  have hk : endK a = a.kind := by
   unfold endK
   rw [if_neg (show ¬ twoB a.kind = true by rw [twoB_iff]; simp; omega)]
  rw [hk]
  simp
theorem pairD_of {k : Int} : ∀ {l : List Nd}, l.all inS = true → pairD k l = pairB k l
 | [a, b], h => by
  simp only [List.all_cons, Bool.and_eq_true] at h
  show (!twoB b.kind && (decide (k = 6) || endsD a)) = (!twoB b.kind && (decide (k = 6) || decide (endK a = 2) || decide (endK a = 4)))
  rw [endK_of h.1, Bool.or_assoc]
 | [], _ => rfl
 | [_], _ => rfl
 | _ :: _ :: _ :: _, _ => rfl
theorem and_of {a b c : Bool} (h : c = true → a = b) : (a && c) = (b && c) := by
 cases c with
 | false => rw [Bool.and_false, Bool.and_false]
 | true => rw [h rfl]
theorem nos_all {x : Nd} (b : Bool) (hk : x.kind = 2 ∨ x.kind = 4) (ih : ∀ y ∈ x.kids, allD true y = inS y) : allD b x = nosB x := by
 rw [allD_eq]
 rcases hk with h | h
 ·unfold nosB nodeD badD innerB
  simp only [h]
  by_cases h0 : x.kids.length = 0
  ·rw [List.eq_nil_of_length_eq_zero h0]
   by_cases e1 : x.low = 0 <;> by_cases e2 : x.high = 0 <;> cases b <;> simp [e1, e2]
  ·cases b <;> simp [h0]
 ·have : x.kids.all (allD (b || decide (x.kind = 4))) = inSL x.kids := by rw [decide_eq_true h, Bool.or_true, inSL_all]; exact all_congr ih
  rw [this]
  unfold nosB nodeD badD innerB
  simp only [h]
  by_cases e1 : x.name.size = 0 <;> by_cases e2 : x.high = 0 <;> cases b <;> simp [e1, e2]
theorem allD_in : ∀ (n : Nat) (x : Nd), x.size ≤ n → allD true x = inS x := by
 intro n
 induction n with
 | zero => intro x h; have := x.size_pos; omega
 | succ n ih =>
  intro x hn
  have hs := size_eq x
  have hk : ∀ y ∈ x.kids, allD true y = inS y := fun y hy => ih y (by have := size_in hy; omega)
  by_cases h24 : x.kind = 2 ∨ x.kind = 4
  ·rw [nos_all true h24 hk, inS_eq, if_neg (by omega), if_neg (by omega)]
  ·rw [allD_eq, inS_eq, Bool.true_or, all_congr hk]
   by_cases h5 : x.kind = 5
   ·unfold nodeD badD innerB
    simp only [h5]
    by_cases h0 : x.kids.length = 0
    ·rw [List.eq_nil_of_length_eq_zero h0]
     by_cases e1 : x.name.size = 0 <;> simp [e1]
    ·simp [h0]
   ·rw [if_neg h5]
    by_cases h67 : x.kind = 6 ∨ x.kind = 7
    ·rw [if_pos h67]
     refine and_of fun hall => ?_
     unfold nodeD
     rw [if_neg (show ¬ (x.kind = 1 ∨ x.kind = 3) by omega), if_neg (show ¬ x.kind = 2 by omega), if_neg (show ¬ x.kind = 4 by omega), if_neg h5, if_pos h67, pairD_of hall]
     unfold badD innerB aloneB
     rcases h67 with h | h <;> simp only [h] <;> by_cases e1 : x.name.size = 0 <;> by_cases e2 : x.high = 0 <;> by_cases e3 : x.low = 0 <;> simp [e1, e2, e3]
    ·rw [if_neg h67]
     have hb : badD x true = true := by
      unfold badD innerB
      refine decide_eq_true (.inr (.inr ⟨rfl, decide_eq_false (by omega)⟩))
     unfold nodeD nosB
     rw [if_pos hb, if_neg (by omega), if_neg (by omega), Bool.false_and]
theorem allD_out : ∀ (n : Nat) (x : Nd), x.size ≤ n → allD false x = inF x := by
 intro n
 induction n with
 | zero => intro x h; have := x.size_pos; omega
 | succ n ih =>
  intro x hn
  have hs := size_eq x
  have hk : ∀ y ∈ x.kids, allD false y = inF y := fun y hy => ih y (by have := size_in hy; omega)
  by_cases h24 : x.kind = 2 ∨ x.kind = 4
  ·rw [nos_all false h24 (fun y _ => allD_in _ y (Nat.le_refl _)), inF_eq, if_neg (by omega), if_neg (by omega), if_neg (by omega)]
  ·rw [allD_eq, inF_eq, Bool.false_or, decide_eq_false (show ¬ x.kind = 4 by omega), all_congr hk]
   by_cases h13 : x.kind = 1 ∨ x.kind = 3
   ·rw [if_pos h13]
    unfold nodeD badD innerB aloneB
    by_cases h0 : x.kids.length = 0
    ·rw [List.eq_nil_of_length_eq_zero h0]
     rcases h13 with h | h <;> simp only [h] <;> by_cases e1 : x.name.size = 0 <;> by_cases e2 : x.high = 0 <;> by_cases e3 : x.low = 0 <;> simp [e1, e2, e3]
    ·rcases h13 with h | h <;> simp [h, h0]
   ·rw [if_neg h13]
    by_cases h89 : x.kind = 8 ∨ x.kind = 9
    ·rw [if_pos h89]
     refine and_of fun _ => ?_
     unfold nodeD badD innerB aloneB
     rcases h89 with h | h <;> simp only [h] <;> by_cases e1 : x.name.size = 0 <;> by_cases e2 : x.high = 0 <;> by_cases e3 : x.low = 0 <;> simp [e1, e2, e3]
    ·rw [if_neg h89]
     by_cases h3 : x.kind = 10 ∨ x.kind = 11 ∨ x.kind = 12
     ·rw [if_pos h3]
      refine and_of fun _ => ?_
      unfold nodeD badD innerB aloneB
      rcases h3 with h | h | h <;> simp only [h] <;> by_cases e1 : x.name.size = 0 <;> by_cases e2 : x.high = 0 <;> by_cases e3 : x.low = 0 <;> simp [e1, e2, e3]
     ·rw [if_neg h3]
      unfold nosB
      rw [if_neg (by omega), if_neg (by omega)]
      unfold nodeD
      rw [if_neg h13, if_neg (show ¬ x.kind = 2 by omega), if_neg (show ¬ x.kind = 4 by omega), if_neg h89, if_neg h3]
      by_cases hb : badD x false = true
      ·rw [if_pos hb]; rfl
      ·rw [if_neg hb]
       by_cases h5 : x.kind = 5
       ·rw [if_pos h5]; simp
       ·rw [if_neg h5]
        by_cases h67 : x.kind = 6 ∨ x.kind = 7
        ·rw [if_pos h67]; simp
        ·rw [if_neg h67]; rfl
mutual
def deepD : Nd → Nat
 | .mk _ _ _ _ l => deepM l + 1
def deepM : List Nd → Nat
 | [] => 0
 | x :: t => max (deepD x) (deepM t)
end
theorem deepD_eq (x : Nd) : deepD x = deepM x.kids + 1 := by cases x; rw [deepD]; rfl
theorem deepM_snoc (l : List Nd) (x : Nd) : deepM (l ++ [x]) = max (deepM l) (deepD x) := by
 induction l with
 | nil => rw [List.nil_append, deepM, deepM, deepM]; omega
 | cons y t ih => rw [List.cons_append, deepM, deepM, ih]; omega
theorem deepM_le {l : List Nd} {m : Nat} : deepM l ≤ m ↔ ∀ x ∈ l, deepD x ≤ m := by
 induction l with
 | nil => rw [deepM]; simp
 | cons y t ih => rw [deepM, Nat.max_le, ih]; simp
theorem deepB_of : ∀ (m : Nat) (x : Nd), deepB m x = decide (deepD x ≤ m)
 | 0, x => by rw [deepD_eq, deepB]; simp
 | m + 1, x => by
  rw [deepB_eq, deepD_eq, Bool.eq_iff_iff, List.all_eq_true, decide_eq_true_eq, show deepM x.kids + 1 ≤ m + 1 ↔ deepM x.kids ≤ m by omega, deepM_le]
  refine forall_congr' fun y => forall_congr' fun _ => ?_
  rw [deepB_of m y, decide_eq_true_eq]
theorem deep_size : ∀ (n : Nat) (x : Nd), x.size ≤ n → deepD x ≤ x.size := by
 intro n
 induction n with
 | zero => intro x h; have := x.size_pos; omega
 | succ n ih =>
  intro x hn
  have hs := size_eq x
  have : deepM x.kids ≤ sizeL x.kids := deepM_le.2 fun y hy => by
   have h1 := size_in hy
   exact Nat.le_trans (ih y (by omega)) h1
  rw [deepD_eq]; omega
theorem rightB_eq (x : Nd) : rightB x = (decide (x.size ≤ 500) && decide (deepD x ≤ 100) && allD false x) := by
 unfold rightB
 rw [deepB_of, allD_out x.size x (Nat.le_refl _)]
theorem size_two (k : Int) (a b : Nd) : (Nd.mk k noName 0 0 [a, b]).size = a.size + b.size + 1 := by rw [Nd.size, sizeL, sizeL, sizeL]; omega
theorem size_one (k : Int) (a : Nd) : (Nd.mk k noName 0 0 [a]).size = a.size + 1 := by rw [Nd.size, sizeL, sizeL]
theorem alone0 : aloneB noName 0 0 = true := by kernel_rfl
theorem inF_89 {x : Nd} (hk : x.kind = 8 ∨ x.kind = 9) : inF x = (aloneB x.name x.low x.high && decide (2 ≤ x.kids.length) && x.kids.all inF) := by rw [inF_eq, if_neg (by omega), if_pos hk]
theorem inF_three {x : Nd} (hk : x.kind = 10 ∨ x.kind = 11 ∨ x.kind = 12) : inF x = (aloneB x.name x.low x.high && decide (x.kids.length = 1) && x.kids.all inF) := by rw [inF_eq, if_neg (by omega), if_neg (by omega), if_pos hk]
theorem txt_great {x : Nd} (hk : 6 ≤ x.kind) : txt x = kidsT x.kind true x.kids ++ behindT x.kind := by rw [txt_eq, if_neg (by omega), if_neg (by omega), if_neg (by omega), if_neg (by omega), if_neg (by omega)]
theorem right_two {k : Int} (hk : k = 8 ∨ k = 9) (a b : Nd) : rightB (.mk k noName 0 0 [a, b]) = (decide (a.size + b.size ≤ 499) && (deepB 99 a && deepB 99 b) && (inF a && inF b)) := by
 have h1 : inF (.mk k noName 0 0 [a, b]) = (aloneB noName 0 0 && decide (2 ≤ [a, b].length) && [a, b].all inF) := inF_89 hk
 have h2 : deepB 100 (.mk k noName 0 0 [a, b]) = [a, b].all (deepB 99) := deepB_eq 99 _
 unfold rightB
 rw [size_two, h1, h2, alone0]
 have : decide (a.size + b.size + 1 ≤ 500) = decide (a.size + b.size ≤ 499) := by rw [decide_eq_decide]; omega
 rw [this]
 simp
theorem right_star (a : Nd) : rightB (.mk 10 noName 0 0 [a]) = (decide (a.size ≤ 499) && deepB 99 a && inF a) := by
 have h1 : inF (.mk 10 noName 0 0 [a]) = (aloneB noName 0 0 && decide ([a].length = 1) && [a].all inF) := inF_three (.inl rfl)
 have h2 : deepB 100 (.mk 10 noName 0 0 [a]) = [a].all (deepB 99) := deepB_eq 99 _
 unfold rightB
 rw [size_one, h1, h2, alone0]
 have : decide (a.size + 1 ≤ 500) = decide (a.size ≤ 499) := by rw [decide_eq_decide]; omega
 rw [this]
 simp
theorem txt_two {k : Int} (hk : k = 8 ∨ k = 9) (a b : Nd) : txt (.mk k noName 0 0 [a, b]) = partT k a ++ betweenT k ++ partT k b := by
 have h : txt (.mk k noName 0 0 [a, b]) = kidsT k true [a, b] ++ behindT k := txt_great (x := .mk k noName 0 0 [a, b]) (show 6 ≤ k by omega)
 have h2 : behindT k = [] := by unfold behindT; rw [if_neg (by omega), if_neg (by omega), if_neg (by omega)]
 rw [h, h2, kidsT_cons, kidsT_cons, kidsT]
 simp
theorem txt_star (a : Nd) : txt (.mk 10 noName 0 0 [a]) = partT 10 a ++ [42] := by
 have h : txt (.mk 10 noName 0 0 [a]) = kidsT 10 true [a] ++ behindT 10 := txt_great (x := .mk 10 noName 0 0 [a]) (show (6 : Int) ≤ 10 by decide)
 rw [h, kidsT_cons, kidsT]
 simp [behindT]
theorem part_len (k : Int) (a : Nd) : (partT k a).length ≤ (txt a).length + 2 := by unfold partT; split <;> simp
theorem part9 (a : Nd) : partT 9 a = if a.kind = 9 then [40] ++ txt a ++ [41] else txt a := by
 have : (brkB a.kind 9 = true) = (a.kind = 9) := by
  rw [eq_iff_iff]
  unfold brkB
  by_cases h : a.kind = 9
  ·simp [h]
  ·rw [if_neg h]
   by_cases h8 : a.kind = 8
   ·simp [h8]
   ·rw [if_neg h8]; simp [threeB, h]
 unfold partT
 simp only [this]
theorem part8 (a : Nd) : partT 8 a = if a.kind = 9 ∨ a.kind = 8 then [40] ++ txt a ++ [41] else txt a := by
 have : (brkB a.kind 8 = true) = (a.kind = 9 ∨ a.kind = 8) := by
  rw [eq_iff_iff]
  unfold brkB
  by_cases h : a.kind = 9
  ·simp [h]
  ·rw [if_neg h]
   by_cases h8 : a.kind = 8
   ·simp [h8]
   ·rw [if_neg h8]; simp [threeB, h, h8]
 unfold partT
 simp only [this]
theorem part10 (a : Nd) : partT 10 a = if a.kind = 9 ∨ a.kind = 8 ∨ a.kind = 10 ∨ a.kind = 11 ∨ a.kind = 12 then [40] ++ txt a ++ [41] else txt a := by
 have : (brkB a.kind 10 = true) = (a.kind = 9 ∨ a.kind = 8 ∨ a.kind = 10 ∨ a.kind = 11 ∨ a.kind = 12) := by
  rw [eq_iff_iff]
  unfold brkB
  by_cases h : a.kind = 9
  ·simp [h]
  ·rw [if_neg h]
   by_cases h8 : a.kind = 8
   ·simp [h8]
   ·rw [if_neg h8]; simp [threeB, h, h8]
 unfold partT
 simp only [this]
def orN (a b : Nd) : Nd := .mk 9 noName 0 0 [a, b]
def joinN (a b : Nd) : Nd := .mk 8 noName 0 0 [a, b]
def starN (a : Nd) : Nd := .mk 10 noName 0 0 [a]
inductive PartsR (a b : Nd) : List Int × Int → List Int × Int → List Int × Int → List Int × Int → List Int × Int → Prop where
 | a1 (i : Int) (h : i ≠ 0) (y o j s : List Int × Int) : PartsR a b ([], i) y o j s
 | b1 (x : List Int) (i : Int) (h : i ≠ 0) (o j s : List Int × Int) : PartsR a b (x, 0) ([], i) o j s
 | why (x y : List Int) (o j s : List Int × Int) (hx : x.length ≤ 3000) (hy : y.length ≤ 3000) (hs : a.size + b.size ≤ 1000) (hn : o.2 ≠ 0 ∨ j.2 ≠ 0 ∨ s.2 ≠ 0)
   (h : 2900 < x.length + y.length ∨ 498 ≤ a.size + b.size ∨ rightB (starN a) = false ∨ rightB (orN a b) = false) : PartsR a b (x, 0) (y, 0) o j s
 | ok (x y : List Int) (hx : x.length ≤ 3000) (hy : y.length ≤ 3000) : PartsR a b (x, 0) (y, 0)
   ((if a.kind = 9 then [40] ++ x ++ [41] else x) ++ [32, 124, 32] ++ (if b.kind = 9 then [40] ++ y ++ [41] else y), 0)
   ((if a.kind = 9 ∨ a.kind = 8 then [40] ++ x ++ [41] else x) ++ [32] ++ (if b.kind = 9 ∨ b.kind = 8 then [40] ++ y ++ [41] else y), 0)
   ((if a.kind = 9 ∨ a.kind = 8 ∨ a.kind = 10 ∨ a.kind = 11 ∨ a.kind = 12 then [40] ++ x ++ [41] else x) ++ [42], 0)
theorem formR_cases (a : Nd) : (∃ i : Int, i ≠ 0 ∧ formR a = ([], i)) ∨ (rightB a = true ∧ formR a = (txt a, 0) ∧ (txt a).length ≤ 3000) := by
 unfold formR longR
 by_cases h : rightB a = true
 ·rw [if_pos h]
  by_cases h3 : (txt a).length ≤ 3000
  ·rw [if_pos h3]; exact .inr ⟨h, rfl, h3⟩
  ·rw [if_neg h3]; exact .inl ⟨2, by decide, rfl⟩
 ·rw [if_neg h]; exact .inl ⟨1, by decide, rfl⟩
theorem parts_res (a b : Nd) : PartsR a b (formR a) (formR b) (formR (orN a b)) (formR (joinN a b)) (formR (starN a)) := by
 rcases formR_cases a with ⟨i, hi, ha⟩ | ⟨ra, ha, la⟩
 ·rw [ha]; exact .a1 i hi _ _ _ _
 rcases formR_cases b with ⟨i, hi, hb⟩ | ⟨rb, hb, lb⟩
 ·rw [ha, hb]; exact .b1 _ i hi _ _ _
 rw [ha, hb]
 have hsa : a.size ≤ 500 := (right_any ra).1
 have hsb : b.size ≤ 500 := (right_any rb).1
 have hro : rightB (orN a b) = _ := right_two (.inr rfl) a b
 have hrj : rightB (joinN a b) = _ := right_two (.inl rfl) a b
 have hrs : rightB (starN a) = _ := right_star a
 have hto : txt (orN a b) = partT 9 a ++ betweenT 9 ++ partT 9 b := txt_two (.inr rfl) a b
 have htj : txt (joinN a b) = partT 8 a ++ betweenT 8 ++ partT 8 b := txt_two (.inl rfl) a b
 have hts : txt (starN a) = partT 10 a ++ [42] := txt_star a
 by_cases hall : (formR (orN a b)).2 = 0 ∧ (formR (joinN a b)).2 = 0 ∧ (formR (starN a)).2 = 0
 ·have h0 : ∀ z : Nd, (formR z).2 = 0 → formR z = (txt z, 0) := fun z hz => by
   rcases formR_cases z with ⟨i, hi, h⟩ | ⟨_, h, _⟩
   ·rw [h] at hz; exact absurd hz hi
   ·exact h
  rw [h0 _ hall.1, h0 _ hall.2.1, h0 _ hall.2.2, hto, htj, hts, part9, part9, part8, part8, part10]
  exact .ok _ _ la lb
 ·refine .why _ _ _ _ _ la lb (by omega) (by omega) ?_
  by_cases hc : 2900 < (txt a).length + (txt b).length ∨ 498 ≤ a.size + b.size ∨ rightB (starN a) = false ∨ rightB (orN a b) = false
  ·exact hc
  ·exfalso
   have c1 : rightB (starN a) = true := by
    cases h : rightB (starN a) with
    | true => rfl
    | false => exact absurd (.inr (.inr (.inl h))) hc
   have c2 : rightB (orN a b) = true := by
    cases h : rightB (orN a b) with
    | true => rfl
    | false => exact absurd (.inr (.inr (.inr h))) hc
   have c3 : rightB (joinN a b) = true := by rw [hrj, ← hro]; exact c2
   have c4 : (txt a).length + (txt b).length ≤ 2900 := by
    rcases Nat.lt_or_ge 2900 ((txt a).length + (txt b).length) with h | h
    ·exact absurd (.inl h) hc
    ·exact h
   have p1 := part_len 9 a
   have p2 := part_len 9 b
   have p3 := part_len 8 a
   have p4 := part_len 8 b
   have p5 := part_len 10 a
   have q1 := between_len 9
   have q2 := between_len 8
   refine hall ⟨?_, ?_, ?_⟩
   ·unfold formR longR
    rw [if_pos c2, if_pos (by rw [hto]; simp only [List.length_append]; omega)]
   ·unfold formR longR
    rw [if_pos c3, if_pos (by rw [htj]; simp only [List.length_append]; omega)]
   ·unfold formR longR
    rw [if_pos c1, if_pos (by rw [hts]; simp only [List.length_append, List.length_cons, List.length_nil]; omega)]
end K
end Go.Proofs.YtmohefgdpddldaaGreatDoor
