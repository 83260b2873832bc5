/- Plain facts on characters that are written out, and on how they are read. -/
import Derived.WalkKit
namespace Go.Proofs.YtmohefgdpddldaaGreatDoor
namespace Q
def isC (c : Int) : Bool := decide (0 ≤ c ∧ c ≤ 1114111)
def plainB (c : Int) : Bool := decide (97 ≤ c ∧ c ≤ 122 ∨ 65 ≤ c ∧ c ≤ 90 ∨ 48 ≤ c ∧ c ≤ 57)
theorem isC_iff (c : Int) : isC c = true ↔ 0 ≤ c ∧ c ≤ 1114111 := by unfold isC; exact decide_eq_true_iff
theorem plain_iff (c : Int) : plainB c = true ↔ (97 ≤ c ∧ c ≤ 122 ∨ 65 ≤ c ∧ c ≤ 90 ∨ 48 ≤ c ∧ c ≤ 57) := by unfold plainB; exact decide_eq_true_iff
def dig (d : Int) : Int := if d < 10 then 48 + d else 87 + d
def hexF : Nat → Int → List Int
 | 0, _ => []
 | f + 1, n => if n < 16 then [dig n] else hexF f (n / 16) ++ [dig (n % 16)]
def textB (c : Int) : List Int := if plainB c then [c] else [92, 117, 123] ++ hexF 6 c ++ [125]
def flatT (L : List Int) : List Int := L.flatMap textB
def digV (c : Int) : Int := if 48 ≤ c ∧ c ≤ 57 then c - 48 else if 97 ≤ c ∧ c ≤ 102 then c - 97 + 10 else if 65 ≤ c ∧ c ≤ 70 then c - 65 + 10 else -1
theorem digV_bd (c : Int) : -1 ≤ digV c ∧ digV c ≤ 15 := by unfold digV; split <;> (try split) <;> (try split) <;> omega
inductive R where
 | ok (c : Int) (k : Nat)
 | bad (e : Int)
def numS : List Int → Nat → Int → Nat → R
 | [], _, _, _ => .bad 5
 | c :: t, d, v, p => if c = 125 ∧ 0 < d ∧ isC v = true then .ok v (p + 1) else if digV c < 0 ∨ d = 6 then .bad 6 else numS t (d + 1) (v * 16 + digV c) (p + 1)
def uS : List Int → Nat → R
 | [], _ => .bad 5
 | c :: t, p => if c = 123 then numS t 0 0 (p + 1) else .bad 6
def escS : List Int → Nat → R
 | [], _ => .bad 5
 | c :: t, p => if c = 117 then uS t (p + 1) else if c = 110 then .ok 10 (p + 1) else if c = 116 then .ok 9 (p + 1) else if 33 ≤ c ∧ c ≤ 126 ∧ plainB c = false then .ok c (p + 1) else .bad 6
def readS : List Int → Nat → R
 | [], _ => .bad 5
 | c :: t, p => if c = 92 then escS t (p + 1) else if isC c = true then .ok c (p + 1) else .bad 6
theorem dig_bd {d : Int} (h0 : 0 ≤ d) (h1 : d < 16) : 48 ≤ dig d ∧ dig d ≤ 102 ∧ digV (dig d) = d ∧ dig d ≠ 125 := by
 unfold dig digV
 split
 ·rw [if_pos (by omega)]; omega
 ·rw [if_neg (by omega), if_pos (by omega)]; omega
theorem pow_step (f : Nat) : (16 : Int) ^ (f + 1) = 16 * 16 ^ f := by rw [Int.pow_succ]; omega
theorem hex_len : ∀ (f : Nat) (n : Int), (hexF f n).length ≤ f
 | 0, _ => by simp [hexF]
 | f + 1, n => by
  unfold hexF
  split
  ·simp
  ·have := hex_len f (n / 16); simp; omega
theorem hex_pos (f : Nat) (n : Int) : 0 < (hexF (f + 1) n).length := by
 unfold hexF; split <;> simp
theorem div_lt {f : Nat} {n : Int} (h : n < 16 ^ (f + 1)) : n / 16 < 16 ^ f := by
 rw [pow_step] at h
 omega
theorem hex_mem : ∀ (f : Nat) (n : Int), 0 ≤ n → ∀ x ∈ hexF f n, 48 ≤ x ∧ x ≤ 102 ∧ 0 ≤ digV x ∧ x ≠ 125
 | 0, _, _, x, hx => by simp [hexF] at hx
 | f + 1, n, h0, x, hx => by
  unfold hexF at hx
  split at hx
  ·rename_i h
   simp at hx; subst hx
   have := dig_bd h0 h; omega
  ·rename_i h
   rcases List.mem_append.1 hx with hx | hx
   ·exact hex_mem f (n / 16) (by omega) x hx
   ·simp at hx; subst hx
    have := dig_bd (d := n % 16) (by omega) (by omega); omega
def valD (v : Int) (l : List Int) : Int := l.foldl (fun v c => v * 16 + digV c) v
theorem val_hex : ∀ (f : Nat) (n : Int), 0 ≤ n → n < 16 ^ f → valD 0 (hexF f n) = n
 | 0, n, h0, h1 => by simp at h1; simp [hexF, valD]; omega
 | f + 1, n, h0, h1 => by
  unfold hexF
  split
  ·rename_i h
   simp only [valD, List.foldl_cons, List.foldl_nil]
   rw [(dig_bd h0 h).2.2.1]; omega
  ·rename_i h
   have ih := val_hex f (n / 16) (by omega) (div_lt h1)
   unfold valD at ih ⊢
   rw [List.foldl_append, ih]
   simp only [List.foldl_cons, List.foldl_nil]
   rw [(dig_bd (d := n % 16) (by omega) (by omega)).2.2.1]; omega
theorem num_digits : ∀ (ds : List Int) (rest : List Int) (d : Nat) (v : Int) (p : Nat), (∀ x ∈ ds, 0 ≤ digV x ∧ x ≠ 125) → d + ds.length ≤ 6 →
  numS (ds ++ rest) d v p = numS rest (d + ds.length) (valD v ds) (p + ds.length)
 | [], rest, d, v, p, _, _ => by simp [valD]
 | c :: t, rest, d, v, p, h, hd => by
  have hc := h c (by simp)
  simp at hd
  rw [List.cons_append, numS, if_neg (by omega), if_neg (by omega), num_digits t rest (d + 1) _ (p + 1) (fun x hx => h x (by simp [hx])) (by omega)]
  simp only [List.length_cons, valD, List.foldl_cons]
  congr 1 <;> omega
theorem top_lt {c : Int} (h : isC c = true) : 0 ≤ c ∧ c < 16 ^ 6 := by
 have := (isC_iff c).1 h
 have e : (16 : Int) ^ 6 = 16777216 := by decide
 omega
theorem text_plain {c : Int} (h : plainB c = true) : textB c = [c] := by unfold textB; rw [if_pos h]
theorem text_esc {c : Int} (h : plainB c = false) : textB c = [92, 117, 123] ++ hexF 6 c ++ [125] := by unfold textB; rw [if_neg (by rw [h]; decide)]
theorem text_pos (c : Int) : 0 < (textB c).length := by
 unfold textB; split <;> simp
theorem text_byte {c : Int} (h : isC c = true) : ∀ x ∈ textB c, 0 ≤ x ∧ x < 128 := by
 intro x hx
 have hc := (isC_iff c).1 h
 unfold textB at hx
 split at hx
 ·rename_i hp
  rw [plain_iff] at hp
  simp at hx; subst hx; omega
 ·rcases List.mem_append.1 hx with hx | hx
  ·rcases List.mem_append.1 hx with hx | hx
   ·simp at hx; omega
   ·have := hex_mem 6 c hc.1 x hx; omega
  ·simp at hx; omega
theorem read_text {c : Int} (h : isC c = true) (rest : List Int) (p : Nat) : readS (textB c ++ rest) p = .ok c (p + (textB c).length) := by
 have hc := top_lt h
 cases hp : plainB c with
 | true =>
  rw [text_plain hp]
  rw [plain_iff] at hp
  show readS (c :: rest) p = _
  rw [readS, if_neg (by omega), if_pos h]; rfl
 | false =>
  rw [text_esc hp]
  have e : [92, 117, 123] ++ hexF 6 c ++ [125] ++ rest = 92 :: 117 :: 123 :: (hexF 6 c ++ (125 :: rest)) := by simp
  have hm := hex_mem 6 c hc.1
  have hl := hex_len 6 c
  have hl0 : 0 < (hexF 6 c).length := hex_pos 5 c
  rw [e, readS, if_pos rfl, escS, if_pos rfl, uS, if_pos rfl, num_digits _ _ _ _ _ (fun x hx => ⟨(hm x hx).2.2.1, (hm x hx).2.2.2⟩) (by omega), val_hex 6 c hc.1 hc.2, numS, if_pos ⟨rfl, by omega, h⟩]
  congr 1
  simp; omega
theorem flat_cons (c : Int) (L : List Int) : flatT (c :: L) = textB c ++ flatT L := by simp [flatT]
theorem flat_app (A B : List Int) : flatT (A ++ B) = flatT A ++ flatT B := by simp [flatT]
theorem all_take {L : List Int} {k : Nat} {x : Int} (h : L[k]? = some x) : (L.take (k + 1)).all isC = ((L.take k).all isC && isC x) := by
 obtain ⟨hk, e⟩ := List.getElem?_eq_some_iff.1 h
 rw [List.take_succ_eq_append_getElem hk, e, List.all_append]; simp
theorem flat_head {A B : List Int} {s : List Int} (hA : A.all isC = true) (hB : B.all isC = true) (h : flatT A ++ s = flatT B) : ∃ C, B = A ++ C ∧ s = flatT C := by
 induction A generalizing B with
 | nil => exact ⟨B, rfl, by simpa [flatT] using h⟩
 | cons c t ih =>
  rw [List.all_cons, Bool.and_eq_true] at hA
  cases B with
  | nil =>
   have h1 := congrArg List.length h
   rw [flat_cons, List.append_assoc, List.length_append] at h1
   have := text_pos c
   have h2 : (flatT ([] : List Int)).length = 0 := rfl
   omega
  | cons d u =>
   rw [List.all_cons, Bool.and_eq_true] at hB
   rw [flat_cons, flat_cons, List.append_assoc] at h
   have r1 := read_text hA.1 (flatT t ++ s) 0
   have r2 := read_text hB.1 (flatT u) 0
   rw [h, r2] at r1
   injection r1 with e1 e2
   subst e1
   have h' := List.append_cancel_left h
   obtain ⟨C, hC, hs⟩ := ih hA.2 hB.2 h'
   exact ⟨C, by rw [hC]; rfl, hs⟩
theorem flat_inj {A B : List Int} (hA : A.all isC = true) (hB : B.all isC = true) (h : flatT A = flatT B) : A = B := by
 obtain ⟨C, hC, hs⟩ := flat_head (s := []) hA hB (by simpa using h)
 cases C with
 | nil => simpa using hC.symm
 | cons c t =>
  have h1 := congrArg List.length hs
  rw [flat_cons, List.length_append, List.length_nil] at h1
  have := text_pos c
  omega
inductive PIs (s : List Int) : List Int → Int → Prop where
 | ok (L : List Int) (h : L.all isC = true) (e : s = flatT L) : PIs s L 0
 | bad (h : ∀ L : List Int, L.all isC = true → s ≠ flatT L) : PIs s [] 15
theorem PIs.one {s L M : List Int} {e f : Int} (h : PIs s L e) (k : PIs s M f) : L = M ∧ e = f := by
 cases h with
 | ok _ h1 h2 => cases k with
  | ok _ k1 k2 => exact ⟨flat_inj h1 k1 (h2 ▸ k2), rfl⟩
  | bad k1 => exact absurd h2 (k1 _ h1)
 | bad h1 => cases k with
  | ok _ k1 k2 => exact absurd k2 (h1 _ k1)
  | bad k1 => exact ⟨rfl, rfl⟩
theorem num_in : ∀ (l : List Int) (d : Nat) (v : Int) (p : Nat) (c : Int) (n : Nat), numS l d v p = .ok c n → isC c = true ∧ p < n ∧ n ≤ p + l.length
 | [], d, v, p, c, n, h => by simp [numS] at h
 | x :: t, d, v, p, c, n, h => by
  rw [numS] at h
  split at h
  ·rename_i h1
   injection h with e1 e2
   subst e1 e2
   exact ⟨h1.2.2, by omega, by simp only [List.length_cons]; omega⟩
  ·split at h
   ·cases h
   ·have := num_in t _ _ _ _ _ h
    exact ⟨this.1, by omega, by simp only [List.length_cons]; omega⟩
theorem read_in {l : List Int} {p : Nat} {c : Int} {n : Nat} (h : readS l p = .ok c n) : isC c = true ∧ p < n ∧ n ≤ p + l.length := by
 cases l with
 | nil => simp [readS] at h
 | cons x t =>
  rw [readS] at h
  split at h
  ·cases t with
   | nil => simp [escS] at h
   | cons y u =>
    rw [escS] at h
    split at h
    ·cases u with
     | nil => simp [uS] at h
     | cons z o =>
      rw [uS] at h
      split at h
      ·have := num_in _ _ _ _ _ _ h; exact ⟨this.1, by omega, by simp only [List.length_cons]; omega⟩
      ·cases h
    ·split at h
     ·injection h with e1 e2; subst e1 e2; exact ⟨by decide, by omega, by simp only [List.length_cons]; omega⟩
     ·split at h
      ·injection h with e1 e2; subst e1 e2; exact ⟨by decide, by omega, by simp only [List.length_cons]; omega⟩
      ·split at h
       ·injection h with e1 e2; subst e1 e2; exact ⟨by rw [isC_iff]; omega, by omega, by simp only [List.length_cons]; omega⟩
       ·cases h
  ·split at h
   ·rename_i h1; injection h with e1 e2; subst e1 e2; exact ⟨h1, by omega, by simp only [List.length_cons]; omega⟩
   ·cases h
end Q
end Go.Proofs.YtmohefgdpddldaaGreatDoor
