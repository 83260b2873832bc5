/- Plain facts on forms: trees of nodes, and what tokens say. Plain facts on what tokens say: what is wrong stays wrong; nothing grows; more behind; further on. -/
import Derived.Test.YtdbjjakkjmhdgaaDoorTok
set_option maxRecDepth 100000
namespace Go.Proofs.YtdbjjakkjmhdgaaDoor
namespace Y

/-- A form: its kind, its name, its numbers, its parts. -/
inductive Nd where
  | mk (kind : Int) (name : ByteArray) (low high : Int) (kids : List Nd)
def Nd.kind : Nd → Int | .mk k _ _ _ _ => k
def Nd.name : Nd → ByteArray | .mk _ s _ _ _ => s
def Nd.low : Nd → Int | .mk _ _ x _ _ => x
def Nd.high : Nd → Int | .mk _ _ _ x _ => x
def Nd.kids : Nd → List Nd | .mk _ _ _ _ l => l
mutual
/-- How many nodes. -/
def Nd.size : Nd → Nat
  | .mk _ _ _ _ l => sizeL l + 1
def sizeL : List Nd → Nat
  | [] => 0
  | x :: t => x.size + sizeL t
end
theorem Nd.size_pos (x : Nd) : 1 ≤ x.size := by cases x; rw [Nd.size]; omega
theorem sizeL_app (l m : List Nd) : sizeL (l ++ m) = sizeL l + sizeL m := by
  induction l with
  | nil => simp [sizeL]
  | cons x t ih => simp [sizeL, ih]; omega
/-- An item. -/
structure It where
  kind : Int
  name : ByteArray
  number : Int
  cut : Bool
  before : Nd
  after : Nd
  pos : Int
def noName : ByteArray := { data := #[] }
def zeroN : Nd := .mk 0 noName 0 0 []
/-- All of it but its place. -/
def It.core (x : It) : It := ⟨x.kind, x.name, x.number, x.cut, x.before, x.after, 0⟩
/-- Tokens that are still to be read, or where and why it is wrong. -/
inductive Ps where
  | live (ts : List Tok)
  | dead (at_ why : Int)
def Ps.toks : Ps → List Tok | .live ts => ts | .dead _ _ => []
def Ps.atv : Ps → Int | .live _ => 0 | .dead a _ => a
def Ps.whyv : Ps → Int | .live _ => 0 | .dead _ y => y
/-- It is wrong at the next token, or at the end. -/
def failP (e why : Int) : Ps → Ps
  | .dead a y => .dead a y
  | .live [] => .dead e 5
  | .live (t :: _) => .dead t.pos why
def nextP (ks : List Int) (s : Ps) : Bool := match s.toks with | [] => false | t :: _ => ks.contains t.kind
def noTok : Tok := ⟨0, [], 0, 0, 0⟩
def takeP (e : Int) (ks : List Int) (s : Ps) : Tok × Ps :=
  match s with
  | .live (t :: u) => if ks.contains t.kind = true then (t, .live u) else (noTok, .dead t.pos 4)
  | .live [] => (noTok, .dead e 5)
  | .dead a y => (noTok, .dead a y)
def several (k : Int) (l : List Nd) : Nd := match l with | [x] => x | _ => .mk k noName 0 0 l
def single (t : Tok) : Nd := if t.kind = 1 then .mk 2 (strOfNums t.text) 0 0 [] else if t.kind = 15 then .mk 5 noName t.low t.high [] else .mk 3 noName 0 0 []
def kindP (k : Int) : Int := if k = 9 then 10 else if k = 10 then 11 else if k = 11 then 12 else if k = 16 then 6 else 7
/-- One more that is open. -/
def deepP (e : Int) (o : Nat) (s : Ps) : Ps := if o = 12 then failP e 8 s else s
mutual
def formP (e : Int) : Nat → Nat → Ps → Nd × Ps
  | 0, _, s => (zeroN, s)
  | n + 1, o, s => orsP e n o [(joinP e n o s).1] (joinP e n o s).2
def orsP (e : Int) : Nat → Nat → List Nd → Ps → Nd × Ps
  | 0, _, l, s => (several 9 l, s)
  | n + 1, o, l, s => if nextP [8] s = true then orsP e n o (l ++ [(joinP e n o (takeP e [8] s).2).1]) (joinP e n o (takeP e [8] s).2).2 else (several 9 l, s)
def joinP (e : Int) : Nat → Nat → Ps → Nd × Ps
  | 0, _, s => (zeroN, s)
  | n + 1, o, s => (if (piecesP e n o [] s).1 = [] then .mk 1 noName 0 0 [] else several 8 (piecesP e n o [] s).1, (piecesP e n o [] s).2)
def piecesP (e : Int) : Nat → Nat → List Nd → Ps → List Nd × Ps
  | 0, _, l, s => (l, s)
  | n + 1, o, l, s => if nextP [1, 12, 6, 13] s = true then piecesP e n o (l ++ [(pieceP e n o s).1]) (pieceP e n o s).2 else (l, s)
def pieceP (e : Int) : Nat → Nat → Ps → Nd × Ps
  | 0, _, s => (zeroN, s)
  | n + 1, o, s => if nextP [9, 10, 11] (bareP e n o s).2 = true then (.mk (kindP (takeP e [9, 10, 11] (bareP e n o s).2).1.kind) noName 0 0 [(bareP e n o s).1], (takeP e [9, 10, 11] (bareP e n o s).2).2) else bareP e n o s
def bareP (e : Int) : Nat → Nat → Ps → Nd × Ps
  | 0, _, s => (zeroN, s)
  | n + 1, o, s =>
    if nextP [6] s = true then
      ((formP e n (o + 1) (takeP e [6] (deepP e o s)).2).1, (takeP e [7] (formP e n (o + 1) (takeP e [6] (deepP e o s)).2).2).2)
    else if nextP [13] s = true then setP e n o s
    else (single (takeP e [1, 12] s).1, (takeP e [1, 12] s).2)
def setP (e : Int) : Nat → Nat → Ps → Nd × Ps
  | 0, _, s => (zeroN, s)
  | n + 1, o, s => (.mk 4 noName (takeP e [13] (deepP e o s)).1.low 0 (partsP e n (o + 1) [] (takeP e [13] (deepP e o s)).2).1, (takeP e [14] (partsP e n (o + 1) [] (takeP e [13] (deepP e o s)).2).2).2)
def partsP (e : Int) : Nat → Nat → List Nd → Ps → List Nd × Ps
  | 0, _, l, s => (l, s)
  | n + 1, o, l, s => if nextP [15, 1, 13] s = true then partsP e n o (l ++ [(partP e n o s).1]) (partP e n o s).2 else (l, s)
def partP (e : Int) : Nat → Nat → Ps → Nd × Ps
  | 0, _, s => (zeroN, s)
  | n + 1, o, s => heldP e n o (memberP e n o s).1 (memberP e n o s).2
def heldP (e : Int) : Nat → Nat → Nd → Ps → Nd × Ps
  | 0, _, x, s => (x, s)
  | n + 1, o, x, s => if nextP [16, 17] s = true then heldP e n o (.mk (kindP (takeP e [16, 17] s).1.kind) noName 0 0 [x, (memberP e n o (takeP e [16, 17] s).2).1]) (memberP e n o (takeP e [16, 17] s).2).2 else (x, s)
def memberP (e : Int) : Nat → Nat → Ps → Nd × Ps
  | 0, _, s => (zeroN, s)
  | n + 1, o, s => if nextP [13] s = true then setP e n o s else (single (takeP e [15, 1] s).1, (takeP e [15, 1] s).2)
end
/-- A line's item. -/
def itemP (e : Int) (n : Nat) (s : Ps) : It × Ps :=
  if (takeP e [1, 2, 19] s).1.kind = 1 then
    (⟨1, strOfNums (takeP e [1, 2, 19] s).1.text, 0, false, (formP e n 0 (takeP e [3] (takeP e [1, 2, 19] s).2).2).1, zeroN, (takeP e [1, 2, 19] s).1.pos⟩, (formP e n 0 (takeP e [3] (takeP e [1, 2, 19] s).2).2).2)
  else if (takeP e [1, 2, 19] s).1.kind = 2 then
    (⟨2, noName, (takeP e [1, 2, 19] s).1.low, decide ((takeP e [4, 5] (formP e n 0 (takeP e [1, 2, 19] s).2).2).1.kind = 5), (formP e n 0 (takeP e [1, 2, 19] s).2).1, (formP e n 0 (takeP e [4, 5] (formP e n 0 (takeP e [1, 2, 19] s).2).2).2).1, (takeP e [1, 2, 19] s).1.pos⟩, (formP e n 0 (takeP e [4, 5] (formP e n 0 (takeP e [1, 2, 19] s).2).2).2).2)
  else (⟨3, strOfNums (takeP e [1, 2, 19] s).1.text, (takeP e [1, 2, 19] s).1.low, false, zeroN, zeroN, (takeP e [1, 2, 19] s).1.pos⟩, (takeP e [1, 2, 19] s).2)
/-- A line's end, unless it is the text's. -/
def lineP (e : Int) (s : Ps) : Ps := if s.toks = [] then s else (takeP e [18] s).2
/-- All lines' items. -/
def itemsP (e : Int) (n : Nat) : Nat → List It → Ps → List It × Ps
  | 0, l, s => (l, s)
  | m + 1, l, s =>
    if s.toks = [] then (l, s)
    else if nextP [18] s = true then itemsP e n m l (takeP e [18] s).2
    else if l.length = 100 then (l, failP e 9 s)
    else itemsP e n m (l ++ [(itemP e n s).1]) (lineP e (itemP e n s).2)
/-- Nothing may be left. -/
def lastP (e : Int) (s : Ps) : Ps := if s.toks = [] then s else failP e 4 s
end Y
end Go.Proofs.YtdbjjakkjmhdgaaDoor
namespace Go.Proofs.YtdbjjakkjmhdgaaDoor
namespace Y

@[simp] theorem next_dead (ks : List Int) (a y : Int) : nextP ks (.dead a y) = false := rfl
@[simp] theorem next_nil (ks : List Int) : nextP ks (.live []) = false := rfl
@[simp] theorem next_cons (ks : List Int) (t : Tok) (u : List Tok) : nextP ks (.live (t :: u)) = ks.contains t.kind := rfl
@[simp] theorem take_dead (e : Int) (ks : List Int) (a y : Int) : takeP e ks (.dead a y) = (noTok, .dead a y) := rfl
@[simp] theorem take_nil (e : Int) (ks : List Int) : takeP e ks (.live []) = (noTok, .dead e 5) := rfl
@[simp] theorem take_cons (e : Int) (ks : List Int) (t : Tok) (u : List Tok) : takeP e ks (.live (t :: u)) = if ks.contains t.kind = true then (t, .live u) else (noTok, .dead t.pos 4) := rfl
@[simp] theorem fail_dead (e w a y : Int) : failP e w (.dead a y) = .dead a y := rfl
@[simp] theorem deep_dead (e : Int) (o : Nat) (a y : Int) : deepP e o (.dead a y) = .dead a y := by unfold deepP; split <;> rfl
theorem take_len (e : Int) (ks : List Int) (s : Ps) : (takeP e ks s).2.toks.length ≤ s.toks.length := by
  rcases s with (_ | ⟨t, u⟩) | ⟨a, y⟩
  · simp [Ps.toks]
  · rw [take_cons]; split <;> simp [Ps.toks]
  · simp [Ps.toks]
theorem take_less (e : Int) (ks ks' : List Int) (s : Ps) (h : nextP ks s = true) : (takeP e ks' s).2.toks.length < s.toks.length := by
  rcases s with (_ | ⟨t, u⟩) | ⟨a, y⟩
  · simp at h
  · rw [take_cons]; split <;> simp [Ps.toks]
  · simp at h
theorem fail_len (e w : Int) (s : Ps) : (failP e w s).toks.length ≤ s.toks.length := by
  rcases s with (_ | ⟨t, u⟩) | ⟨a, y⟩ <;> simp [Ps.toks, failP]
theorem deep_len (e : Int) (o : Nat) (s : Ps) : (deepP e o s).toks.length ≤ s.toks.length := by
  unfold deepP; split
  · exact fail_len _ _ _
  · exact Nat.le_refl _
theorem deep_take (e : Int) (o : Nat) (ks ks' : List Int) (s : Ps) (h : nextP ks s = true) : (takeP e ks' (deepP e o s)).2.toks.length < s.toks.length := by
  unfold deepP
  split
  · rcases s with (_ | ⟨t, u⟩) | ⟨a, y⟩
    · simp at h
    · simp [failP, Ps.toks]
    · simp at h
  · exact take_less e ks ks' s h
section
variable (e : Int)
structure Dead (n : Nat) : Prop where
  form : ∀ o a y, (formP e n o (.dead a y)).2 = .dead a y
  ors : ∀ o l a y, (orsP e n o l (.dead a y)).2 = .dead a y
  join : ∀ o a y, (joinP e n o (.dead a y)).2 = .dead a y
  pieces : ∀ o l a y, (piecesP e n o l (.dead a y)).2 = .dead a y
  piece : ∀ o a y, (pieceP e n o (.dead a y)).2 = .dead a y
  bare : ∀ o a y, (bareP e n o (.dead a y)).2 = .dead a y
  set : ∀ o a y, (setP e n o (.dead a y)).2 = .dead a y
  parts : ∀ o l a y, (partsP e n o l (.dead a y)).2 = .dead a y
  part : ∀ o a y, (partP e n o (.dead a y)).2 = .dead a y
  held : ∀ o x a y, (heldP e n o x (.dead a y)).2 = .dead a y
  member : ∀ o a y, (memberP e n o (.dead a y)).2 = .dead a y
theorem dead_all (n : Nat) : Dead e n := by
  induction n with
  | zero => constructor <;> intros <;> simp [formP, orsP, joinP, piecesP, pieceP, bareP, setP, partsP, partP, heldP, memberP]
  | succ n ih =>
    obtain ⟨h1, h2, h3, h4, h5, h6, h7, h8, h9, h10, h11⟩ := ih
    constructor <;> intros <;> simp [formP, orsP, joinP, piecesP, pieceP, bareP, setP, partsP, partP, heldP, memberP, h1, h2, h3, h4, h5, h6, h7, h8, h9, h10, h11]
structure Len (n : Nat) : Prop where
  form : ∀ o s, (formP e n o s).2.toks.length ≤ s.toks.length
  ors : ∀ o l s, (orsP e n o l s).2.toks.length ≤ s.toks.length
  join : ∀ o s, (joinP e n o s).2.toks.length ≤ s.toks.length
  pieces : ∀ o l s, (piecesP e n o l s).2.toks.length ≤ s.toks.length
  piece : ∀ o s, (pieceP e n o s).2.toks.length ≤ s.toks.length
  bare : ∀ o s, (bareP e n o s).2.toks.length ≤ s.toks.length
  set : ∀ o s, (setP e n o s).2.toks.length ≤ s.toks.length
  parts : ∀ o l s, (partsP e n o l s).2.toks.length ≤ s.toks.length
  part : ∀ o s, (partP e n o s).2.toks.length ≤ s.toks.length
  held : ∀ o x s, (heldP e n o x s).2.toks.length ≤ s.toks.length
  member : ∀ o s, (memberP e n o s).2.toks.length ≤ s.toks.length
theorem len_all (n : Nat) : Len e n := by
  induction n with
  | zero => constructor <;> intros <;> simp [formP, orsP, joinP, piecesP, pieceP, bareP, setP, partsP, partP, heldP, memberP]
  | succ n ih =>
    obtain ⟨h1, h2, h3, h4, h5, h6, h7, h8, h9, h10, h11⟩ := ih
    constructor
    · intro o s; rw [formP]; exact Nat.le_trans (h2 _ _ _) (h3 _ _)
    · intro o l s; rw [orsP]; split
      · exact Nat.le_trans (h2 _ _ _) (Nat.le_trans (h3 _ _) (take_len _ _ _))
      · exact Nat.le_refl _
    · intro o s; rw [joinP]; exact h4 _ _ _
    · intro o l s; rw [piecesP]; split
      · exact Nat.le_trans (h4 _ _ _) (h5 _ _)
      · exact Nat.le_refl _
    · intro o s; rw [pieceP]; split
      · exact Nat.le_trans (take_len _ _ _) (h6 _ _)
      · exact h6 _ _
    · intro o s; rw [bareP]; split
      · exact Nat.le_trans (take_len _ _ _) (Nat.le_trans (h1 _ _) (Nat.le_trans (take_len _ _ _) (deep_len _ _ _)))
      · split
        · exact h7 _ _
        · exact take_len _ _ _
    · intro o s; rw [setP]; exact Nat.le_trans (take_len _ _ _) (Nat.le_trans (h8 _ _ _) (Nat.le_trans (take_len _ _ _) (deep_len _ _ _)))
    · intro o l s; rw [partsP]; split
      · exact Nat.le_trans (h8 _ _ _) (h9 _ _)
      · exact Nat.le_refl _
    · intro o s; rw [partP]; exact Nat.le_trans (h10 _ _ _) (h11 _ _)
    · intro o x s; rw [heldP]; split
      · exact Nat.le_trans (h10 _ _ _) (Nat.le_trans (h11 _ _) (take_len _ _ _))
      · exact Nat.le_refl _
    · intro o s; rw [memberP]; split
      · exact h7 _ _
      · exact take_len _ _ _
end
theorem set_less (e : Int) (m o : Nat) (s : Ps) {ks : List Int} (h : nextP ks s = true) : (setP e (m + 1) o s).2.toks.length < s.toks.length := by
  rw [setP]
  exact Nat.lt_of_le_of_lt (Nat.le_trans (take_len _ _ _) ((len_all e m).parts _ _ _)) (deep_take e o ks _ s h)
theorem member_less (e : Int) (m o : Nat) (s : Ps) {ks : List Int} (h : nextP ks s = true) : (memberP e (m + 2) o s).2.toks.length < s.toks.length := by
  rw [memberP]
  split
  · exact set_less e m o s h
  · exact take_less e ks _ s h
theorem part_less (e : Int) (m o : Nat) (s : Ps) {ks : List Int} (h : nextP ks s = true) : (partP e (m + 3) o s).2.toks.length < s.toks.length := by
  rw [partP]
  exact Nat.lt_of_le_of_lt ((len_all e (m + 2)).held _ _ _) (member_less e m o s h)
theorem bare_less (e : Int) (m o : Nat) (s : Ps) {ks : List Int} (h : nextP ks s = true) : (bareP e (m + 2) o s).2.toks.length < s.toks.length := by
  rw [bareP]
  split
  · exact Nat.lt_of_le_of_lt (Nat.le_trans (take_len _ _ _) ((len_all e (m + 1)).form _ _)) (deep_take e o ks _ s h)
  · split
    · exact set_less e m o s h
    · exact take_less e ks _ s h
theorem piece_less (e : Int) (m o : Nat) (s : Ps) {ks : List Int} (h : nextP ks s = true) : (pieceP e (m + 3) o s).2.toks.length < s.toks.length := by
  rw [pieceP]
  split
  · exact Nat.lt_of_le_of_lt (take_len _ _ _) (bare_less e m o s h)
  · exact bare_less e m o s h
/-- Further on. -/
def shT (d : Int) (t : Tok) : Tok := ⟨t.kind, t.text, t.low, t.high, t.pos + d⟩
def shP (d : Int) : Ps → Ps
  | .live ts => .live (ts.map (shT d))
  | .dead a y => .dead (a + d) y
theorem next_sh (d : Int) (ks : List Int) (s : Ps) : nextP ks (shP d s) = nextP ks s := by
  rcases s with (_ | ⟨t, u⟩) | ⟨a, y⟩ <;> rfl
theorem take_sh (e d : Int) (ks : List Int) (s : Ps) : (takeP (e + d) ks (shP d s)).2 = shP d (takeP e ks s).2 := by
  rcases s with (_ | ⟨t, u⟩) | ⟨a, y⟩
  · rfl
  · show (if ks.contains t.kind = true then _ else _ : Tok × Ps).2 = _
    rw [take_cons]; split <;> rfl
  · rfl
theorem takeT_sh (e d : Int) (ks : List Int) (s : Ps) : (takeP (e + d) ks (shP d s)).1.kind = (takeP e ks s).1.kind ∧ (takeP (e + d) ks (shP d s)).1.text = (takeP e ks s).1.text ∧ (takeP (e + d) ks (shP d s)).1.low = (takeP e ks s).1.low ∧ (takeP (e + d) ks (shP d s)).1.high = (takeP e ks s).1.high := by
  rcases s with (_ | ⟨t, u⟩) | ⟨a, y⟩
  · exact ⟨rfl, rfl, rfl, rfl⟩
  · show (if ks.contains t.kind = true then _ else _ : Tok × Ps).1.kind = _ ∧ (if ks.contains t.kind = true then _ else _ : Tok × Ps).1.text = _ ∧ (if ks.contains t.kind = true then _ else _ : Tok × Ps).1.low = _ ∧ (if ks.contains t.kind = true then _ else _ : Tok × Ps).1.high = _
    rw [take_cons]; split <;> exact ⟨rfl, rfl, rfl, rfl⟩
  · exact ⟨rfl, rfl, rfl, rfl⟩
theorem fail_sh (e d w : Int) (s : Ps) : failP (e + d) w (shP d s) = shP d (failP e w s) := by
  rcases s with (_ | ⟨t, u⟩) | ⟨a, y⟩ <;> rfl
theorem deep_sh (e d : Int) (o : Nat) (s : Ps) : deepP (e + d) o (shP d s) = shP d (deepP e o s) := by
  unfold deepP; split
  · exact fail_sh _ _ _ _
  · rfl
theorem single_sh (e d : Int) (ks : List Int) (s : Ps) : single (takeP (e + d) ks (shP d s)).1 = single (takeP e ks s).1 := by
  obtain ⟨a, b, c, f⟩ := takeT_sh e d ks s
  unfold single; rw [a, b, c, f]
section
variable (e d : Int)
structure Shf (n : Nat) : Prop where
  form : ∀ o s, formP (e + d) n o (shP d s) = ((formP e n o s).1, shP d (formP e n o s).2)
  ors : ∀ o l s, orsP (e + d) n o l (shP d s) = ((orsP e n o l s).1, shP d (orsP e n o l s).2)
  join : ∀ o s, joinP (e + d) n o (shP d s) = ((joinP e n o s).1, shP d (joinP e n o s).2)
  pieces : ∀ o l s, piecesP (e + d) n o l (shP d s) = ((piecesP e n o l s).1, shP d (piecesP e n o l s).2)
  piece : ∀ o s, pieceP (e + d) n o (shP d s) = ((pieceP e n o s).1, shP d (pieceP e n o s).2)
  bare : ∀ o s, bareP (e + d) n o (shP d s) = ((bareP e n o s).1, shP d (bareP e n o s).2)
  set : ∀ o s, setP (e + d) n o (shP d s) = ((setP e n o s).1, shP d (setP e n o s).2)
  parts : ∀ o l s, partsP (e + d) n o l (shP d s) = ((partsP e n o l s).1, shP d (partsP e n o l s).2)
  part : ∀ o s, partP (e + d) n o (shP d s) = ((partP e n o s).1, shP d (partP e n o s).2)
  held : ∀ o x s, heldP (e + d) n o x (shP d s) = ((heldP e n o x s).1, shP d (heldP e n o x s).2)
  member : ∀ o s, memberP (e + d) n o (shP d s) = ((memberP e n o s).1, shP d (memberP e n o s).2)
theorem shf_all (n : Nat) : Shf e d n := by
  induction n with
  | zero => constructor <;> intros <;> simp [formP, orsP, joinP, piecesP, pieceP, bareP, setP, partsP, partP, heldP, memberP]
  | succ n ih =>
    obtain ⟨h1, h2, h3, h4, h5, h6, h7, h8, h9, h10, h11⟩ := ih
    have k1 : ∀ ks s, (takeP (e + d) ks (shP d s)).1.kind = (takeP e ks s).1.kind := fun ks s => (takeT_sh e d ks s).1
    have k2 : ∀ ks s, (takeP (e + d) ks (shP d s)).1.low = (takeP e ks s).1.low := fun ks s => (takeT_sh e d ks s).2.2.1
    constructor
    · intro o s; simp only [formP, h3, h2]
    · intro o l s; simp only [orsP, next_sh, take_sh, h3, h2]; split <;> rfl
    · intro o s; simp only [joinP, h4]
    · intro o l s; simp only [piecesP, next_sh, h4, h5]; split <;> rfl
    · intro o s; simp only [pieceP, h6, next_sh, take_sh, k1]; split <;> rfl
    · intro o s; simp only [bareP, h1, next_sh, take_sh, deep_sh, h7, single_sh]; split
      · rfl
      · split <;> rfl
    · intro o s; simp only [setP, h8, take_sh, deep_sh, k2]
    · intro o l s; simp only [partsP, next_sh, h8, h9]; split <;> rfl
    · intro o s; simp only [partP, h10, h11]
    · intro o x s; simp only [heldP, next_sh, h10, h11, take_sh, k1]; split <;> rfl
    · intro o s; simp only [memberP, next_sh, take_sh, h7, single_sh]; split <;> rfl
end
end Y
end Go.Proofs.YtdbjjakkjmhdgaaDoor
