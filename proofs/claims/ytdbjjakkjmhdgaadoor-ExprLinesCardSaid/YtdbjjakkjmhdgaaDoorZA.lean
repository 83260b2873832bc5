/- The three fixed texts: what they say. -/
import Derived.Test.YtdbjjakkjmhdgaaDoorYV
set_option maxRecDepth 100000
namespace Go.Proofs.YtdbjjakkjmhdgaaDoor
open Go.RowKit
open E (okb encB flat offs DecIs Upto)
open W (Tk lexS)
open Y (Nd It Ps)

def al1B : List Int := [36, 97, 32, 61, 32, 91, 98, 45, 99, 38, 36, 100, 45, 91, 120, 93, 93, 10, 51, 32, 36, 97, 42, 32, 40, 46, 124, 41, 32, 195, 183, 10]
def al1C : List Int := [36, 97, 32, 61, 32, 91, 98, 45, 99, 38, 36, 100, 45, 91, 120, 93, 93, 10, 51, 32, 36, 97, 42, 32, 40, 46, 124, 41, 32, 247, 10]
def al2B : List Int := [51, 32, 36, 97]
def al3B : List Int := [36, 97, 32, 61, 32, 42]
theorem al1_dec : DecIs al1B al1C (offs 0 al1C ++ [(al1B.length : Int)]) (-1) 0 := .ok al1C (by decide) ⟨fun c hc => List.all_eq_true.1 (show al1C.all okb = true by decide) c hc, by decide, by decide⟩
theorem al2_dec : DecIs al2B al2B (offs 0 al2B ++ [(al2B.length : Int)]) (-1) 0 := .ok al2B (by decide) ⟨fun c hc => List.all_eq_true.1 (show al2B.all okb = true by decide) c hc, by decide, by decide⟩
theorem al3_dec : DecIs al3B al3B (offs 0 al3B ++ [(al3B.length : Int)]) (-1) 0 := .ok al3B (by decide) ⟨fun c hc => List.all_eq_true.1 (show al3B.all okb = true by decide) c hc, by decide, by decide⟩
def lexL (l : List Int) : List Tk := match lexS l 0 0 [] with | .ok ts => ts | .bad _ _ => []
theorem al1_lex : lexS al1C 0 0 [] = .ok (lexL al1C) := by kernel_rfl
theorem al2_lex : lexS al2B 0 0 [] = .ok (lexL al2B) := by kernel_rfl
theorem al3_lex : lexS al3B 0 0 [] = .ok (lexL al3B) := by kernel_rfl
/-- A text that is decoded and read has these items alone. -/
theorem items_one {Bs cs ats : List Int} {x : Int} {N M : Nat} {r : List It × Int × Int} {ts : List Tk} (hd : DecIs Bs cs ats x 0) (hl : lexS cs 0 0 [] = .ok ts) (h : ItemsIs Bs N M r) : r = allS Bs.length N M (placed cs ts) := by
  have hone : ∀ {us : List Tok} {y er : Int}, TokIs Bs us y er → us = placed cs ts ∧ er = 0 := by
    intro us y er ht
    cases ht with
    | dec cs' ats' _ _ h he => obtain ⟨_, _, _, e⟩ := h.one hd; exact absurd e he
    | bad cs' ats' _ h k _ hl' => obtain ⟨e, _⟩ := h.one hd; subst e; rw [hl] at hl'; cases hl'
    | ok cs' ats' _ h ts' hl' => obtain ⟨e, _⟩ := h.one hd; subst e; rw [hl] at hl'; injection hl' with e; subst e; exact ⟨rfl, rfl⟩
  cases h with
  | bad x er h he => exact absurd (hone h).2 he
  | ok us y h => rw [(hone h).1]
def sum1 (r : List It × Int × Int) : Option (Int × Int × Int × Int × Int × Bool × Int × Int × Int × Nat) :=
  match r with
  | ([i0, i1], x, y) => (match i0.before.kids with
    | [p] => (match p.kids with
      | [p0, _] => some (x, y, p.kind, p0.kind, i1.number, i1.cut, i1.before.kind, i1.after.kind, i1.pos, i0.before.size)
      | _ => none)
    | _ => none)
  | _ => none
theorem al1_sum : sum1 (allS al1B.length 330 33 (placed al1C (lexL al1C))) = some (-1, 0, 7, 6, 3000, true, 8, 1, 18, 7) := by kernel_rfl
theorem al2_all : (allS al2B.length 50 5 (placed al2B (lexL al2B))).2 = (4, 5) := by kernel_rfl
theorem al3_all : (allS al3B.length 70 7 (placed al3B (lexL al3B))).2 = (5, 4) := by kernel_rfl
theorem sum1_parts {r : List It × Int × Int} {x y a b c e f g : Int} {d : Bool} {s : Nat} (h : sum1 r = some (x, y, a, b, c, d, e, f, g, s)) :
    ∃ i0 i1 p p0 p1, r = ([i0, i1], x, y) ∧ i0.before.kids = [p] ∧ p.kids = [p0, p1] ∧ p.kind = a ∧ p0.kind = b ∧ i1.number = c ∧ i1.cut = d ∧ i1.before.kind = e ∧ i1.after.kind = f ∧ i1.pos = g ∧ i0.before.size = s := by
  unfold sum1 at h
  split at h
  · rename_i i0 i1 x' y'
    split at h
    · rename_i p hp
      split at h
      · rename_i p0 p1 hq
        simp only [Option.some.injEq, Prod.mk.injEq] at h
        obtain ⟨rfl, rfl, h1, h2, h3, h4, h5, h6, h7, h8⟩ := h
        exact ⟨i0, i1, p, p0, p1, rfl, hp, hq, h1, h2, h3, h4, h5, h6, h7, h8⟩
      · cases h
    · cases h
  · cases h
end Go.Proofs.YtdbjjakkjmhdgaaDoor
