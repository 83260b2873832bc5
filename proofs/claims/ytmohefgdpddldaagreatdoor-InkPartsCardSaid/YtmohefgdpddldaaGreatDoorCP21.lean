/- expr.Of. Plain facts on what tokens say: the same, with one more token behind that can't be of it, and within one bracket more, unless it is too deep. Plain facts on items: of texts one behind the other, a line's end between. Plain facts on texts: the items of two texts, one behind the other, a line's end between. Plain facts on texts: what the items of two texts, one behind the other, are. Plain facts on items: where they stand, and where a text is wrong. The document's lexer of layer 5: open, set. The document's lexer of layer 5: a token outside of sets. The document's lexer of layer 5: Of, of texts without notes. The document's lexer of layer 5: Letters, note. The three fixed texts: what they say. The fixed fact of layer 6 holds. The document's lexer of layer 5: step at a #, Of of all texts. -/
import Derived.Test.YtmohefgdpddldaaGreatDoorCP11
import Derived.Test.YtmohefgdpddldaaGreatDoorCP20
import Derived.Test.YtmohefgdpddldaaGreatDoorCP03
import Derived.Test.YtmohefgdpddldaaGreatDoorCP06
import Derived.Test.YtmohefgdpddldaaGreatDoorCP17
import Derived.Test.YtmohefgdpddldaaGreatDoorCP19
import Derived.Test.YtmohefgdpddldaaGreatDoorCP08
set_option maxRecDepth 100000
namespace Go.Proofs.YtmohefgdpddldaaGreatDoor
open Go.RowKit
open Y (Nd It Ps nextP takeP failP noTok noName zeroN formP itemP lineP itemsP lastP)

def allS (e : Int) (n m : Nat) (ts : List Tok) : List It × Int × Int :=
 match lastP e (itemsP e n m [] (.live ts)).2 with
 | .live _ => ((itemsP e n m [] (.live ts)).1, -1, 0)
 | .dead a y => ([], a, y)
def AllQ (w : World) (r : List It × Int × Int) (en : Ending) (w' : World) : Prop := ∃ A c, en = .returned (.tuple #[.slice A r.1.length c, .int .i64 r.2.1, .int .i64 r.2.2]) ∧ RdI6 w' (In w.heap.size w'.heap.size) A r.1.length c r.1 ∧ Below w.heap.size w w'
inductive ItemsIs (Bs : List Int) (N M : Nat) : List It × Int × Int → Prop where
 | bad (x er : Int) (h : TokIs Bs [] x er) (he : er ≠ 0) : ItemsIs Bs N M ([], x, er)
 | ok (ts : List Tok) (x : Int) (h : TokIs Bs ts x 0) : ItemsIs Bs N M (allS Bs.length N M ts)
theorem lex_len : ∀ (n : Nat) (l : List Int), l.length ≤ n → ∀ (i o : Nat) (ts ts' : List W.Tk), W.lexS l i o ts = .ok ts' → ts'.length ≤ ts.length + l.length := by
 intro n
 induction n with
 | zero =>
  intro l hl i o ts ts' h
  obtain rfl : l = [] := List.eq_nil_of_length_eq_zero (by omega)
  rw [W.lexS_nil] at h
  split at h
  ·cases h
  ·injection h with h; subst h; simp
 | succ n ih =>
  intro l hl i o ts ts' h
  cases l with
  | nil =>
   rw [W.lexS_nil] at h
   split at h
   ·cases h
   ·injection h with h; subst h; simp
  | cons c t =>
   simp only [List.length_cons] at hl ⊢
   by_cases hb : c = 32 ∨ c = 9
   ·rw [W.lexS_blank hb] at h
    have := ih t (by omega) _ _ _ _ h
    omega
   ·rw [W.lexS_step hb] at h
    cases hs : W.stepS o ts c t with
    | bad k e => rw [hs] at h; cases h
    | tok k x lo hi m =>
     rw [hs] at h
     have := ih (t.drop m) (by rw [List.length_drop]; omega) _ _ _ _ h
     rw [List.length_drop, List.length_append] at this
     simp at this
     omega
    | skip m =>
     rw [hs] at h
     have := ih (t.drop m) (by rw [List.length_drop]; omega) _ _ _ _ h
     rw [List.length_drop] at this
     omega
theorem tok_few {Bs : List Int} {ts : List Tok} {x er : Int} (h : TokIs Bs ts x er) : ts.length ≤ Bs.length := by
 cases h with
 | dec => simp
 | bad => simp
 | ok cs ats x h ts hl =>
  obtain ⟨o1, o2, _, _⟩ := dec_ok h rfl
  have h1 := lex_len cs.length cs (Nat.le_refl _) 0 0 [] ts hl
  have h2 := W.flat_len o1
  rw [← o2] at h2
  simp [placed] at h1 ⊢
  omega
end Go.Proofs.YtmohefgdpddldaaGreatDoor
namespace Go.Proofs.YtmohefgdpddldaaGreatDoor
namespace Y

section
variable {l : Tok} {u : List Tok} {e e' : Int}
end
end Y
end Go.Proofs.YtmohefgdpddldaaGreatDoor
namespace Go.Proofs.YtmohefgdpddldaaGreatDoor
namespace Y

theorem items_dead (e : Int) (n : Nat) : ∀ (m : Nat) (acc : List It) (a y : Int), itemsP e n m acc (.dead a y) = (acc, .dead a y)
 | 0, _, _, _ => rfl
 | m + 1, acc, a, y => by rw [itemsP, if_pos (by rfl)]
theorem items_nil (e : Int) (n : Nat) : ∀ (m : Nat) (acc : List It), itemsP e n m acc (.live []) = (acc, .live [])
 | 0, _ => rfl
 | m + 1, acc => by rw [itemsP, if_pos (by rfl)]
end Y
end Go.Proofs.YtmohefgdpddldaaGreatDoor
namespace Go.Proofs.YtmohefgdpddldaaGreatDoor
open Go.RowKit
open E (okb encB flat offs DecIs Upto Dead)
open W (Tk Lx lexS stepS)
open Y (Nd It Ps itemsP lastP failP)

theorem step_err {o : Nat} {ts : List Tk} {c : Int} {t : List Int} {k : Nat} {e : Int} (h : stepS o ts c t = .bad k e) : e ≠ 0 := by
 have hname : ∀ t, W.nameS t = .bad k e → e ≠ 0 := fun t h => by
  unfold W.nameS at h
  split at h
  ·split at h
   ·injection h with _ h; omega
   ·cases h
  ·injection h with _ h; omega
 have hset : ∀ t, W.setS t = .bad k e → e ≠ 0 := fun t h => by unfold W.setS at h; split at h <;> cases h
 have hnum : ∀ t, W.numT t = .bad k e → e ≠ 0 := fun t h => by
  unfold W.numT at h
  split at h
  ·cases h
  ·rename_i h0
   injection h with _ h; rw [← h]; exact h0
 have hnote : ∀ t, W.noteS t = .bad k e → e ≠ 0 := fun t h => by
  unfold W.noteS at h
  split at h
  ·split at h
   ·cases h
   ·injection h with _ h; omega
  ·cases h
 have hch : ∀ l n k e, W.chS l n = .bad k e → e ≠ 0 := fun l n k e h => by
  unfold W.chS at h
  split at h
  ·injection h with _ h; omega
  ·split at h
   ·cases h
   ·rename_i e' he
    have := read_errs he
    split at h
    ·injection h with _ h; omega
    ·injection h with _ h; omega
 have hchars : ∀ l, W.charsS l = .bad k e → e ≠ 0 := fun l h => by
  unfold W.charsS at h
  split at h
  ·rename_i h1
   injection h with h2 h3
   subst h2 h3
   exact hch _ _ _ _ h1
  ·split at h
   ·rename_i h1
    injection h with h2 h3
    subst h2 h3
    unfold W.hiS at h1
    split at h1
    ·exact hch _ _ _ _ h1
    ·cases h1
   ·split at h
    ·injection h with _ h; omega
    ·cases h
 unfold W.stepS at h
 split at h
 ·unfold W.inS at h
  split at h
  ·exact hname _ h
  ·split at h
   ·exact hset _ h
   ·split at h
    ·cases h
    ·split at h
     ·cases h
     ·split at h
      ·split at h
       ·cases h
       ·injection h with _ h; omega
      ·exact hchars _ h
 ·unfold W.outS at h
  split at h
  ·exact hname _ h
  ·split at h
   ·exact hnum _ h
   ·split at h
    ·exact hset _ h
    ·split at h
     ·exact hnote _ h
     ·split at h
      ·injection h with _ h; omega
      ·cases h
end Go.Proofs.YtmohefgdpddldaaGreatDoor
namespace Go.Proofs.YtmohefgdpddldaaGreatDoor
open Go.RowKit
open E (DecIs)
open W (Tk Lx lexS)
open Y (Nd It Ps takeP failP deepP nextP formP orsP joinP piecesP pieceP bareP setP partsP partP heldP memberP itemP lineP itemsP lastP noTok noName zeroN)

theorem TokIs.one {Bs : List Int} {ts us : List Tok} {x y er fr : Int} (h : TokIs Bs ts x er) (h' : TokIs Bs us y fr) : ts = us ∧ x = y ∧ er = fr := by
 cases h with
 | dec cs ats _ _ h he =>
  cases h' with
  | dec cs' ats' _ _ h2 he2 =>
   obtain ⟨_, _, e3, e4⟩ := h.one h2
   exact ⟨rfl, e3, e4⟩
  | bad cs' ats' x' h2 => exact absurd (h.one h2).2.2.2 he
  | ok cs' ats' x' h2 => exact absurd (h.one h2).2.2.2 he
 | bad cs ats x h k er hl =>
  cases h' with
  | dec cs' ats' _ _ h2 he2 => exact absurd (h2.one h).2.2.2 he2
  | bad cs' ats' x' h2 k' er' hl2 =>
   obtain ⟨e1, _⟩ := h.one h2
   subst e1
   rw [hl] at hl2
   injection hl2 with a1 a2
   subst a1 a2
   exact ⟨rfl, rfl, rfl⟩
  | ok cs' ats' x' h2 us hl2 =>
   obtain ⟨e1, _⟩ := h.one h2
   subst e1
   rw [hl] at hl2
   cases hl2
 | ok cs ats x h ts hl =>
  cases h' with
  | dec cs' ats' _ _ h2 he2 => exact absurd (h2.one h).2.2.2 he2
  | bad cs' ats' x' h2 k' er' hl2 =>
   obtain ⟨e1, _⟩ := h.one h2
   subst e1
   rw [hl] at hl2
   cases hl2
  | ok cs' ats' x' h2 us hl2 =>
   obtain ⟨e1, _⟩ := h.one h2
   subst e1
   rw [hl] at hl2
   injection hl2 with a1
   subst a1
   exact ⟨rfl, rfl, rfl⟩
namespace Y
section
variable (e : Int) (Q : Ps → Prop)
variable (ht : ∀ ks s, Q s → Q (takeP e ks s).2) (hd : ∀ w s, w ≠ 0 → Q s → Q (failP e w s))
include ht hd
end
end Y
end Go.Proofs.YtmohefgdpddldaaGreatDoor
namespace Go.Proofs.YtmohefgdpddldaaGreatDoor
open Go.RowKit
open E (DecIs)
open Y (Nd It Ps takeP failP formP itemP lineP itemsP lastP noTok)

namespace Y
end Y
section
variable {w : World} {S : Nat → Prop} {A : Option Addr} {n c : Nat} {l : List It}
theorem RdI6.take (h : RdI6 w S A n c l) {m : Nat} (hm : m ≤ n) : RdI6 w S A m c (l.take m) := by
 obtain ⟨h1, h2, h3, cs, h4, h5⟩ := h
 refine ⟨by rw [List.length_take]; omega, by omega, h3, cs, fun h0 => ?_, fun i x hx => ?_⟩
 ·obtain ⟨b, off, e, hb, hc⟩ := h4 (by omega)
  exact ⟨b, off, e, hb, fun i hi => hc i (by omega)⟩
 ·have hi : i < m := by have := (List.getElem?_eq_some_iff.1 hx).1; rw [List.length_take] at this; omega
  exact h5 i x (by rwa [List.getElem?_take_of_lt hi] at hx)
theorem RdI6.drop {b off : Nat} (h : RdI6 w S (some ⟨b, off, none⟩) n c l) {m : Nat} (hm : m ≤ n) : RdI6 w S (some ⟨b, off + m * 15, none⟩) (n - m) (c - m) (l.drop m) := by
 obtain ⟨h1, h2, h3, cs, h4, h5⟩ := h
 refine ⟨by rw [List.length_drop]; omega, by omega, by omega, fun i => cs (m + i), fun h0 => ?_, fun i x hx => ?_⟩
 ·obtain ⟨b', off', e, hb, hc⟩ := h4 (by omega)
  injection e with e
  injection e with e1 e2 _
  subst e1 e2
  exact ⟨b, off + m * 15, rfl, hb, fun i hi j u hu => by
   have := hc (m + i) (by omega) j u hu
   rw [show off + m * 15 + (i * 15 + j) = off + ((m + i) * 15 + j) by omega]
   exact this⟩
 ·exact h5 (m + i) x (by rwa [List.getElem?_drop] at hx)
end
end Go.Proofs.YtmohefgdpddldaaGreatDoor
namespace Go.Proofs.YtmohefgdpddldaaGreatDoor
open Go.RowKit
open W (Tk St C opn lastK nameS setS inS charsS chS hiS)

section
variable {X : Cx} {b : Nat} {w : World} {p o : Nat} {tv : Value} {ts : List Tk} {wr : Int}
theorem StepD.on {w1 w' : World} {r : St} {e : Ending} (h : StepD X b w1 p o ts wr r e w') (hb : Below b w w1) : StepD X b w p o ts wr r e w' := ⟨h.1, hb.trans h.2.1, h.2.2⟩
theorem stepD_tok {w' : World} {k : Int} {x : List Int} {lo hi : Int} {m o' : Nat} {tv' : Value} {q : Nat} (h : Rdx X b w' q o' tv' (ts ++ [⟨k, x, lo, hi, p⟩]) wr 0) (hb : Below b w w') (hq : q = p + m + 1) (ho : o' = opn k o) : StepD X b w p o ts wr (.tok k x lo hi m) (.returned (.tuple #[])) w' := by
 subst hq ho
 exact ⟨rfl, hb, tv', h⟩
theorem Rdx.last {er : Int} (h : Rdx X b w p o tv ts wr er) (hne : ts ≠ []) : ∃ (g off c m : Nat), tv = .slice (some ⟨g, off, none⟩) (m + 1) c ∧ m < ts.length ∧ m + 1 = ts.length ∧ w.cell? ⟨g, off + m * 5, none⟩ = some (.int .i64 (lastK ts)) := by
 obtain ⟨A, c, rfl, hr⟩ := h.row.rd
 have hl : 0 < ts.length := List.length_pos_iff.2 hne
 rw [List.length_map] at hr ⊢
 obtain ⟨g, off, rfl, _, hc⟩ := hr.at_ hl
 obtain ⟨m, hm⟩ : ∃ m, ts.length = m + 1 := ⟨ts.length - 1, by omega⟩
 refine ⟨g, off, c, m, by rw [hm], by omega, hm.symm, ?_⟩
 have hlast : ts[m]? = ts.getLast? := by rw [List.getLast?_eq_getElem?, hm]; rfl
 have hmt : m < ts.length := by omega
 have e1 : ts[m]? = some ts[m] := List.getElem?_eq_getElem hmt
 have e2 : (ts.map X.put)[m]? = some (X.put ts[m]) := by rw [List.getElem?_map, e1]; rfl
 have := cellsP_at e2 (j := 0) (by decide)
 rw [Nat.add_zero] at this
 refine (hc (m * 5) _ this).trans ?_
 unfold W.lastK
 rw [← hlast, e1]
 rfl
theorem head_iff (L : List Int) (f : Nat) {v : Int} (hv : v ≠ -1) : (L.drop f).headD (-1) = v ↔ L[f]? = some v := by
 rcases Nat.lt_or_ge f L.length with h | h
 ·rw [head_at L f (List.getElem?_eq_getElem h), List.getElem?_eq_getElem h]
  constructor
  ·intro h2; rw [h2]
  ·intro h2; exact Option.some.inj h2
 ·rw [head_no L f h, List.getElem?_eq_none h]
  constructor
  ·intro h2; exact absurd h2.symm hv
  ·intro h2; cases h2
theorem Rdx.at_i {er : Int} (h : Rdx X b w p o tv ts wr er) {q : Nat} {x : Int} (hq : q ≤ X.nc) (hx : x = (q : Int)) : Rdx X b (w.setCell ⟨b, 2, none⟩ (.int .i64 x)) q o tv ts wr er := by subst hx; exact h.at_ hq
theorem Rdx.open_i {er : Int} (h : Rdx X b w p o tv ts wr er) {q : Nat} {x : Int} (hx : x = (q : Int)) : Rdx X b (w.setCell ⟨b, 3, none⟩ (.int .i64 x)) p q tv ts wr er := by subst hx; exact h.open_ q
theorem below_set {B i : Nat} {a c : World} (h : Below B a c) (hb : B ≤ b) (v : Value) : Below B a (c.setCell ⟨b, i, none⟩ v) := h.setCell (p := ⟨b, i, none⟩) hb v
set_option maxHeartbeats 4000000 in
theorem dopen_any (h : Rdx X b w p o tv ts wr 0) (hp : p < X.nc) (hts : ts.length ≤ 3000) (ho : o ≤ 4000) :
  Calls Tryz.prog 81 #[.pointer (some ⟨b, 0, none⟩)] w (StepD X b w p o ts wr (setS (X.L.drop (p + 1)))) := by
 have HH := Lib.hid h
 obtain ⟨n1, n2, n3⟩ := h.nc
 have hbz := h.size
 have HR1 := Lib.hid ((h.at_i (q := p + 1) (x := (p : Int) + 1) (by omega) (by omega)).below (kbelow_push _ (.cells #[.int .i64 13, .string ⟨#[]⟩, .int .i64 0, .int .i64 0, .int .i64 0] 94)))
 have HB1 : Hid (Below b w ((w.setCell ⟨b, 2, none⟩ (.int .i64 ((p : Int) + 1))).alloc (.cells #[.int .i64 13, .string ⟨#[]⟩, .int .i64 0, .int .i64 0, .int .i64 0] 94))) := ((Below.refl b w).setCell (p := ⟨b, 2, none⟩) (Nat.le_refl _) _).trans ((kbelow_push _ _).mono (by simp; omega))
 obtain ⟨c0, c1, c2, c3, c4, c5, c6⟩ := h.cells
 have f2 := h.fr 2
 generalize hr : setS (X.L.drop (p + 1)) = r
 have HR := Lib.hid hr
 have HN1 := Lib.hid n1
 have hpp : (p : Int) < 3000 := by omega
 clear h hr n1 n3
 go_enter Tryz.func81, Tryz.ntmps81
 go_wp2_with fail
 refine (dis_any HR1.out (p + 1) (by omega) 94).mono ?_
 rintro e w2 ⟨rfl, rfl⟩
 by_cases h94 : X.L[p + 1]? = some 94
 ·have hlt : p + 1 < X.nc := by have := (List.getElem?_eq_some_iff.1 h94).1; have := HN1.out; omega
  have HS : Hid (r = .tok 13 [] 1 0 1) := by
   show _ = _
   rw [← HR.out]
   unfold W.setS
   rw [if_pos ((head_iff X.L (p + 1) (by decide)).2 h94)]
  rw [decide_eq_true h94]
  have HR3 := Lib.hid (((HH.out.at_i (q := p + 1) (x := (p : Int) + 1) (by omega) (by omega)).at_i (q := p + 2) (x := (p : Int) + 1 + 1) (by omega) (by omega)).below (kbelow_push _ (.cells #[.int .i64 13, .string ⟨#[]⟩, .int .i64 1, .int .i64 0, .int .i64 0] 94)))
  have HB3 : Hid (Below b w (((w.setCell ⟨b, 2, none⟩ (.int .i64 ((p : Int) + 1))).setCell ⟨b, 2, none⟩ (.int .i64 ((p : Int) + 1 + 1))).alloc (.cells #[.int .i64 13, .string ⟨#[]⟩, .int .i64 1, .int .i64 0, .int .i64 0] 94))) := (below_set (below_set (Below.refl b w) (Nat.le_refl _) _) (Nat.le_refl _) _).trans ((kbelow_push _ _).mono (by simp; omega))
  go_wp2_with fail
  refine (dput_any HR3.out 13 1 0 0 [] (i := p) (Nat.le_of_lt hp) hts).mono ?_
  rintro e w3 ⟨rfl, ⟨tv3, hR3⟩, hb3⟩
  obtain ⟨k0, k1, k2, k3, k4, k5, k6⟩ := hR3.cells
  have m3 := hR3.fr 3
  have HE : Hid (StepD X b w p o ts wr r (.returned (.tuple #[])) (w3.setCell ⟨b, 3, none⟩ (.int .i64 ((o : Int) + 1)))) := by
   show StepD _ _ _ _ _ _ _ _ _ _
   rw [HS.out]
   exact stepD_tok (hR3.open_i (q := o + 1) (by omega)) (below_set (HB3.out.trans hb3) (Nat.le_refl _) _) (by omega) rfl
  clear hR3 hb3 HR3 HB3 HS HR
  go_wp2_with fail
  exact bodyPost_ret (v := .tuple #[]) (by simp [results, Tryz.results81, go_sem]) rfl HE.out
 ·have HS : Hid (r = .tok 13 [] 0 0 0) := by
   show _ = _
   rw [← HR.out]
   unfold W.setS
   rw [if_neg (fun h => h94 ((head_iff X.L (p + 1) (by decide)).1 h))]
  rw [decide_eq_false h94]
  go_wp2_with fail
  refine (dput_any HR1.out 13 0 0 0 [] (i := p) (Nat.le_of_lt hp) hts).mono ?_
  rintro e w3 ⟨rfl, ⟨tv3, hR3⟩, hb3⟩
  obtain ⟨k0, k1, k2, k3, k4, k5, k6⟩ := hR3.cells
  have m3 := hR3.fr 3
  have HE : Hid (StepD X b w p o ts wr r (.returned (.tuple #[])) (w3.setCell ⟨b, 3, none⟩ (.int .i64 ((o : Int) + 1)))) := by
   show StepD _ _ _ _ _ _ _ _ _ _
   rw [HS.out]
   exact stepD_tok (hR3.open_i (q := o + 1) (by omega)) (below_set (HB1.out.trans hb3) (Nat.le_refl _) _) (by omega) rfl
  clear hR3 hb3 HR1 HB1 HS HR
  go_wp2_with fail
  exact bodyPost_ret (v := .tuple #[]) (by simp [results, Tryz.results81, go_sem]) rfl HE.out
theorem chars_bad {L : List Int} {p k : Nat} {er : Int} (h : chS (L.drop p) 0 = .bad k er) : charsS (L.drop p) = .bad k er := by unfold W.charsS; rw [h]
theorem chars_one {L : List Int} {p n : Nat} {lo : Int} (h : chS (L.drop p) 0 = .ok lo n) (h45 : L[p + n]? ≠ some 45) : charsS (L.drop p) = .tok 15 [] lo lo (n - 1) := by
 unfold W.charsS W.hiS
 rw [h]
 simp only
 rw [List.drop_drop, if_neg (fun h2 => h45 ((head_iff L (p + n) (by decide)).1 h2))]
 simp only
 rw [if_neg (by omega)]
theorem chars_two {L : List Int} {p n : Nat} {lo : Int} (h : chS (L.drop p) 0 = .ok lo n) (h45 : L[p + n]? = some 45) : charsS (L.drop p) = match chS (L.drop (p + n + 1)) 0 with
  | .bad k er => .bad (k + (n + 1)) er
  | .ok hi m => if hi < lo then .bad 0 7 else .tok 15 [] lo hi (m + (n + 1) - 1) := by
 have hlt := (List.getElem?_eq_some_iff.1 h45).1
 unfold W.charsS W.hiS
 rw [h]
 simp only
 rw [List.drop_drop, if_pos ((head_iff L (p + n) (by decide)).2 h45), ch_sh _ _ (by rw [List.length_drop]; omega), List.drop_drop, show p + (n + 1) = p + n + 1 by omega]
 cases chS (L.drop (p + n + 1)) 0 with
 | bad k er => rfl
 | ok hi m => rfl
theorem ch_pos {l : List Int} {c : Int} {n : Nat} (h : chS l 0 = .ok c n) : 1 ≤ n := by
 unfold W.chS at h
 rw [List.drop_zero] at h
 split at h
 ·cases h
 ·cases hr : Q.readS l 0 with
  | ok c' n' => rw [hr] at h; simp only at h; injection h with _ h2; subst h2; exact (Q.read_in hr).2.1
  | bad e => rw [hr] at h; simp only at h; split at h <;> cases h
set_option maxHeartbeats 8000000 in
theorem dset_any (h : Rdx X b w p o tv ts wr 0) (hp : p < X.nc) (hts : ts.length ≤ 3000) (ho : o ≤ 4000) (ho0 : 0 < o) (hne : ts ≠ []) {c : Int} (hc : X.L[p]? = some c) :
  Calls Tryz.prog 44 #[.pointer (some ⟨b, 0, none⟩)] w (StepD X b w p o ts wr (inS (lastK ts) c (X.L.drop (p + 1)))) := by
 obtain ⟨c0, c1, c2, c3, c4, c5, c6⟩ := h.cells
 have hsz := h.size
 obtain ⟨n1, n2, n3⟩ := h.nc
 obtain ⟨bc, offc, xc, hAc, _, hxc, hcell⟩ := h.chars.got hp
 obtain rfl : c = xc := by rw [hc] at hxc; exact Option.some.inj hxc
 rw [hAc] at c0
 have hp0 : (0 : Int) ≤ (p : Int) := by omega
 have hpn : (p : Int) < 3000 := by omega
 have hoi : (0 : Int) < (o : Int) := by omega
 have hcons := drop_at hc
 obtain ⟨g, offg, cg, m, htv, hm1, hm2, hlast⟩ := h.last hne
 have HH := Lib.hid h
 have HN1 := Lib.hid n1
 have HCO := Lib.hid hcons
 have hm0 : (0 : Int) ≤ (m : Int) := by omega
 have hm9 : (m : Int) ≤ 3000 := by omega
 have hmb : (m : Int) + 1 ≤ 3001 := by omega
 have hmi : (0 : Int) < (m : Int) + 1 := by omega
 generalize hlk : lastK ts = lk at *
 subst htv
 have HX := Lib.hid hc
 clear h hAc hxc hc hlk n1 n3 hcons hm1 hm2 hne
 by_cases h91 : c = 91
 ·have HE : Hid (inS lk c (X.L.drop (p + 1)) = setS (X.L.drop (p + 1))) := by show _ = _; unfold W.inS; rw [if_neg (by omega), if_pos h91]
  rw [HE.out]
  subst h91
  clear HE
  go_enter Tryz.func44, Tryz.ntmps44
  go_wp2_with fail
  go_quiet (fail)
  go_wp2_with fail
  refine (dopen_any (HH.out.drewN nq) hp hts ho).mono ?_
  intro e w2 hP
  have HE := Lib.hid (hP.on (kbelow_drewN (Below.refl b w) nq))
  obtain rfl := hP.1
  clear hP
  go_wp2_with fail
  exact bodyPost_ret (v := .tuple #[]) (by simp [results, Tryz.results44, go_sem]) rfl HE.out
 ·have g91 : (c == 91) = false := by simpa using h91
  by_cases h93 : c = 93
  ·have HE0 : Hid (inS lk c (X.L.drop (p + 1)) = .tok 14 [] 0 0 0) := by show _ = _; unfold W.inS; rw [if_neg (by omega), if_neg h91, if_pos h93]
   rw [HE0.out]
   subst h93
   clear HE0
   go_enter Tryz.func44, Tryz.ntmps44
   go_wp2_with fail
   go_quiet (fail)
   go_wp2_with fail
   refine (dput_any (HH.out.drewN nq) 14 0 0 0 [] (i := p) (Nat.le_of_lt hp) hts).mono ?_
   rintro e w3 ⟨rfl, ⟨tv3, hR3⟩, hb3⟩
   obtain ⟨k0, k1, k2, k3, k4, k5, k6⟩ := hR3.cells
   have m3 := hR3.fr 3
   have m2 := hR3.fr 2
   have HE : Hid (StepD X b w p o ts wr (.tok 14 [] 0 0 0) (.returned (.tuple #[])) ((w3.setCell ⟨b, 3, none⟩ (.int .i64 ((o : Int) - 1))).setCell ⟨b, 2, none⟩ (.int .i64 ((p : Int) + 1)))) :=
    stepD_tok ((hR3.open_i (q := o - 1) (by omega)).at_i (q := p + 1) (by omega) (by omega)) (below_set (below_set ((kbelow_drewN (Below.refl b w) nq).trans hb3) (Nat.le_refl _) _) (Nat.le_refl _) _) (by omega) rfl
   clear hR3 hb3
   go_wp2_with fail
   exact bodyPost_ret (v := .tuple #[]) (by simp [results, Tryz.results44, go_sem]) rfl HE.out
  ·have g93 : (c == 93) = false := by simpa using h93
   by_cases h38 : c = 38
   ·have HE0 : Hid (inS lk c (X.L.drop (p + 1)) = .tok 16 [] 0 0 0) := by show _ = _; unfold W.inS; rw [if_neg (by omega), if_neg h91, if_neg h93, if_pos h38]
    rw [HE0.out]
    subst h38
    clear HE0
    go_enter Tryz.func44, Tryz.ntmps44
    go_wp2_with fail
    go_quiet (fail)
    go_wp2_with fail
    refine (dput_any (HH.out.drewN nq) 16 0 0 0 [] (i := p) (Nat.le_of_lt hp) hts).mono ?_
    rintro e w3 ⟨rfl, ⟨tv3, hR3⟩, hb3⟩
    obtain ⟨k0, k1, k2, k3, k4, k5, k6⟩ := hR3.cells
    have m2 := hR3.fr 2
    have HE : Hid (StepD X b w p o ts wr (.tok 16 [] 0 0 0) (.returned (.tuple #[])) (w3.setCell ⟨b, 2, none⟩ (.int .i64 ((p : Int) + 1)))) :=
     stepD_tok (hR3.at_i (q := p + 1) (by omega) (by omega)) (below_set ((kbelow_drewN (Below.refl b w) nq).trans hb3) (Nat.le_refl _) _) (by omega) rfl
    clear hR3 hb3
    go_wp2_with fail
    exact bodyPost_ret (v := .tuple #[]) (by simp [results, Tryz.results44, go_sem]) rfl HE.out
   ·have g38 : (c == 38) = false := by simpa using h38
    by_cases h36 : c = 36
    ·have HE0 : Hid (inS lk c (X.L.drop (p + 1)) = nameS (X.L.drop (p + 1))) := by show _ = _; unfold W.inS; rw [if_pos h36]
     rw [HE0.out]
     subst h36
     clear HE0
     go_enter Tryz.func44, Tryz.ntmps44
     go_wp2_with fail
     go_quiet (fail)
     go_wp2_with fail
     refine (dname_any (HH.out.drewN nq) hp hts).mono ?_
     intro e w2 hP
     have HE := Lib.hid (hP.on (kbelow_drewN (Below.refl b w) nq))
     obtain rfl := hP.1
     clear hP
     go_wp2_with fail
     exact bodyPost_ret (v := .tuple #[]) (by simp [results, Tryz.results44, go_sem]) rfl HE.out
    ·have g36 : (c == 36) = false := by simpa using h36
     by_cases h45 : c = 45 ∧ (lk = 14 ∨ lk = 1)
     ·obtain ⟨rfl, hlk⟩ := h45
      have HE0 : Hid (inS lk 45 (X.L.drop (p + 1)) = .tok 17 [] 0 0 0) := by show _ = _; unfold W.inS; rw [if_neg h36, if_neg h91, if_neg h93, if_neg h38, if_pos rfl, if_pos hlk]
      rw [HE0.out]
      clear HE0
      have hend : ∀ nq w3, (DPutP X b (w.drewN nq) p o (ts ++ [⟨17, [], 0, 0, p⟩]) wr 0 (.returned (.tuple #[])) w3) → StepD X b w p o ts wr (.tok 17 [] 0 0 0) (.returned (.tuple #[])) (w3.setCell ⟨b, 2, none⟩ (.int .i64 ((p : Int) + 1))) := fun nq w3 ⟨_, ⟨tv3, hR3⟩, hb3⟩ =>
       stepD_tok (hR3.at_i (q := p + 1) (by omega) (by omega)) (below_set ((kbelow_drewN (Below.refl b w) nq).trans hb3) (Nat.le_refl _) _) (by omega) rfl
      have HEND := Lib.hid hend
      clear hend
      rcases hlk with rfl | rfl
      all_goals
       go_enter Tryz.func44, Tryz.ntmps44
       go_wp2_with fail
       go_quiet (fail)
       go_wp2_with fail
       refine (dput_any (HH.out.drewN nq) 17 0 0 0 [] (i := p) (Nat.le_of_lt hp) hts).mono ?_
       intro e w3 hP
       obtain rfl := hP.1
       have HE := Lib.hid (HEND.out nq w3 hP)
       obtain ⟨_, ⟨tv3, hR3⟩, hb3⟩ := hP
       obtain ⟨k0, k1, k2, k3, k4, k5, k6⟩ := hR3.cells
       have m2 := hR3.fr 2
       clear hR3 hb3 HEND
       go_wp2_with fail
       exact bodyPost_ret (v := .tuple #[]) (by simp [results, Tryz.results44, go_sem]) rfl HE.out
     ·have HE0 : Hid (inS lk c (X.L.drop (p + 1)) = charsS (X.L.drop p)) := by
       show _ = _
       rw [HCO.out]
       unfold W.inS
       rw [if_neg h36, if_neg h91, if_neg h93, if_neg h38]
       by_cases h45' : c = 45
       ·rw [if_pos h45', if_neg (fun h => h45 ⟨h45', h⟩), h45']
        rfl
       ·rw [if_neg h45']
      rw [HE0.out]
      clear HE0
      have hgo : (c == 45) = false ∨ (c == 45) = true ∧ (lk == 14) = false ∧ (lk == 1) = false := by
       by_cases h45' : c = 45
       ·refine .inr ⟨by simp [h45'], ?_, ?_⟩
        ·simp; exact fun h => h45 ⟨h45', .inl h⟩
        ·simp; exact fun h => h45 ⟨h45', .inr h⟩
       ·exact .inl (by simp [h45'])
      have HGO := Lib.hid hgo
      clear h45 hgo h36 h38 h91 h93
      generalize hr : charsS (X.L.drop p) = r
      have HR := Lib.hid hr
      clear hr
      rcases HGO.out with q45 | ⟨q45, q14, q1⟩
      all_goals
       clear HGO
       go_enter Tryz.func44, Tryz.ntmps44
       go_wp2_with fail
       go_quiet (fail)
       go_wp2_with fail
       refine (dchar_any (HH.out.drewN nq)).mono ?_
       intro e w2 hP
       have HBN : Hid (Below b w (w.drewN nq)) := kbelow_drewN (Below.refl b w) nq
       obtain ⟨hB, hM⟩ := hP
       have HB2 := Lib.hid (HBN.out.trans hB)
       clear hB HBN
       cases hch : chS (X.L.drop p) 0 with
       | bad k er =>
        rw [hch] at hM
        obtain ⟨her, v, rfl, hR⟩ := hM
        have g0 : (er == 0) = false := by simp; omega
        obtain ⟨k0, k1, k2, k3, k4, k5, k6⟩ := hR.cells
        have HE : Hid (StepD X b w p o ts wr r (.returned (.tuple #[])) w2) := by
         show StepD _ _ _ _ _ _ _ _ _ _
         rw [← HR.out, chars_bad hch]
         exact stepD_bad hR HB2.out
        clear hR HR hch her HB2
        go_wp2_with fail
        exact bodyPost_ret (v := .tuple #[]) (by simp [results, Tryz.results44, go_sem]) rfl HE.out
       | ok lo n =>
        rw [hch] at hM
        obtain ⟨rfl, hR⟩ := hM
        have hn1 := ch_pos hch
        have hle := hR.le
        obtain ⟨k0, k1, k2, k3, k4, k5, k6⟩ := hR.cells
        have m2 := hR.fr 2
        have HRR := Lib.hid hR
        clear hR
        have hpn2 : ((p + n : Nat) : Int) ≤ 3000 := by omega
        go_wp2_with fail
        refine (dis_any HRR.out (p + n) (by omega) 45).mono ?_
        rintro e w3 ⟨rfl, rfl⟩
        by_cases h45 : X.L[p + n]? = some 45
        ·have hle1 : p + n + 1 ≤ X.nc := by have := (List.getElem?_eq_some_iff.1 h45).1; have := HN1.out; omega
         rw [decide_eq_true h45]
         have HR3 := Lib.hid (HRR.out.at_i (q := p + n + 1) (x := ((p + n : Nat) : Int) + 1) hle1 (by omega))
         have HB3 := Lib.hid (below_set (b := b) (i := 2) HB2.out (Nat.le_refl _) (.int .i64 (((p + n : Nat) : Int) + 1)))
         have HCT := Lib.hid (chars_two hch h45)
         clear hch h45 HB2 HRR
         go_wp2_with fail
         refine (dchar_any HR3.out).mono ?_
         intro e w4 hP4
         obtain ⟨hB4, hM4⟩ := hP4
         have HB4 := Lib.hid (HB3.out.trans hB4)
         clear hB4 HB3 HR3 k0 k1 k2 k3 k4 k5 k6 m2
         cases hch2 : chS (X.L.drop (p + n + 1)) 0 with
         | bad k er =>
          rw [hch2] at hM4
          obtain ⟨her, v, rfl, hR4⟩ := hM4
          have g0 : (er == 0) = false := by simp; omega
          have he0 : er ≠ 0 := by omega
          have HS : Hid (r = .bad (k + (n + 1)) er) := by show _ = _; rw [← HR.out, HCT.out, hch2]
          have HR4 := Lib.hid hR4
          have HPL : Hid ((plc X.L (p + n + 1 + k) : Int) = (plc X.L (p + (k + (n + 1))) : Int)) := by show _ = _; rw [show p + n + 1 + k = p + (k + (n + 1)) by omega]
          by_cases hlv : v < lo
          ·clear hch2 her HCT HR
           go_wp2_with fail
           refine (dfail_any HR4.out (i := p) (Nat.le_of_lt hp) 7).mono ?_
           rintro e w5 ⟨rfl, hR5, hb5⟩
           rw [if_neg he0, if_neg he0] at hR5
           obtain ⟨k0, k1, k2, k3, k4, k5, k6⟩ := hR5.cells
           have HE : Hid (StepD X b w p o ts wr r (.returned (.tuple #[])) w5) := by
            show StepD _ _ _ _ _ _ _ _ _ _
            rw [HS.out]
            rw [HPL.out] at hR5
            exact stepD_bad hR5 (HB4.out.trans hb5)
           clear hR5 hb5 hR4 HR4 HS HPL he0
           go_wp2_with fail
           exact bodyPost_ret (v := .tuple #[]) (by simp [results, Tryz.results44, go_sem]) rfl HE.out
          ·obtain ⟨k0, k1, k2, k3, k4, k5, k6⟩ := hR4.cells
           have HE : Hid (StepD X b w p o ts wr r (.returned (.tuple #[])) w4) := by
            show StepD _ _ _ _ _ _ _ _ _ _
            rw [HS.out]
            rw [HPL.out] at hR4
            exact stepD_bad hR4 HB4.out
           clear hR4 HR4 HS HPL hch2 her HCT HR he0
           go_wp2_with fail
           exact bodyPost_ret (v := .tuple #[]) (by simp [results, Tryz.results44, go_sem]) rfl HE.out
         | ok hi m2' =>
          rw [hch2] at hM4
          obtain ⟨rfl, hR4⟩ := hM4
          have hm1' := ch_pos hch2
          have HS : Hid (r = if hi < lo then .bad 0 7 else .tok 15 [] lo hi (m2' + (n + 1) - 1)) := by show _ = _; rw [← HR.out, HCT.out, hch2]
          have HR4 := Lib.hid hR4
          obtain ⟨k0, k1, k2, k3, k4, k5, k6⟩ := hR4.cells
          by_cases hlv : hi < lo
          ·have HS2 : Hid (r = .bad 0 7) := by show _ = _; rw [HS.out, if_pos hlv]
           clear hch2 HCT HR HS hR4
           go_wp2_with fail
           refine (dfail_any HR4.out (i := p) (Nat.le_of_lt hp) 7).mono ?_
           rintro e w5 ⟨rfl, hR5, hb5⟩
           rw [if_pos rfl, if_pos rfl] at hR5
           clear k0 k1 k2 k3 k4 k5 k6
           obtain ⟨k0, k1, k2, k3, k4, k5, k6⟩ := hR5.cells
           have HE : Hid (StepD X b w p o ts wr r (.returned (.tuple #[])) w5) := by
            show StepD _ _ _ _ _ _ _ _ _ _
            rw [HS2.out]
            exact stepD_bad (k := 0) hR5 (HB4.out.trans hb5)
           clear hR5 hb5 HR4 HS2
           go_wp2_with fail
           exact bodyPost_ret (v := .tuple #[]) (by simp [results, Tryz.results44, go_sem]) rfl HE.out
          ·have HS2 : Hid (r = .tok 15 [] lo hi (m2' + (n + 1) - 1)) := by show _ = _; rw [HS.out, if_neg hlv]
           clear hch2 HCT HR HS hR4
           go_wp2_with fail
           refine (dput_any HR4.out 15 lo hi 0 [] (i := p) (Nat.le_of_lt hp) hts).mono ?_
           rintro e w5 ⟨rfl, ⟨tv5, hR5⟩, hb5⟩
           have HE : Hid (StepD X b w p o ts wr r (.returned (.tuple #[])) w5) := by
            show StepD _ _ _ _ _ _ _ _ _ _
            rw [HS2.out]
            exact stepD_tok hR5 (HB4.out.trans hb5) (by omega) rfl
           clear hR5 hb5 HR4 HS2
           go_wp2_with fail
           exact bodyPost_ret (v := .tuple #[]) (by simp [results, Tryz.results44, go_sem]) rfl HE.out
        ·have HS2 : Hid (r = .tok 15 [] lo lo (n - 1)) := by show _ = _; rw [← HR.out, chars_one hch h45]
         rw [decide_eq_false h45]
         clear hch h45 HR
         go_wp2_with fail
         refine (dput_any HRR.out 15 lo lo 0 [] (i := p) (Nat.le_of_lt hp) hts).mono ?_
         rintro e w5 ⟨rfl, ⟨tv5, hR5⟩, hb5⟩
         have HE : Hid (StepD X b w p o ts wr r (.returned (.tuple #[])) w5) := by
          show StepD _ _ _ _ _ _ _ _ _ _
          rw [HS2.out]
          exact stepD_tok hR5 (HB2.out.trans hb5) (by omega) rfl
         clear hR5 hb5 HRR HS2
         go_wp2_with fail
         exact bodyPost_ret (v := .tuple #[]) (by simp [results, Tryz.results44, go_sem]) rfl HE.out
end
end Go.Proofs.YtmohefgdpddldaaGreatDoor
namespace Go.Proofs.YtmohefgdpddldaaGreatDoor
open Go.RowKit
open W (Tk St C opn dgB numB nameS setS numT outS signK)

def signL : List Int := [61, 215, 247, 40, 41, 124, 42, 43, 63, 46]
theorem sign_at {k : Nat} {c : Int} (h : signL[k]? = some c) : signK c = 3 + (k : Int) ∧ c ≠ 36 ∧ c ≠ 91 ∧ c ≠ 35 ∧ dgB c = false := by
 have hk : k < 10 := (List.getElem?_eq_some_iff.1 h).1
 have : k = 0 ∨ k = 1 ∨ k = 2 ∨ k = 3 ∨ k = 4 ∨ k = 5 ∨ k = 6 ∨ k = 7 ∨ k = 8 ∨ k = 9 := by omega
 rcases this with rfl | rfl | rfl | rfl | rfl | rfl | rfl | rfl | rfl | rfl <;> (have e := Option.some.inj h; subst e; decide)
theorem sign_no {c : Int} (h : ∀ j y, j < 10 → signL[j]? = some y → y ≠ c) : signK c = if c = 10 then 18 else 0 := by
 have h0 := fun j y hj hy => (h j y hj hy).symm
 unfold W.signK
 rw [if_neg (h0 0 61 (by decide) rfl)]
 rw [if_neg (h0 1 215 (by decide) rfl)]
 rw [if_neg (h0 2 247 (by decide) rfl)]
 rw [if_neg (h0 3 40 (by decide) rfl)]
 rw [if_neg (h0 4 41 (by decide) rfl)]
 rw [if_neg (h0 5 124 (by decide) rfl)]
 rw [if_neg (h0 6 42 (by decide) rfl)]
 rw [if_neg (h0 7 43 (by decide) rfl)]
 rw [if_neg (h0 8 63 (by decide) rfl)]
 rw [if_neg (h0 9 46 (by decide) rfl)]
section
variable {X : Cx} {b : Nat} {w : World} {p o : Nat} {tv : Value} {ts : List Tk} {wr : Int}
set_option maxHeartbeats 8000000 in
theorem dstep_any (h : Rdx X b w p o tv ts wr 0) (hp : p < X.nc) (hts : ts.length ≤ 3000) (ho : o ≤ 4000) {c : Int} (hc : X.L[p]? = some c) (h35 : c ≠ 35) :
  Calls Tryz.prog 45 #[.pointer (some ⟨b, 0, none⟩)] w (StepD X b w p o ts wr (outS c (X.L.drop (p + 1)))) := by
 obtain ⟨c0, c1, c2, c3, c4, c5, c6⟩ := h.cells
 have hsz := h.size
 obtain ⟨n1, n2, n3⟩ := h.nc
 obtain ⟨bc, offc, xc, hAc, _, hxc, hcell⟩ := h.chars.got hp
 obtain rfl : c = xc := by rw [hc] at hxc; exact Option.some.inj hxc
 rw [hAc] at c0
 have hp0 : (0 : Int) ≤ (p : Int) := by omega
 have hpn : (p : Int) < 3000 := by omega
 have HCO := Lib.hid (drop_at hc)
 have HH := Lib.hid h
 have HN1 := Lib.hid n1
 have HX := Lib.hid hc
 have HA := Lib.hid hAc
 have g35 : (c == 35) = false := by simpa using h35
 clear h hAc hxc hc n1 n3
 generalize hr : outS c (X.L.drop (p + 1)) = r
 have HR := Lib.hid hr
 clear hr
 go_enter Tryz.func45, Tryz.ntmps45
 go_wp2_with fail
 go_quiet (fail)
 go_wp2_with fail
 have HLR : Hid (RdK .i64 ((w.drewN nq).alloc (.cells #[.int .i64 61, .int .i64 215, .int .i64 247, .int .i64 40, .int .i64 41, .int .i64 124, .int .i64 42, .int .i64 43, .int .i64 63, .int .i64 46] 3)) ((w.drewN nq).alloc (.cells #[.int .i64 61, .int .i64 215, .int .i64 247, .int .i64 40, .int .i64 41, .int .i64 124, .int .i64 42, .int .i64 43, .int .i64 63, .int .i64 46] 3)).heap.size (some ⟨w.heap.size, 0, none⟩) 10 10 signL) := rd_lit_k (w.drewN nq) w.heap.size rfl .i64 signL 3 _ rfl (by decide)
 have HRW := Lib.hid ((HH.out.drewN nq).below (kbelow_push _ (.cells #[.int .i64 61, .int .i64 215, .int .i64 247, .int .i64 40, .int .i64 41, .int .i64 124, .int .i64 42, .int .i64 43, .int .i64 63, .int .i64 46] 3)))
 have HBW : Hid (Below b w ((w.drewN nq).alloc (.cells #[.int .i64 61, .int .i64 215, .int .i64 247, .int .i64 40, .int .i64 41, .int .i64 124, .int .i64 42, .int .i64 43, .int .i64 63, .int .i64 46] 3))) := (kbelow_drewN (Below.refl b w) nq).trans ((kbelow_push _ _).mono (by show b ≤ w.heap.size; omega))
 generalize (w.drewN nq).alloc (.cells #[.int .i64 61, .int .i64 215, .int .i64 247, .int .i64 40, .int .i64 41, .int .i64 124, .int .i64 42, .int .i64 43, .int .i64 63, .int .i64 46] 3) = W1 at *
 clear c0 c1 c2 c3 c4 c5 c6 hcell
 go_loopw [5] (fun kv wx => ∃ k : Nat, k ≤ 10 ∧ kv = .int .i64 k ∧ W1 = wx ∧ Hid (∀ j y, j < k → signL[j]? = some y → y ≠ c)) (fun kv _ => 10 - (intOf kv).toNat)
 case atStart => exact ⟨0, by omega, rfl, by trivial, fun j y h => by omega⟩
 case round =>
  obtain ⟨k, hk, rfl, rfl, HN⟩ := hrel
  obtain ⟨c0, c1, c2, c3, c4, c5, c6⟩ := HRW.out.cells
  rw [HA.out] at c0
  by_cases hlt : k < 10
  ·obtain ⟨bL, oL, z, hAL, _, hz, hcz⟩ := HLR.out.got hlt
   injection hAL with hAL
   injection hAL with e1 e2 _
   subst e1 e2
   rw [Nat.zero_add] at hcz
   by_cases hzc : z = c
   ·subst hzc
    obtain ⟨q1, q2, q3, q4, q5⟩ := sign_at hz
    have HS : Hid (r = .tok (3 + (k : Int)) [] 0 0 0) := by
     show _ = _
     rw [← HR.out]
     unfold W.outS
     rw [if_neg q2, if_neg (by rw [q5]; decide), if_neg q3, if_neg q4, q1, if_neg (by omega)]
    have hop : o = opn (3 + (k : Int)) o := by unfold W.opn; rw [if_neg (by omega), if_neg (by omega)]
    have HOP := Lib.hid hop
    clear HN hz q1 q2 q3 q4 q5 hop HR
    go_wp2_with fail
    refine (dput_any HRW.out (3 + (k : Int)) 0 0 0 [] (i := p) (Nat.le_of_lt hp) hts).mono ?_
    rintro e w3 ⟨rfl, ⟨tv3, hR3⟩, hb3⟩
    clear c0 c1 c2 c3 c4 c5 c6
    obtain ⟨k0, k1, k2, k3, k4, k5, k6⟩ := hR3.cells
    have m2 := hR3.fr 2
    have HE : Hid (StepD X b w p o ts wr r (.returned (.tuple #[])) (w3.setCell ⟨b, 2, none⟩ (.int .i64 ((p : Int) + 1)))) := by
     show StepD _ _ _ _ _ _ _ _ _ _
     rw [HS.out]
     exact stepD_tok (hR3.at_i (q := p + 1) (by omega) (by omega)) (below_set (HBW.out.trans hb3) (Nat.le_refl _) _) (by omega) HOP.out
    clear hR3 hb3 HS HOP
    go_wp2_with fail
    exact bodyPost_ret (v := .tuple #[]) (by simp [results, Tryz.results45, go_sem]) rfl HE.out
   ·have qz : (z == c) = false := by simpa using hzc
    have HN2 : Hid (∀ j y, j < k + 1 → signL[j]? = some y → y ≠ c) := fun j y hj hy => by
     rcases Nat.lt_or_ge j k with h1 | h1
     ·exact HN.out j y h1 hy
     ·obtain rfl : j = k := by omega
      rw [hz] at hy; injection hy with hy; subst hy; exact hzc
    clear HN hz
    go_wp2_with fail
    go_roundw
    case rel => exact ⟨k + 1, by omega, by go_num, by trivial, HN2.out⟩
    case measure => simp [intOf]; omega
  ·obtain rfl : k = 10 := by omega
   have HSN := Lib.hid (sign_no HN.out)
   clear HN
   by_cases h10 : c = 10
   ·have HS : Hid (r = .tok 18 [] 0 0 0) := by show _ = _; rw [← HR.out, h10]; rfl
    subst h10
    clear HR HSN
    go_wp2_with fail
    refine (dput_any HRW.out 18 0 0 0 [] (i := p) (Nat.le_of_lt hp) hts).mono ?_
    rintro e w3 ⟨rfl, ⟨tv3, hR3⟩, hb3⟩
    clear c0 c1 c2 c3 c4 c5 c6
    obtain ⟨k0, k1, k2, k3, k4, k5, k6⟩ := hR3.cells
    have m2 := hR3.fr 2
    have HE : Hid (StepD X b w p o ts wr r (.returned (.tuple #[])) (w3.setCell ⟨b, 2, none⟩ (.int .i64 ((p : Int) + 1)))) := by
     show StepD _ _ _ _ _ _ _ _ _ _
     rw [HS.out]
     exact stepD_tok (hR3.at_i (q := p + 1) (by omega) (by omega)) (below_set (HBW.out.trans hb3) (Nat.le_refl _) _) (by omega) rfl
    clear hR3 hb3 HS
    go_wp2_with fail
    exact bodyPost_ret (v := .tuple #[]) (by simp [results, Tryz.results45, go_sem]) rfl HE.out
   ·have g10 : (c == 10) = false := by simpa using h10
    by_cases h36 : c = 36
    ·have HS : Hid (r = nameS (X.L.drop (p + 1))) := by show _ = _; rw [← HR.out, h36]; rfl
     subst h36
     clear HR HSN
     go_wp2_with fail
     refine (dname_any HRW.out hp hts).mono ?_
     intro e w2 hP
     have HE : Hid (StepD X b w p o ts wr r e w2) := by show StepD _ _ _ _ _ _ _ _ _ _; rw [HS.out]; exact hP.on HBW.out
     obtain rfl := hP.1
     clear hP HS
     go_wp2_with fail
     exact bodyPost_ret (v := .tuple #[]) (by simp [results, Tryz.results45, go_sem]) rfl HE.out
    ·have g36 : (c == 36) = false := by simpa using h36
     by_cases h91 : c = 91
     ·have HS : Hid (r = setS (X.L.drop (p + 1))) := by show _ = _; rw [← HR.out, h91]; rfl
      subst h91
      clear HR HSN
      go_wp2_with fail
      refine (dopen_any HRW.out hp hts ho).mono ?_
      intro e w2 hP
      have HE : Hid (StepD X b w p o ts wr r e w2) := by show StepD _ _ _ _ _ _ _ _ _ _; rw [HS.out]; exact hP.on HBW.out
      obtain rfl := hP.1
      clear hP HS
      go_wp2_with fail
      exact bodyPost_ret (v := .tuple #[]) (by simp [results, Tryz.results45, go_sem]) rfl HE.out
     ·have g91 : (c == 91) = false := by simpa using h91
      have HD := ddigit_any c W1
      cases hdg : dgB c with
      | true =>
       rw [hdg] at HD
       have HS : Hid (r = if (numB (X.L.drop p)).2.2 = 0 then .tok 2 [] (numB (X.L.drop p)).1 0 ((numB (X.L.drop p)).2.1 - 1) else .bad 0 (numB (X.L.drop p)).2.2) := by
        show _ = _
        rw [← HR.out]
        unfold W.outS W.numT
        rw [if_neg h36, if_pos hdg, ← HCO.out]
       have hnum := dnumber_any HRW.out.chars (by omega) HX.out hdg
       rw [HA.out] at hnum
       have HNU := Lib.hid hnum
       have HLE : Hid ((numB (X.L.drop p)).2.2 = 0 → 1 ≤ (numB (X.L.drop p)).2.1) := fun h => W.num_pos h
       clear hnum HR HSN hdg
       generalize numB (X.L.drop p) = nu at *
       go_wp2_with fail
       refine HD.mono ?_
       rintro e w2 ⟨rfl, rfl⟩
       clear HD
       go_wp2_with fail
       refine HNU.out.mono ?_
       rintro e w2 ⟨rfl, x, t, rfl, ht, hx⟩
       by_cases he : nu.2.2 = 0
       ·obtain ⟨rfl, rfl⟩ := hx he
        have hS := HS.out
        rw [if_pos he] at hS
        have HS2 := Lib.hid hS
        have h1 := HLE.out he
        have g0 : (nu.2.2 != 0) = false := by simp [he]
        clear hS HS HLE HNU hx
        go_wp2_with fail
        refine (dput_any HRW.out 2 nu.1 0 0 [] (i := p) (Nat.le_of_lt hp) hts).mono ?_
        rintro e w3 ⟨rfl, ⟨tv3, hR3⟩, hb3⟩
        clear c0 c1 c2 c3 c4 c5 c6
        obtain ⟨k0, k1, k2, k3, k4, k5, k6⟩ := hR3.cells
        have m2 := hR3.fr 2
        have HE : Hid (StepD X b w p o ts wr r (.returned (.tuple #[])) (w3.setCell ⟨b, 2, none⟩ (.int .i64 ((p + nu.2.1 : Nat) : Int)))) := by
         show StepD _ _ _ _ _ _ _ _ _ _
         rw [HS2.out]
         exact stepD_tok (hR3.at_i (q := p + nu.2.1) ht rfl) (below_set (HBW.out.trans hb3) (Nat.le_refl _) _) (by omega) rfl
        clear hR3 hb3 HS2
        go_wp2_with fail
        exact bodyPost_ret (v := .tuple #[]) (by simp [results, Tryz.results45, go_sem]) rfl HE.out
       ·have hS := HS.out
        rw [if_neg he] at hS
        have HS2 := Lib.hid hS
        have g0 : (nu.2.2 != 0) = true := by rw [bne_iff_ne]; exact he
        clear hS HS HLE HNU hx
        go_wp2_with fail
        refine (dfail_any HRW.out (i := p) (Nat.le_of_lt hp) nu.2.2).mono ?_
        rintro e w3 ⟨rfl, hR3, hb3⟩
        rw [if_pos rfl, if_pos rfl] at hR3
        have HE : Hid (StepD X b w p o ts wr r (.returned (.tuple #[])) w3) := by
         show StepD _ _ _ _ _ _ _ _ _ _
         rw [HS2.out]
         exact stepD_bad (k := 0) hR3 (HBW.out.trans hb3)
        clear hR3 hb3 HS2
        go_wp2_with fail
        exact bodyPost_ret (v := .tuple #[]) (by simp [results, Tryz.results45, go_sem]) rfl HE.out
      | false =>
       rw [hdg] at HD
       have HS2 : Hid (r = .bad 0 4) := by
        show _ = _
        rw [← HR.out]
        unfold W.outS
        rw [if_neg h36, if_neg (by rw [hdg]; decide), if_neg h91, if_neg h35, HSN.out, if_neg h10, if_pos rfl]
       clear HR HSN hdg
       go_wp2_with fail
       refine HD.mono ?_
       rintro e w2 ⟨rfl, rfl⟩
       clear HD
       go_wp2_with fail
       refine (dfail_any HRW.out (i := p) (Nat.le_of_lt hp) 4).mono ?_
       rintro e w3 ⟨rfl, hR3, hb3⟩
       rw [if_pos rfl, if_pos rfl] at hR3
       have HE : Hid (StepD X b w p o ts wr r (.returned (.tuple #[])) w3) := by
        show StepD _ _ _ _ _ _ _ _ _ _
        rw [HS2.out]
        exact stepD_bad (k := 0) hR3 (HBW.out.trans hb3)
       clear hR3 hb3 HS2
       go_wp2_with fail
       exact bodyPost_ret (v := .tuple #[]) (by simp [results, Tryz.results45, go_sem]) rfl HE.out
end
end Go.Proofs.YtmohefgdpddldaaGreatDoor
namespace Go.Proofs.YtmohefgdpddldaaGreatDoor
open Go.RowKit
open E (okb encB flat offs DecIs)
open W (Tk St Lx lexS opn inS outS stepS lastK)

structure AtD (X : Cx) (b : Nat) (W0 : World) (R : Lx) (w : World) (p o : Nat) (tv : Value) (ts : List Tk) (wr er : Int) : Prop where
 rd : Rdx X b w p o tv ts wr er
 bel : Below b W0 w
 live : er = 0 → lexS (X.L.drop p) p o ts = R ∧ o ≤ p ∧ ts.length ≤ p ∧ (0 < o → ts ≠ [])
 dead : er ≠ 0 → ∃ k, R = .bad k er ∧ wr = (plc X.L k : Nat)
def dmeas (nc b : Nat) (w : World) : Nat := match w.cell? ⟨b, 6, none⟩, w.cell? ⟨b, 2, none⟩ with
 | some (.int _ e), some (.int _ p) => if e = 0 then nc + 1 - p.toNat else 0
 | _, _ => 0
section
variable {X : Cx} {b : Nat} {W0 w : World} {R : Lx} {p o : Nat} {tv : Value} {ts : List Tk} {wr er : Int}
theorem dmeas_at (h : Rdx X b w p o tv ts wr er) : dmeas X.nc b w = if er = 0 then X.nc + 1 - p else 0 := by
 obtain ⟨_, _, c2, _, _, _, c6⟩ := h.cells
 unfold dmeas
 rw [c6, c2]
 rfl
theorem AtD.step (h : AtD X b W0 R w p o tv ts wr 0) (hp : p < X.nc) {c : Int} (hc : X.L[p]? = some c) (hnb : ¬ (c = 32 ∨ c = 9)) {e : Ending} {w2 : World} (hs : StepD X b w p o ts wr (stepS o ts c (X.L.drop (p + 1))) e w2) :
  e = .returned (.tuple #[]) ∧ ∃ p' o' tv' ts' wr' er', AtD X b W0 R w2 p' o' tv' ts' wr' er' ∧ dmeas X.nc b w2 < X.nc + 1 - p := by
 obtain ⟨hl, h1, h2, h3⟩ := h.live rfl
 rw [drop_at hc, W.lexS_step hnb] at hl
 obtain ⟨he, hb, hm⟩ := hs
 refine ⟨he, ?_⟩
 cases hst : stepS o ts c (X.L.drop (p + 1)) with
 | tok k x lo hi m =>
  rw [hst] at hl hm
  obtain ⟨tv', hr⟩ := hm
  simp only at hl
  rw [List.drop_drop, show p + 1 + m = p + m + 1 by omega] at hl
  have h4 := opn_le k o
  refine ⟨p + m + 1, opn k o, tv', _, wr, 0, ⟨hr, h.bel.trans hb, fun _ => ⟨hl, by omega, by simp; omega, fun _ => by simp⟩, fun h => absurd rfl h⟩, ?_⟩
  rw [dmeas_at hr, if_pos rfl]
  omega
 | skip m =>
  rw [hst] at hl hm
  obtain ⟨tv', hr⟩ := hm
  simp only at hl
  rw [List.drop_drop, show p + 1 + m = p + m + 1 by omega] at hl
  refine ⟨p + m + 1, o, tv', _, wr, 0, ⟨hr, h.bel.trans hb, fun _ => ⟨hl, by omega, by omega, h3⟩, fun h => absurd rfl h⟩, ?_⟩
  rw [dmeas_at hr, if_pos rfl]
  omega
 | bad k er =>
  rw [hst] at hl hm
  obtain ⟨p', o', tv', ts', hr⟩ := hm
  simp only at hl
  have hne : er ≠ 0 := step_err hst
  refine ⟨p', o', tv', ts', _, er, ⟨hr, h.bel.trans hb, fun h0 => absurd h0 hne, fun _ => ⟨p + k, hl.symm, rfl⟩⟩, ?_⟩
  rw [dmeas_at hr, if_neg hne]
  omega
theorem AtD.blank (h : AtD X b W0 R w p o tv ts wr 0) (hp : p < X.nc) {c : Int} (hc : X.L[p]? = some c) (hbl : c = 32 ∨ c = 9) : AtD X b W0 R (w.setCell ⟨b, 2, none⟩ (.int .i64 ((p : Int) + 1))) (p + 1) o tv ts wr 0 := by
 obtain ⟨hl, h1, h2, h3⟩ := h.live rfl
 rw [drop_at hc, W.lexS_blank hbl] at hl
 exact ⟨h.rd.at_i (by omega) (by omega), below_set h.bel (Nat.le_refl _) _, fun _ => ⟨hl, by omega, by omega, h3⟩, fun h => absurd rfl h⟩
end
end Go.Proofs.YtmohefgdpddldaaGreatDoor
namespace Go.Proofs.YtmohefgdpddldaaGreatDoor
open Go.RowKit
open W (Tk St nameS setS numT noteS charsS signK outS inS stepS opn lastK lexS Lx markB dgB ltB smB nmB many numB noLf noBl lettersB allowB allowP)
theorem dsm_iff (c : Int) : smB c = true ↔ 97 ≤ c ∧ c ≤ 122 := by unfold W.smB; exact decide_eq_true_iff
set_option maxHeartbeats 1000000 in
theorem dletters_any {w : World} {s : ByteArray} {S : List Int} (h : StrIs s S) (hn : S.length ≤ 140737488355328) :
  Calls Tryz.prog 37 #[.string s] w fun e w' => e = .returned (.bool (lettersB S)) ∧ w = w' := by
 have HS := Lib.hid h
 have hsz := h.size
 generalize hl : S.length = n at hn hsz
 have HL := Lib.hid hl
 clear h hl
 go_enter Tryz.func37, Tryz.ntmps37
 go_wp2_with fail
 go_loopw [3] (fun iv wx => ∃ k : Nat, k ≤ n ∧ iv = .int .i64 k ∧ w = wx ∧ Hid (∀ j x, j < k → S[j]? = some x → smB x = true)) (fun iv _ => n - (intOf iv).toNat)
 case atStart => exact ⟨0, by omega, rfl, by trivial, fun j x hj => by omega⟩
 case round =>
  obtain ⟨k, hk, rfl, rfl, HD⟩ := hrel
  by_cases hlt : k < n
  ·obtain ⟨x, hx⟩ : ∃ x, S[k]? = some x := ⟨S[k]'(by rw [HL.out]; exact hlt), List.getElem?_eq_getElem _⟩
   have g1 := HS.out.get hx
   obtain ⟨x0, x1⟩ := HS.out.byt x (List.mem_of_getElem? hx)
   have HX := Lib.hid hx
   clear hx
   have hlt2 : k < s.size := by omega
   by_cases hb : 97 ≤ x ∧ x ≤ 122
   ·have HD2 : Hid (∀ j y, j < k + 1 → S[j]? = some y → smB y = true) := fun j y hj hy => by
     rcases Nat.lt_or_ge j k with h1 | h1
     ·exact HD.out j y h1 hy
     ·obtain rfl : j = k := by omega
      rw [HX.out] at hy; injection hy with hy; subst hy; exact (dsm_iff x).2 hb
    obtain ⟨b1, b2⟩ := hb
    clear HD
    go_wp2_with fail
    go_roundw
    case rel => exact ⟨k + 1, by omega, by go_num, by trivial, HD2.out⟩
    case measure => simp [intOf]; omega
   ·have HF : Hid (lettersB S = false) := by
     show _ = _
     unfold W.lettersB
     have : S.all smB = false := by
      rw [← Bool.not_eq_true]
      intro h
      exact hb ((dsm_iff x).1 (List.all_eq_true.1 h x (List.mem_of_getElem? HX.out)))
     rw [this]; rfl
    have hb2 : x < 97 ∨ ¬ x < 97 ∧ 122 < x := by omega
    clear hb
    rcases hb2 with hb2 | ⟨hb2, hb3⟩
    ·go_wp2_with fail
     go_ret
     exact ⟨ret_bool HF.out.symm, rfl⟩
    ·go_wp2_with fail
     go_ret
     exact ⟨ret_bool HF.out.symm, rfl⟩
  ·obtain rfl : k = n := by omega
   have HA : Hid (lettersB S = (decide (1 ≤ k) && decide (k ≤ 16))) := by
    show _ = _
    unfold W.lettersB
    have : S.all smB = true := List.all_eq_true.2 fun x hx => by
     obtain ⟨j, hj, e⟩ := List.getElem_of_mem hx
     exact HD.out j x (by rw [← HL.out]; exact hj) (by rw [List.getElem?_eq_getElem hj, e])
    rw [this, HL.out]; rfl
   clear HD
   by_cases h1 : 1 ≤ k
   ·rw [decide_eq_true h1, Bool.true_and] at HA
    go_wp2_with fail
    go_ret
    exact ⟨ret_bool (by rw [HA.out, Bool.eq_iff_iff]; simp; try omega), rfl⟩
   ·rw [decide_eq_false h1] at HA
    obtain rfl : k = 0 := by omega
    go_wp2_with fail
    go_ret
    exact ⟨ret_bool HA.out.symm, rfl⟩

theorem allow_bd : ∀ x ∈ allowP, 0 ≤ x ∧ x < 256 := by intro x hx; simp [W.allowP] at hx; omega
theorem RdK.zero {k : IntKind} {w : World} {B : Nat} {A : Option Addr} {c : Nat} (hc : c ≤ maxLen) : RdK k w B A 0 c [] := ⟨rfl, Nat.zero_le _, hc, fun h => absurd h (by omega)⟩
section
variable {X : Cx} {b : Nat} {w : World} {p o : Nat} {tv : Value} {ts : List Tk} {wr : Int}
def LRun (q : Int → Bool) (L : List Int) (f t : Nat) : Prop := ∀ j y, f ≤ j → j < t → L[j]? = some y → q y = true
theorem LRun.step {q : Int → Bool} {L : List Int} {f t : Nat} {x : Int} (h : LRun q L f t) (hx : L[t]? = some x) (hd : q x = true) : LRun q L f (t + 1) := fun j y h1 h2 hy => by
 rcases Nat.lt_or_ge j t with h3 | h3
 ·exact h j y h1 h3 hy
 ·obtain rfl : j = t := by omega
  rw [hx] at hy; injection hy with hy; subst hy; exact hd
theorem LRun.many {q : Int → Bool} {L : List Int} {f t : Nat} (h : LRun q L f t) (hft : f ≤ t) (ht : t ≤ L.length) (he : ∀ x, L[t]? = some x → q x = false) : many q (L.drop f) = t - f :=
 W.many_at (fun j x hj hx => by rw [List.getElem?_drop] at hx; exact h (f + j) x (by omega) (by omega) hx) (by rw [List.length_drop]; omega) (fun x hx => he x (by rw [List.getElem?_drop] at hx; rwa [show f + (t - f) = t by omega] at hx))
set_option maxHeartbeats 8000000 in
theorem dnote_any (h : Rdx X b w p o tv ts wr 0) (hp : p < X.nc) (hts : ts.length ≤ 3000) (hc : X.L[p]? = some 35) :
  Calls Tryz.prog 86 #[.pointer (some ⟨b, 0, none⟩)] w (StepD X b w p o ts wr (noteS (X.L.drop p))) := by
 have HH := Lib.hid h
 obtain ⟨n1, n2, n3⟩ := h.nc
 have HN1 := Lib.hid n1
 obtain ⟨c0, c1, c2, c3, c4, c5, c6⟩ := h.cells
 have f2 := h.fr 2
 obtain ⟨bA, oA, y0, hA, hbA, _, _⟩ := h.chars.got hp
 rw [hA] at c0
 have HA := Lib.hid hA
 have hcc : X.nc ≤ X.cc := h.chars.cap
 have hpp : (p : Int) < 3000 := by omega
 have HCP := Lib.hid hc
 generalize hr : noteS (X.L.drop p) = r
 have HR := Lib.hid hr
 clear h hA hr n1 n3 hc
 go_enter Tryz.func86, Tryz.ntmps86
 go_wp2_with fail
 go_quiet (fail)
 have HB0 : Hid (Below b w (w.drewN nq)) := kbelow_drewN (Below.refl b w) nq
 have HH0 := Lib.hid (HH.out.drewN nq)
 clear HH c0 c1 c2 c3 c4 c5 c6 f2
 generalize w.drewN nq = W0 at *
 have HH := HH0
 clear HH0
 obtain ⟨c0, c1, c2, c3, c4, c5, c6⟩ := HH.out.cells
 rw [HA.out] at c0
 have f2 := HH.out.fr 2
 go_wp2_with fail
 go_loopw [3] (fun tv2 wx => ∃ t : Nat, p ≤ t ∧ t ≤ X.nc ∧ tv2 = .int .i64 t ∧ W0 = wx ∧ Hid (LRun noLf X.L p t)) (fun tv2 _ => X.nc - (intOf tv2).toNat)
 case atStart => exact ⟨p, by omega, by omega, by go_num, by trivial, fun j y h1 h2 => by omega⟩
 case round =>
  obtain ⟨t, ht1, ht2, rfl, rfl, HU⟩ := hrel
  by_cases hlt : t < X.nc
  ·obtain ⟨b1, o1, y, hA1, _, hy, hcy⟩ := HH.out.chars.got hlt
   rw [HA.out] at hA1
   injection hA1 with hA1; injection hA1 with e1 e2 _; subst e1 e2
   have HY := Lib.hid hy
   clear hy
   by_cases h10 : y = 10
   ·subst h10
    have HM : Hid (many noLf (X.L.drop p) = t - p) := HU.out.many ht1 (by rw [HN1.out]; exact ht2) (fun z hz => by rw [HY.out] at hz; injection hz with hz; subst hz; decide)
    have hpt : p < t := by
     rcases Nat.lt_or_ge p t with h1 | h1
     ·exact h1
     ·obtain rfl : p = t := by omega
      have := HCP.out; rw [HY.out] at this; cases this
    have HRx := Lib.hid (HH.out.at_ (q := t) ht2)
    have HBx : Hid (Below b w (W0.setCell ⟨b, 2, none⟩ (.int .i64 t))) := HB0.out.setCell (p := ⟨b, 2, none⟩) (Nat.le_refl _) _
    obtain ⟨l, hl⟩ : ∃ l, l = (X.L.drop p).take (t - p) := ⟨_, rfl⟩
    have HLN : Hid (l.length = t - p) := by show _ = _; rw [hl, List.length_take, List.length_drop, HN1.out]; omega
    have HRK : Hid (RdK .i64 (W0.setCell ⟨b, 2, none⟩ (.int .i64 t)) b (some ⟨bA, oA + p, none⟩) (t - p) (X.cc - p) l) := by
     have h1 := HRx.out.chars
     rw [HA.out] at h1
     show RdK _ _ _ _ _ _ _
     rw [hl]
     exact RdK.mid h1 (lo := p) (m := t - p) (by omega)
    have HTW : Hid ((X.L.drop p).takeWhile noLf = l) := by show _ = _; rw [← W.take_many, HM.out, hl]
    have HR1 : Hid (r = if l.take 7 = allowP then (match allowB (l.drop 7) with | some x => .tok 19 x.1 x.2 0 (t - p - 1) | none => .bad 0 4) else .skip (t - p - 1)) := by
     show _ = _
     rw [← HR.out]
     unfold W.noteS
     rw [HTW.out, HM.out]
     rfl
    have HOK : Hid (∀ x ∈ l, 0 ≤ x) := fun x hx => by
     rw [hl] at hx
     have h1 := ok_isC HH.out.ok.1 x (List.mem_of_mem_drop (List.mem_of_mem_take hx))
     unfold Q.isC at h1
     have := of_decide_eq_true h1
     omega
    go_upto_region 5 with (fail)
    change Code.wp _ _ _ _ (W0.setCell ⟨b, 2, none⟩ (.int .i64 t))
    clear c0 c1 c2 c3 c4 c5 c6 f2 HR HTW HM HB0 HH hl
    generalize W0.setCell ⟨b, 2, none⟩ (.int .i64 t) = W4 at *
    have hcl : t - p ≤ X.cc - p := by omega
    have hn1 : 1 ≤ t - p := by omega
    have hn3 : t - p ≤ 3000 := by omega
    obtain ⟨n, hn⟩ : ∃ n, t - p = n := ⟨_, rfl⟩
    rw [hn] at HR1 HRK HLN hcl hn1 hn3 ⊢
    generalize X.cc - p = cl at *
    generalize oA + p = ol at *
    have HN : Hid (t = p + n) := by show _ = _; omega
    clear hn hpt hcc ht1
    by_cases hn7 : n < 7
    ·have HSK : Hid (r = .skip (n - 1)) := by
      show _ = _
      rw [HR1.out, if_neg]
      intro h
      have := congrArg List.length h
      rw [List.length_take, HLN.out] at this
      have e : allowP.length = 7 := rfl
      omega
     have hn7i : (n : Int) < 7 := by omega
     clear HR1
     have HE : Hid (StepD X b w p o ts wr r (.returned (.tuple #[])) W4) := by
      show StepD _ _ _ _ _ _ _ _ _ _
      rw [HSK.out]
      refine ⟨rfl, HBx.out, tv, ?_⟩
      rw [show p + (n - 1) + 1 = t by have := HN.out; omega]
      exact HRx.out
     clear HSK HRx HBx HRK
     go_wp2_with fail
     exact bodyPost_ret (v := .tuple #[]) (by simp [results, Tryz.results86, go_sem]) rfl HE.out
    ·have hn7i : ¬ (n : Int) < 7 := by omega
     have HRK7 : Hid (RdK .i64 W4 b (some ⟨bA, ol, none⟩) 7 cl (l.take 7)) := HRK.out.take (by omega)
     have HAC := Lib.hid (dascii_any HRK7.out (by omega))
     have HX0 : Hid (∀ x ∈ l.take 7, 0 ≤ x) := fun x hx => HOK.out x (List.mem_of_mem_take hx)
     cases has : (l.take 7).all (fun x => decide (x < 128)) with
     | false =>
      have HSK : Hid (r = .skip (n - 1)) := by
       show _ = _
       rw [HR1.out, if_neg]
       intro h
       rw [h] at has
       exact absurd has (by decide)
      rw [has] at HAC
      clear has HR1
      go_wp2_with fail
      refine HAC.out.mono ?_
      rintro e w5 ⟨rfl, rfl⟩
      have HE : Hid (StepD X b w p o ts wr r (.returned (.tuple #[])) W4) := by
       show StepD _ _ _ _ _ _ _ _ _ _
       rw [HSK.out]
       refine ⟨rfl, HBx.out, tv, ?_⟩
       rw [show p + (n - 1) + 1 = t by have := HN.out; omega]
       exact HRx.out
      clear HSK HRx HBx HRK
      go_wp2_with fail
      exact bodyPost_ret (v := .tuple #[]) (by simp [results, Tryz.results86, go_sem]) rfl HE.out
     | true =>
      have HL7 : Hid (∀ x ∈ l.take 7, 0 ≤ x ∧ x < 128) := fun x hx => ⟨HX0.out x hx, of_decide_eq_true (List.all_eq_true.1 has x hx)⟩
      have HTC := Lib.hid (dtext_any HRK7.out (Nat.le_of_lt HRx.out.size) (by omega) HL7.out)
      rw [has] at HAC
      clear has
      go_wp2_with fail
      refine HAC.out.mono ?_
      rintro e w5 ⟨rfl, rfl⟩
      go_wp2_with fail
      refine HTC.out.mono ?_
      rintro e W5 ⟨rfl, hb5⟩
      have hb5' := hb5.mono (Nat.le_of_lt HRx.out.size)
      have HR5 := Lib.hid (HRx.out.below hb5)
      have HB5 := Lib.hid (HBx.out.trans hb5')
      have HK5 : Hid (RdK .i64 W5 b (some ⟨bA, ol, none⟩) n cl l) := HRK.out.keep (fun a ha => hb5'.cell ha)
      clear HRx HBx HRK hb5 hb5' HTC HAC HRK7
      have HRx := HR5
      have HBx := HB5
      have HRK := HK5
      clear HR5 HB5 HK5
      by_cases h7 : l.take 7 = allowP
      ·have HR2 : Hid (r = (match allowB (l.drop 7) with | some x => .tok 19 x.1 x.2 0 (n - 1) | none => .bad 0 4)) := by show _ = _; rw [HR1.out, if_pos h7]
       rw [h7, show strOfNums allowP = ⟨#[35, 97, 108, 108, 111, 119, 32]⟩ from rfl]
       clear h7 HR1 HX0 HL7 HOK
       go_wp2_with fail
       go_loopw [5] (fun kv wx => ∃ k : Nat, 7 ≤ k ∧ k ≤ n ∧ kv = .int .i64 k ∧ W5 = wx ∧ Hid (LRun smB l 7 k)) (fun kv _ => n - (intOf kv).toNat)
       case atStart => exact ⟨7, by omega, by omega, by go_num, by trivial, fun j y h1 h2 => by omega⟩
       case round =>
        obtain ⟨k, hk7, hkn, rfl, rfl, HV⟩ := hrel
        by_cases hlt2 : k < n
        ·obtain ⟨b2, o2, y, hA2, _, hy2, hcy⟩ := HRK.out.got hlt2
         injection hA2 with hA2; injection hA2 with e1 e2 _; subst e1 e2
         have HY := Lib.hid hy2
         clear hy2
         by_cases hy97 : 97 ≤ y
         ·by_cases hy122 : y ≤ 122
          ·have HV2 := Lib.hid (HV.out.step HY.out ((dsm_iff y).2 ⟨hy97, hy122⟩))
           clear HV HY
           go_wp2_with fail
           go_roundw
           case rel => exact ⟨k + 1, by omega, by omega, by go_num, by trivial, HV2.out⟩
           case measure => simp [intOf]; omega
          ·have HAL : Hid (allowB (l.drop 7) = _) := W.allow_is (l := l.drop 7) (k := k - 7) (HV.out.many hk7 (by rw [HLN.out]; exact hkn) (fun x hx => by rw [HY.out] at hx; injection hx with hx; subst hx; rw [← Bool.not_eq_true, dsm_iff]; omega))
           obtain ⟨xs, hxs⟩ : ∃ xs, xs = (l.drop 7).take (k - 7) := ⟨_, rfl⟩
           have HXS : Hid (∀ x ∈ xs, smB x = true) := fun x hx => by
            rw [hxs] at hx
            obtain ⟨j, hj, e⟩ := List.getElem_of_mem hx
            have hj2 := hj
            rw [List.length_take, List.length_drop] at hj2
            have h1 : ((l.drop 7).take (k - 7))[j]? = some x := by rw [List.getElem?_eq_getElem hj, e]
            rw [List.getElem?_take_of_lt (by omega), List.getElem?_drop] at h1
            exact HV.out (7 + j) x (by omega) (by omega) h1
           have hxl : xs.length = k - 7 := by rw [hxs, List.length_take, List.length_drop, HLN.out]; omega
           have HXE := Lib.hid hxs
           clear hxs
           have HRX : Hid (RdK .i64 W5 b (some ⟨bA, ol + 7, none⟩) (k - 7) (cl - 7) xs) := by
            show RdK _ _ _ _ _ _ _
            rw [HXE.out]
            exact RdK.mid HRK.out (lo := 7) (m := k - 7) (by omega)
           have hcl7 : ¬ cl = 7 := by omega
           have HLT : Hid (∀ x ∈ xs, 0 ≤ x ∧ x < 128) := fun x hx => by
            have h2 := (dsm_iff x).1 (HXS.out x hx)
            omega
           have HC := Lib.hid (dtext_any HRX.out (Nat.le_of_lt HRx.out.size) (by omega) HLT.out)
           have HST8 : Hid (StrIs (strOfNums xs) xs) := ⟨rfl, fun x hx => by have := HLT.out x hx; omega⟩
           have HXL := Lib.hid hxl
           clear HXS HRX HLT hxl
           generalize hs8 : strOfNums xs = s8 at HC HST8
           go_wp2_with fail
           refine HC.out.mono ?_
           rintro e w6 ⟨rfl, hb6⟩
           have hpt8 := kbelow_push w6 (.cells #[.int .i64 19, .string s8, .int .i64 (-1), .int .i64 0, .int .i64 0] 94)
           have HT8 := Lib.hid (heap_alloc_new w6 (.cells #[.int .i64 19, .string s8, .int .i64 (-1), .int .i64 0, .int .i64 0] 94))
           have hz5 := HRx.out.size
           have hz6 := hb6.size
           have HBs : Hid (Below b W5 (w6.alloc (.cells #[.int .i64 19, .string s8, .int .i64 (-1), .int .i64 0, .int .i64 0] 94))) := (hb6.mono (Nat.le_of_lt hz5)).trans (hpt8.mono (by omega))
           have HRt := Lib.hid ((HRx.out.below hb6).below hpt8)
           have HRS : Hid (∀ v, Rdx X b ((w6.alloc (.cells #[.int .i64 19, .string s8, .int .i64 (-1), .int .i64 0, .int .i64 0] 94)).setCell ⟨w6.heap.size, 2, none⟩ v) t o tv ts wr 0) := fun v => (HRx.out.below hb6).below (hpt8.setCell (p := ⟨w6.heap.size, 2, none⟩) (Nat.le_refl _) v)
           have HBt : Hid (Below b w (w6.alloc (.cells #[.int .i64 19, .string s8, .int .i64 (-1), .int .i64 0, .int .i64 0] 94))) := HBx.out.trans HBs.out
           have HRKt : Hid (RdK .i64 (w6.alloc (.cells #[.int .i64 19, .string s8, .int .i64 (-1), .int .i64 0, .int .i64 0] 94)) b (some ⟨bA, ol, none⟩) n cl l) := HRK.out.keep (fun a ha => HBs.out.cell ha)
           have hcyT : (w6.alloc (.cells #[.int .i64 19, .string s8, .int .i64 (-1), .int .i64 0, .int .i64 0] 94)).cell? ⟨bA, ol + k, none⟩ = some (.int .i64 y) := (HBs.out.cell (p := ⟨bA, ol + k, none⟩) hbA).trans hcy
           have gkn : ((k : Int) == (n : Int)) = false := by simp only [beq_eq_false_iff_ne]; omega
           clear hcy
           have hTB : b < w6.heap.size := by omega
           have HS8 := Lib.hid hs8
           clear hb6 hpt8 HBs HRx HBx HRK HC hz5 hz6 hs8
           go_wp2_with fail
           change Calls _ _ _ (w6.alloc (.cells #[.int .i64 19, .string s8, .int .i64 (-1), .int .i64 0, .int .i64 0] 94)) _
           generalize (w6.alloc (.cells #[.int .i64 19, .string s8, .int .i64 (-1), .int .i64 0, .int .i64 0] 94)) = Wt at *
           generalize w6.heap.size = TB at *
           obtain ⟨k0, k1, k2, k3, k4⟩ := cells5 HT8.out
           have fT : ∀ j, Wt.frozen? ⟨TB, j, none⟩ = false := fun j => frozen_of_row _ _ _ _ _ HT8.out
           have HRx := HRt
           have HBx := HBt
           have HRK := HRKt
           clear HRt HBt HRKt
           have HLC := Lib.hid (dletters_any (w := Wt) HST8.out (by have := HXL.out; omega))
           cases hlb : lettersB xs with
           | false =>
            have HBAD : Hid (r = .bad 0 4) := by
             show _ = _
             have hlb' : lettersB ((l.drop 7).take (k - 7)) = false := by rw [← HXE.out]; exact hlb
             rw [HR2.out, HAL.out, if_neg (by rw [hlb']; intro h; cases h.1)]
            rw [hlb] at HLC
            clear hlb
            refine HLC.out.mono ?_
            rintro e w7 ⟨rfl, rfl⟩
            clear HLC HRK
            go_wp2_with fail
            refine (dfail_any HRx.out (i := p) (Nat.le_of_lt hp) 4).mono ?_
            rintro e w9 ⟨rfl, hR9, hb9⟩
            rw [if_pos rfl, if_pos rfl] at hR9
            have HE : Hid (StepD X b w p o ts wr r (.returned (.tuple #[])) w9) := by
             show StepD _ _ _ _ _ _ _ _ _ _
             rw [HBAD.out]
             exact stepD_bad (k := 0) hR9 (HBx.out.trans hb9)
            clear hR9 hb9 HBAD HRx HBx
            go_wp2_with fail
            exact bodyPost_ret (v := .tuple #[]) (by simp [results, Tryz.results86, go_sem]) rfl HE.out
           | true =>
            have HLB : Hid (lettersB ((l.drop 7).take (k - 7)) = true) := by show _ = _; rw [← HXE.out]; exact hlb
            rw [hlb] at HLC
            clear hlb
            refine HLC.out.mono ?_
            rintro e w7 ⟨rfl, rfl⟩
            clear HLC
            have hy32 : y ≠ 32 := by omega
            have g32 : (y == 32) = false := by simpa using hy32
            have HBAD : Hid (r = .bad 0 4) := by
             show _ = _
             rw [HR2.out, HAL.out, if_neg (by
              rintro ⟨_, h⟩
              rcases h with h | h
              ·rw [List.length_drop, HLN.out] at h; omega
              ·have h2 := h.1
               rw [List.getElem?_drop, show 7 + (k - 7) = k by omega, HY.out] at h2
               injection h2 with h2; exact hy32 h2)]
            clear HLB HT8 hy32
            go_wp2_with fail
            refine (dfail_any HRx.out (i := p) (Nat.le_of_lt hp) 4).mono ?_
            rintro e w9 ⟨rfl, hR9, hb9⟩
            rw [if_pos rfl, if_pos rfl] at hR9
            have HE : Hid (StepD X b w p o ts wr r (.returned (.tuple #[])) w9) := by
             show StepD _ _ _ _ _ _ _ _ _ _
             rw [HBAD.out]
             exact stepD_bad (k := 0) hR9 (HBx.out.trans hb9)
            clear hR9 hb9 HBAD HRx HBx
            go_wp2_with fail
            exact bodyPost_ret (v := .tuple #[]) (by simp [results, Tryz.results86, go_sem]) rfl HE.out
         ·have HAL : Hid (allowB (l.drop 7) = _) := W.allow_is (l := l.drop 7) (k := k - 7) (HV.out.many hk7 (by rw [HLN.out]; exact hkn) (fun x hx => by rw [HY.out] at hx; injection hx with hx; subst hx; rw [← Bool.not_eq_true, dsm_iff]; omega))
          obtain ⟨xs, hxs⟩ : ∃ xs, xs = (l.drop 7).take (k - 7) := ⟨_, rfl⟩
          have HXS : Hid (∀ x ∈ xs, smB x = true) := fun x hx => by
           rw [hxs] at hx
           obtain ⟨j, hj, e⟩ := List.getElem_of_mem hx
           have hj2 := hj
           rw [List.length_take, List.length_drop] at hj2
           have h1 : ((l.drop 7).take (k - 7))[j]? = some x := by rw [List.getElem?_eq_getElem hj, e]
           rw [List.getElem?_take_of_lt (by omega), List.getElem?_drop] at h1
           exact HV.out (7 + j) x (by omega) (by omega) h1
          have hxl : xs.length = k - 7 := by rw [hxs, List.length_take, List.length_drop, HLN.out]; omega
          have HXE := Lib.hid hxs
          clear hxs
          have HRX : Hid (RdK .i64 W5 b (some ⟨bA, ol + 7, none⟩) (k - 7) (cl - 7) xs) := by
           show RdK _ _ _ _ _ _ _
           rw [HXE.out]
           exact RdK.mid HRK.out (lo := 7) (m := k - 7) (by omega)
          have hcl7 : ¬ cl = 7 := by omega
          have HLT : Hid (∀ x ∈ xs, 0 ≤ x ∧ x < 128) := fun x hx => by
           have h2 := (dsm_iff x).1 (HXS.out x hx)
           omega
          have HC := Lib.hid (dtext_any HRX.out (Nat.le_of_lt HRx.out.size) (by omega) HLT.out)
          have HST8 : Hid (StrIs (strOfNums xs) xs) := ⟨rfl, fun x hx => by have := HLT.out x hx; omega⟩
          have HXL := Lib.hid hxl
          clear HXS HRX HLT hxl
          generalize hs8 : strOfNums xs = s8 at HC HST8
          go_wp2_with fail
          refine HC.out.mono ?_
          rintro e w6 ⟨rfl, hb6⟩
          have hpt8 := kbelow_push w6 (.cells #[.int .i64 19, .string s8, .int .i64 (-1), .int .i64 0, .int .i64 0] 94)
          have HT8 := Lib.hid (heap_alloc_new w6 (.cells #[.int .i64 19, .string s8, .int .i64 (-1), .int .i64 0, .int .i64 0] 94))
          have hz5 := HRx.out.size
          have hz6 := hb6.size
          have HBs : Hid (Below b W5 (w6.alloc (.cells #[.int .i64 19, .string s8, .int .i64 (-1), .int .i64 0, .int .i64 0] 94))) := (hb6.mono (Nat.le_of_lt hz5)).trans (hpt8.mono (by omega))
          have HRt := Lib.hid ((HRx.out.below hb6).below hpt8)
          have HRS : Hid (∀ v, Rdx X b ((w6.alloc (.cells #[.int .i64 19, .string s8, .int .i64 (-1), .int .i64 0, .int .i64 0] 94)).setCell ⟨w6.heap.size, 2, none⟩ v) t o tv ts wr 0) := fun v => (HRx.out.below hb6).below (hpt8.setCell (p := ⟨w6.heap.size, 2, none⟩) (Nat.le_refl _) v)
          have HBt : Hid (Below b w (w6.alloc (.cells #[.int .i64 19, .string s8, .int .i64 (-1), .int .i64 0, .int .i64 0] 94))) := HBx.out.trans HBs.out
          have HRKt : Hid (RdK .i64 (w6.alloc (.cells #[.int .i64 19, .string s8, .int .i64 (-1), .int .i64 0, .int .i64 0] 94)) b (some ⟨bA, ol, none⟩) n cl l) := HRK.out.keep (fun a ha => HBs.out.cell ha)
          have hcyT : (w6.alloc (.cells #[.int .i64 19, .string s8, .int .i64 (-1), .int .i64 0, .int .i64 0] 94)).cell? ⟨bA, ol + k, none⟩ = some (.int .i64 y) := (HBs.out.cell (p := ⟨bA, ol + k, none⟩) hbA).trans hcy
          have gkn : ((k : Int) == (n : Int)) = false := by simp only [beq_eq_false_iff_ne]; omega
          clear hcy
          have hTB : b < w6.heap.size := by omega
          have HS8 := Lib.hid hs8
          clear hb6 hpt8 HBs HRx HBx HRK HC hz5 hz6 hs8
          go_wp2_with fail
          change Calls _ _ _ (w6.alloc (.cells #[.int .i64 19, .string s8, .int .i64 (-1), .int .i64 0, .int .i64 0] 94)) _
          generalize (w6.alloc (.cells #[.int .i64 19, .string s8, .int .i64 (-1), .int .i64 0, .int .i64 0] 94)) = Wt at *
          generalize w6.heap.size = TB at *
          obtain ⟨k0, k1, k2, k3, k4⟩ := cells5 HT8.out
          have fT : ∀ j, Wt.frozen? ⟨TB, j, none⟩ = false := fun j => frozen_of_row _ _ _ _ _ HT8.out
          have HRx := HRt
          have HBx := HBt
          have HRK := HRKt
          clear HRt HBt HRKt
          have HLC := Lib.hid (dletters_any (w := Wt) HST8.out (by have := HXL.out; omega))
          cases hlb : lettersB xs with
          | false =>
           have HBAD : Hid (r = .bad 0 4) := by
            show _ = _
            have hlb' : lettersB ((l.drop 7).take (k - 7)) = false := by rw [← HXE.out]; exact hlb
            rw [HR2.out, HAL.out, if_neg (by rw [hlb']; intro h; cases h.1)]
           rw [hlb] at HLC
           clear hlb
           refine HLC.out.mono ?_
           rintro e w7 ⟨rfl, rfl⟩
           clear HLC HRK
           go_wp2_with fail
           refine (dfail_any HRx.out (i := p) (Nat.le_of_lt hp) 4).mono ?_
           rintro e w9 ⟨rfl, hR9, hb9⟩
           rw [if_pos rfl, if_pos rfl] at hR9
           have HE : Hid (StepD X b w p o ts wr r (.returned (.tuple #[])) w9) := by
            show StepD _ _ _ _ _ _ _ _ _ _
            rw [HBAD.out]
            exact stepD_bad (k := 0) hR9 (HBx.out.trans hb9)
           clear hR9 hb9 HBAD HRx HBx
           go_wp2_with fail
           exact bodyPost_ret (v := .tuple #[]) (by simp [results, Tryz.results86, go_sem]) rfl HE.out
          | true =>
           have HLB : Hid (lettersB ((l.drop 7).take (k - 7)) = true) := by show _ = _; rw [← HXE.out]; exact hlb
           rw [hlb] at HLC
           clear hlb
           refine HLC.out.mono ?_
           rintro e w7 ⟨rfl, rfl⟩
           clear HLC
           by_cases hy32 : y = 32
           ·subst hy32
            by_cases hk1 : k + 1 < n
            ·obtain ⟨b3, o3, y2, hA3, _, hy2, hcy2⟩ := HRK.out.got hk1
             injection hA3 with hA3; injection hA3 with e3 e4 _; subst e3 e4
             have HY2 := Lib.hid hy2
             clear hy2
             have HDC := Lib.hid (ddigit_any y2 Wt)
             cases hd2 : dgB y2 with
             | false =>
              have HBAD : Hid (r = .bad 0 4) := by
               show _ = _
               rw [HR2.out, HAL.out, if_neg (by
                rintro ⟨_, h⟩
                rcases h with h | h
                ·rw [List.length_drop, HLN.out] at h; omega
                ·have h2 := h.2.1
                 rw [List.drop_drop, show 7 + (k - 7 + 1) = k + 1 by omega, W.num_none (W.many_at (k := 0) (fun j x hj => by omega) (Nat.zero_le _) (fun x hx => by rw [List.getElem?_drop] at hx; rw [show k + 1 + 0 = k + 1 from rfl, HY2.out] at hx; injection hx with hx; subst hx; exact hd2))] at h2
                 cases h2)]
              rw [hd2] at HDC
              clear hd2 HLB HT8
              go_wp2_with fail
              refine HDC.out.mono ?_
              rintro e w7 ⟨rfl, rfl⟩
              clear HDC
              go_wp2_with fail
              refine (dfail_any HRx.out (i := p) (Nat.le_of_lt hp) 4).mono ?_
              rintro e w9 ⟨rfl, hR9, hb9⟩
              rw [if_pos rfl, if_pos rfl] at hR9
              have HE : Hid (StepD X b w p o ts wr r (.returned (.tuple #[])) w9) := by
               show StepD _ _ _ _ _ _ _ _ _ _
               rw [HBAD.out]
               exact stepD_bad (k := 0) hR9 (HBx.out.trans hb9)
              clear hR9 hb9 HBAD HRx HBx
              go_wp2_with fail
              exact bodyPost_ret (v := .tuple #[]) (by simp [results, Tryz.results86, go_sem]) rfl HE.out
             | true =>
              have HNC := Lib.hid (dnumber_any HRK.out (by omega) HY2.out hd2)
              rw [hd2] at HDC
              clear hd2
              obtain ⟨R, hR⟩ : ∃ R, numB (l.drop (k + 1)) = R := ⟨_, rfl⟩
              rw [hR] at HNC
              have HAL2 : Hid (allowB (l.drop 7) = if R.2.2 = 0 ∧ R.2.1 = n - (k + 1) then some (xs, R.1) else none) := by
               show _ = _
               rw [HAL.out]
               have e1 : (l.drop 7).drop (k - 7 + 1) = l.drop (k + 1) := by rw [List.drop_drop]; congr 1; omega
               have e2 : ¬ k - 7 = (l.drop 7).length := by rw [List.length_drop, HLN.out]; omega
               have e3 : (l.drop 7)[k - 7]? = some 32 := by rw [List.getElem?_drop, show 7 + (k - 7) = k by omega]; exact HY.out
               rw [e1, hR, if_neg e2, ← HXE.out]
               have e4 : (l.drop (k + 1)).length = n - (k + 1) := by rw [List.length_drop, HLN.out]
               rw [e4]
               by_cases hc : R.2.2 = 0 ∧ R.2.1 = n - (k + 1)
               ·rw [if_pos hc, if_pos ⟨by rw [HXE.out]; exact HLB.out, .inr ⟨e3, hc.1, hc.2⟩⟩]
               ·rw [if_neg hc, if_neg]
                rintro ⟨_, h | h⟩
                ·exact e2 h
                ·exact hc h.2
              clear HAL HLB
              have hkk : ((k + 1 : Nat) : Int) = (k : Int) + 1 := by omega
              rw [hkk] at HNC
              clear hkk hR
              go_wp2_with fail
              refine HDC.out.mono ?_
              rintro e w7 ⟨rfl, rfl⟩
              clear HDC
              go_wp2_with fail
              refine HNC.out.mono ?_
              rintro e w7 ⟨rfl, x9, t9, rfl, ht9, hx9⟩
              have HX9 := Lib.hid hx9
              clear HNC hx9
              have HRs : Hid (Rdx X b (Wt.setCell ⟨TB, 2, none⟩ (.int .i64 x9)) t o tv ts wr 0) := HRS.out _
              have HBs : Hid (Below b w (Wt.setCell ⟨TB, 2, none⟩ (.int .i64 x9))) := HBx.out.setCell (p := ⟨TB, 2, none⟩) (Nat.le_of_lt hTB) _
              have HTs : Hid ((Wt.setCell ⟨TB, 2, none⟩ (.int .i64 x9)).heap[TB]? = some (.cells #[.int .i64 19, .string s8, .int .i64 x9, .int .i64 0, .int .i64 0] 94 (0, 0))) := by
               show _ = _
               rw [heap_setCell_same _ _ _ _ _ _ HT8.out]; rfl
              go_upto_region 14 with (fail)
              change Code.wp _ _ _ _ (Wt.setCell ⟨TB, 2, none⟩ (.int .i64 x9))
              clear k0 k1 k2 k3 k4 fT HT8 HRx HBx HRK hcy2
              generalize Wt.setCell ⟨TB, 2, none⟩ (.int .i64 x9) = Ws at *
              obtain ⟨k0, k1, k2, k3, k4⟩ := cells5 HTs.out
              have HRx := HRs
              have HBx := HBs
              clear HRs HBs HTs
              by_cases he0 : R.2.2 = 0
              ·obtain ⟨hx0, ht0⟩ := HX9.out he0
               by_cases hte : t9 = n
               ·have HGOOD : Hid (r = .tok 19 xs x9 0 (n - 1)) := by
                 show _ = _
                 rw [HR2.out, HAL2.out, if_pos ⟨he0, by omega⟩, hx0]
                have HXF : strOfNums xs = s8 := HS8.out
                subst HXF
                rw [he0]
                have htn : ((t9 : Int) == (n : Int)) = true := by rw [hte]; simp
                clear HAL2 HX9 hx0 ht0 he0 hte
                go_wp2_with fail
                refine (dput_any HRx.out 19 x9 0 0 xs (i := p) (Nat.le_of_lt hp) hts).mono ?_
                rintro e w9 ⟨rfl, ⟨tv9, hR9⟩, hb9⟩
                have HE : Hid (StepD X b w p o ts wr r (.returned (.tuple #[])) w9) := by
                 show StepD _ _ _ _ _ _ _ _ _ _
                 rw [HGOOD.out]
                 refine ⟨rfl, HBx.out.trans hb9, tv9, ?_⟩
                 rw [show p + (n - 1) + 1 = t by have := HN.out; omega]
                 exact hR9
                clear hR9 hb9 HGOOD HRx HBx
                go_wp2_with fail
                exact bodyPost_ret (v := .tuple #[]) (by simp [results, Tryz.results86, go_sem]) rfl HE.out
               ·have HBAD : Hid (r = .bad 0 4) := by
                 show _ = _
                 rw [HR2.out, HAL2.out, if_neg (by rintro ⟨_, h⟩; omega)]
                have g9 : ((t9 : Int) == (n : Int)) = false := by simp only [beq_eq_false_iff_ne]; omega
                rw [he0]
                clear HAL2 HX9 hx0 ht0 he0 hte
                go_wp2_with fail
                refine (dfail_any HRx.out (i := p) (Nat.le_of_lt hp) 4).mono ?_
                rintro e w9 ⟨rfl, hR9, hb9⟩
                rw [if_pos rfl, if_pos rfl] at hR9
                have HE : Hid (StepD X b w p o ts wr r (.returned (.tuple #[])) w9) := by
                 show StepD _ _ _ _ _ _ _ _ _ _
                 rw [HBAD.out]
                 exact stepD_bad (k := 0) hR9 (HBx.out.trans hb9)
                clear hR9 hb9 HBAD HRx HBx
                go_wp2_with fail
                exact bodyPost_ret (v := .tuple #[]) (by simp [results, Tryz.results86, go_sem]) rfl HE.out
              ·have HBAD : Hid (r = .bad 0 4) := by
                show _ = _
                rw [HR2.out, HAL2.out, if_neg (by rintro ⟨h, _⟩; exact he0 h)]
               have g9 : (R.2.2 == 0) = false := by simpa using he0
               clear HAL2 HX9 he0
               generalize R.2.2 = e9 at *
               go_wp2_with fail
               refine (dfail_any HRx.out (i := p) (Nat.le_of_lt hp) 4).mono ?_
               rintro e w9 ⟨rfl, hR9, hb9⟩
               rw [if_pos rfl, if_pos rfl] at hR9
               have HE : Hid (StepD X b w p o ts wr r (.returned (.tuple #[])) w9) := by
                show StepD _ _ _ _ _ _ _ _ _ _
                rw [HBAD.out]
                exact stepD_bad (k := 0) hR9 (HBx.out.trans hb9)
               clear hR9 hb9 HBAD HRx HBx
               go_wp2_with fail
               exact bodyPost_ret (v := .tuple #[]) (by simp [results, Tryz.results86, go_sem]) rfl HE.out
            ·skip
             have HBAD : Hid (r = .bad 0 4) := by
              show _ = _
              rw [HR2.out, HAL.out, if_neg (by
               rintro ⟨_, h⟩
               rcases h with h | h
               ·rw [List.length_drop, HLN.out] at h; omega
               ·have h2 := h.2.1
                have e0 : (l.drop 7).drop (k - 7 + 1) = [] := List.drop_eq_nil_of_le (by rw [List.length_drop, HLN.out]; omega)
                rw [e0] at h2
                cases h2)]
             have hk1i : ¬ (k : Int) + 1 < (n : Int) := by omega
             clear HLB HT8 hk1
             go_wp2_with fail
             refine (dfail_any HRx.out (i := p) (Nat.le_of_lt hp) 4).mono ?_
             rintro e w9 ⟨rfl, hR9, hb9⟩
             rw [if_pos rfl, if_pos rfl] at hR9
             have HE : Hid (StepD X b w p o ts wr r (.returned (.tuple #[])) w9) := by
              show StepD _ _ _ _ _ _ _ _ _ _
              rw [HBAD.out]
              exact stepD_bad (k := 0) hR9 (HBx.out.trans hb9)
             clear hR9 hb9 HBAD HRx HBx
             go_wp2_with fail
             exact bodyPost_ret (v := .tuple #[]) (by simp [results, Tryz.results86, go_sem]) rfl HE.out
           ·have g32 : (y == 32) = false := by simpa using hy32
            have HBAD : Hid (r = .bad 0 4) := by
             show _ = _
             rw [HR2.out, HAL.out, if_neg (by
              rintro ⟨_, h⟩
              rcases h with h | h
              ·rw [List.length_drop, HLN.out] at h; omega
              ·have h2 := h.1
               rw [List.getElem?_drop, show 7 + (k - 7) = k by omega, HY.out] at h2
               injection h2 with h2; exact hy32 h2)]
            clear HLB HT8 hy32
            go_wp2_with fail
            refine (dfail_any HRx.out (i := p) (Nat.le_of_lt hp) 4).mono ?_
            rintro e w9 ⟨rfl, hR9, hb9⟩
            rw [if_pos rfl, if_pos rfl] at hR9
            have HE : Hid (StepD X b w p o ts wr r (.returned (.tuple #[])) w9) := by
             show StepD _ _ _ _ _ _ _ _ _ _
             rw [HBAD.out]
             exact stepD_bad (k := 0) hR9 (HBx.out.trans hb9)
            clear hR9 hb9 HBAD HRx HBx
            go_wp2_with fail
            exact bodyPost_ret (v := .tuple #[]) (by simp [results, Tryz.results86, go_sem]) rfl HE.out
        ·have HAL : Hid (allowB (l.drop 7) = _) := W.allow_is (l := l.drop 7) (k := k - 7) (HV.out.many hk7 (by rw [HLN.out]; exact hkn) (fun x hx => by have := (List.getElem?_eq_some_iff.1 hx).1; rw [HLN.out] at this; omega))
         have HKE : Hid (k = n) := by show _ = _; omega
         have gkn : ((k : Int) == (n : Int)) = true := by simp only [beq_iff_eq]; omega
         obtain ⟨xs, hxs⟩ : ∃ xs, xs = (l.drop 7).take (k - 7) := ⟨_, rfl⟩
         have HXS : Hid (∀ x ∈ xs, smB x = true) := fun x hx => by
          rw [hxs] at hx
          obtain ⟨j, hj, e⟩ := List.getElem_of_mem hx
          have hj2 := hj
          rw [List.length_take, List.length_drop] at hj2
          have h1 : ((l.drop 7).take (k - 7))[j]? = some x := by rw [List.getElem?_eq_getElem hj, e]
          rw [List.getElem?_take_of_lt (by omega), List.getElem?_drop] at h1
          exact HV.out (7 + j) x (by omega) (by omega) h1
         have hxl : xs.length = k - 7 := by rw [hxs, List.length_take, List.length_drop, HLN.out]; omega
         have HXE := Lib.hid hxs
         clear hxs
         by_cases hcl7 : cl = 7
         ·subst hcl7
          obtain rfl : k = 7 := by have := HKE.out; omega
          obtain rfl : n = 7 := by omega
          clear gkn
          have HRX : Hid (RdK .i64 W5 b (some ⟨bA, ol, none⟩) 0 0 xs) := by
           show RdK _ _ _ _ _ _ _
           obtain rfl : xs = [] := List.eq_nil_of_length_eq_zero (by omega)
           exact RdK.zero (by unfold maxLen; omega)
          have HLT : Hid (∀ x ∈ xs, 0 ≤ x ∧ x < 128) := fun x hx => by
           have h2 := (dsm_iff x).1 (HXS.out x hx)
           omega
          have HC := Lib.hid (dtext_any HRX.out (Nat.le_of_lt HRx.out.size) (by omega) HLT.out)
          have HST8 : Hid (StrIs (strOfNums xs) xs) := ⟨rfl, fun x hx => by have := HLT.out x hx; omega⟩
          have HXL := Lib.hid hxl
          clear HXS HRX HLT hxl
          generalize hs8 : strOfNums xs = s8 at HC HST8
          go_wp2_with fail
          refine HC.out.mono ?_
          rintro e w6 ⟨rfl, hb6⟩
          have hpt8 := kbelow_push w6 (.cells #[.int .i64 19, .string s8, .int .i64 (-1), .int .i64 0, .int .i64 0] 94)
          have HT8 := Lib.hid (heap_alloc_new w6 (.cells #[.int .i64 19, .string s8, .int .i64 (-1), .int .i64 0, .int .i64 0] 94))
          have hz5 := HRx.out.size
          have hz6 := hb6.size
          have HBs : Hid (Below b W5 (w6.alloc (.cells #[.int .i64 19, .string s8, .int .i64 (-1), .int .i64 0, .int .i64 0] 94))) := (hb6.mono (Nat.le_of_lt hz5)).trans (hpt8.mono (by omega))
          have HRt := Lib.hid ((HRx.out.below hb6).below hpt8)
          have HRS : Hid (∀ v, Rdx X b ((w6.alloc (.cells #[.int .i64 19, .string s8, .int .i64 (-1), .int .i64 0, .int .i64 0] 94)).setCell ⟨w6.heap.size, 2, none⟩ v) t o tv ts wr 0) := fun v => (HRx.out.below hb6).below (hpt8.setCell (p := ⟨w6.heap.size, 2, none⟩) (Nat.le_refl _) v)
          have HBt : Hid (Below b w (w6.alloc (.cells #[.int .i64 19, .string s8, .int .i64 (-1), .int .i64 0, .int .i64 0] 94))) := HBx.out.trans HBs.out
          have HRKt : Hid (RdK .i64 (w6.alloc (.cells #[.int .i64 19, .string s8, .int .i64 (-1), .int .i64 0, .int .i64 0] 94)) b (some ⟨bA, ol, none⟩) 7 7 l) := HRK.out.keep (fun a ha => HBs.out.cell ha)
          have hTB : b < w6.heap.size := by omega
          have HS8 := Lib.hid hs8
          clear hb6 hpt8 HBs HRx HBx HRK HC hz5 hz6 hs8
          go_wp2_with fail
          change Calls _ _ _ (w6.alloc (.cells #[.int .i64 19, .string s8, .int .i64 (-1), .int .i64 0, .int .i64 0] 94)) _
          generalize (w6.alloc (.cells #[.int .i64 19, .string s8, .int .i64 (-1), .int .i64 0, .int .i64 0] 94)) = Wt at *
          generalize w6.heap.size = TB at *
          obtain ⟨k0, k1, k2, k3, k4⟩ := cells5 HT8.out
          have fT : ∀ j, Wt.frozen? ⟨TB, j, none⟩ = false := fun j => frozen_of_row _ _ _ _ _ HT8.out
          have HRx := HRt
          have HBx := HBt
          have HRK := HRKt
          clear HRt HBt HRKt
          have HLC := Lib.hid (dletters_any (w := Wt) HST8.out (by have := HXL.out; omega))
          cases hlb : lettersB xs with
          | false =>
           have HBAD : Hid (r = .bad 0 4) := by
            show _ = _
            have hlb' : lettersB ((l.drop 7).take (7 - 7)) = false := by rw [← HXE.out]; exact hlb
            rw [HR2.out, HAL.out, if_neg (by rw [hlb']; intro h; cases h.1)]
           rw [hlb] at HLC
           clear hlb
           refine HLC.out.mono ?_
           rintro e w7 ⟨rfl, rfl⟩
           clear HLC HRK
           go_wp2_with fail
           refine (dfail_any HRx.out (i := p) (Nat.le_of_lt hp) 4).mono ?_
           rintro e w9 ⟨rfl, hR9, hb9⟩
           rw [if_pos rfl, if_pos rfl] at hR9
           have HE : Hid (StepD X b w p o ts wr r (.returned (.tuple #[])) w9) := by
            show StepD _ _ _ _ _ _ _ _ _ _
            rw [HBAD.out]
            exact stepD_bad (k := 0) hR9 (HBx.out.trans hb9)
           clear hR9 hb9 HBAD HRx HBx
           go_wp2_with fail
           exact bodyPost_ret (v := .tuple #[]) (by simp [results, Tryz.results86, go_sem]) rfl HE.out
          | true =>
           have HLB : Hid (lettersB ((l.drop 7).take (7 - 7)) = true) := by show _ = _; rw [← HXE.out]; exact hlb
           rw [hlb] at HLC
           clear hlb
           refine HLC.out.mono ?_
           rintro e w7 ⟨rfl, rfl⟩
           clear HLC
           have HGOOD : Hid (r = .tok 19 xs (-1) 0 (7 - 1)) := by
            show _ = _
            rw [HR2.out, HAL.out, if_pos ⟨HLB.out, .inl (by rw [List.length_drop, HLN.out])⟩, HXE.out]
            show St.tok 19 _ (if 7 - 7 = (l.drop 7).length then -1 else _) 0 (7 - 1) = _
            rw [if_pos (by rw [List.length_drop, HLN.out])]
           have HXF : strOfNums xs = s8 := HS8.out
           subst HXF
           clear HRK HLB HT8
           go_wp2_with fail
           refine (dput_any HRx.out 19 (-1) 0 0 xs (i := p) (Nat.le_of_lt hp) hts).mono ?_
           rintro e w9 ⟨rfl, ⟨tv9, hR9⟩, hb9⟩
           have HE : Hid (StepD X b w p o ts wr r (.returned (.tuple #[])) w9) := by
            show StepD _ _ _ _ _ _ _ _ _ _
            rw [HGOOD.out]
            refine ⟨rfl, HBx.out.trans hb9, tv9, ?_⟩
            rw [show p + (7 - 1) + 1 = t by have := HN.out; omega]
            exact hR9
           clear hR9 hb9 HGOOD HRx HBx
           go_wp2_with fail
           exact bodyPost_ret (v := .tuple #[]) (by simp [results, Tryz.results86, go_sem]) rfl HE.out
         ·skip
          have HRX : Hid (RdK .i64 W5 b (some ⟨bA, ol + 7, none⟩) (k - 7) (cl - 7) xs) := by
           show RdK _ _ _ _ _ _ _
           rw [HXE.out]
           exact RdK.mid HRK.out (lo := 7) (m := k - 7) (by omega)
          have HLT : Hid (∀ x ∈ xs, 0 ≤ x ∧ x < 128) := fun x hx => by
           have h2 := (dsm_iff x).1 (HXS.out x hx)
           omega
          have HC := Lib.hid (dtext_any HRX.out (Nat.le_of_lt HRx.out.size) (by omega) HLT.out)
          have HST8 : Hid (StrIs (strOfNums xs) xs) := ⟨rfl, fun x hx => by have := HLT.out x hx; omega⟩
          have HXL := Lib.hid hxl
          clear HXS HRX HLT hxl
          generalize hs8 : strOfNums xs = s8 at HC HST8
          go_wp2_with fail
          refine HC.out.mono ?_
          rintro e w6 ⟨rfl, hb6⟩
          have hpt8 := kbelow_push w6 (.cells #[.int .i64 19, .string s8, .int .i64 (-1), .int .i64 0, .int .i64 0] 94)
          have HT8 := Lib.hid (heap_alloc_new w6 (.cells #[.int .i64 19, .string s8, .int .i64 (-1), .int .i64 0, .int .i64 0] 94))
          have hz5 := HRx.out.size
          have hz6 := hb6.size
          have HBs : Hid (Below b W5 (w6.alloc (.cells #[.int .i64 19, .string s8, .int .i64 (-1), .int .i64 0, .int .i64 0] 94))) := (hb6.mono (Nat.le_of_lt hz5)).trans (hpt8.mono (by omega))
          have HRt := Lib.hid ((HRx.out.below hb6).below hpt8)
          have HRS : Hid (∀ v, Rdx X b ((w6.alloc (.cells #[.int .i64 19, .string s8, .int .i64 (-1), .int .i64 0, .int .i64 0] 94)).setCell ⟨w6.heap.size, 2, none⟩ v) t o tv ts wr 0) := fun v => (HRx.out.below hb6).below (hpt8.setCell (p := ⟨w6.heap.size, 2, none⟩) (Nat.le_refl _) v)
          have HBt : Hid (Below b w (w6.alloc (.cells #[.int .i64 19, .string s8, .int .i64 (-1), .int .i64 0, .int .i64 0] 94))) := HBx.out.trans HBs.out
          have HRKt : Hid (RdK .i64 (w6.alloc (.cells #[.int .i64 19, .string s8, .int .i64 (-1), .int .i64 0, .int .i64 0] 94)) b (some ⟨bA, ol, none⟩) n cl l) := HRK.out.keep (fun a ha => HBs.out.cell ha)
          have hTB : b < w6.heap.size := by omega
          have HS8 := Lib.hid hs8
          clear hb6 hpt8 HBs HRx HBx HRK HC hz5 hz6 hs8
          go_wp2_with fail
          change Calls _ _ _ (w6.alloc (.cells #[.int .i64 19, .string s8, .int .i64 (-1), .int .i64 0, .int .i64 0] 94)) _
          generalize (w6.alloc (.cells #[.int .i64 19, .string s8, .int .i64 (-1), .int .i64 0, .int .i64 0] 94)) = Wt at *
          generalize w6.heap.size = TB at *
          obtain ⟨k0, k1, k2, k3, k4⟩ := cells5 HT8.out
          have fT : ∀ j, Wt.frozen? ⟨TB, j, none⟩ = false := fun j => frozen_of_row _ _ _ _ _ HT8.out
          have HRx := HRt
          have HBx := HBt
          have HRK := HRKt
          clear HRt HBt HRKt
          have HLC := Lib.hid (dletters_any (w := Wt) HST8.out (by have := HXL.out; omega))
          cases hlb : lettersB xs with
          | false =>
           have HBAD : Hid (r = .bad 0 4) := by
            show _ = _
            have hlb' : lettersB ((l.drop 7).take (k - 7)) = false := by rw [← HXE.out]; exact hlb
            rw [HR2.out, HAL.out, if_neg (by rw [hlb']; intro h; cases h.1)]
           rw [hlb] at HLC
           clear hlb
           refine HLC.out.mono ?_
           rintro e w7 ⟨rfl, rfl⟩
           clear HLC HRK
           go_wp2_with fail
           refine (dfail_any HRx.out (i := p) (Nat.le_of_lt hp) 4).mono ?_
           rintro e w9 ⟨rfl, hR9, hb9⟩
           rw [if_pos rfl, if_pos rfl] at hR9
           have HE : Hid (StepD X b w p o ts wr r (.returned (.tuple #[])) w9) := by
            show StepD _ _ _ _ _ _ _ _ _ _
            rw [HBAD.out]
            exact stepD_bad (k := 0) hR9 (HBx.out.trans hb9)
           clear hR9 hb9 HBAD HRx HBx
           go_wp2_with fail
           exact bodyPost_ret (v := .tuple #[]) (by simp [results, Tryz.results86, go_sem]) rfl HE.out
          | true =>
           have HLB : Hid (lettersB ((l.drop 7).take (k - 7)) = true) := by show _ = _; rw [← HXE.out]; exact hlb
           rw [hlb] at HLC
           clear hlb
           refine HLC.out.mono ?_
           rintro e w7 ⟨rfl, rfl⟩
           clear HLC
           have HGOOD : Hid (r = .tok 19 xs (-1) 0 (n - 1)) := by
            show _ = _
            rw [HR2.out, HAL.out, if_pos ⟨HLB.out, .inl (by rw [List.length_drop, HLN.out]; have := HKE.out; omega)⟩, HXE.out]
            show St.tok 19 _ (if k - 7 = (l.drop 7).length then -1 else _) 0 (n - 1) = _
            rw [if_pos (by rw [List.length_drop, HLN.out]; have := HKE.out; omega)]
           have HXF : strOfNums xs = s8 := HS8.out
           subst HXF
           clear HRK HLB HT8
           go_wp2_with fail
           refine (dput_any HRx.out 19 (-1) 0 0 xs (i := p) (Nat.le_of_lt hp) hts).mono ?_
           rintro e w9 ⟨rfl, ⟨tv9, hR9⟩, hb9⟩
           have HE : Hid (StepD X b w p o ts wr r (.returned (.tuple #[])) w9) := by
            show StepD _ _ _ _ _ _ _ _ _ _
            rw [HGOOD.out]
            refine ⟨rfl, HBx.out.trans hb9, tv9, ?_⟩
            rw [show p + (n - 1) + 1 = t by have := HN.out; omega]
            exact hR9
           clear hR9 hb9 HGOOD HRx HBx
           go_wp2_with fail
           exact bodyPost_ret (v := .tuple #[]) (by simp [results, Tryz.results86, go_sem]) rfl HE.out
      ·have HSK : Hid (r = .skip (n - 1)) := by show _ = _; rw [HR1.out, if_neg h7]
       have g7 : ((strOfNums (l.take 7)).toList == [35, 97, 108, 108, 111, 119, 32]) = false := by
        have e : ([35, 97, 108, 108, 111, 119, 32] : List UInt8) = (strOfNums allowP).toList := by kernel_rfl
        rw [e, str_eqB (fun x hx => by have := HL7.out x hx; omega) allow_bd]; exact decide_eq_false h7
       clear h7 HR1 HX0 HL7 HOK
       generalize strOfNums (l.take 7) = s7 at *
       have HE : Hid (StepD X b w p o ts wr r (.returned (.tuple #[])) W5) := by
        show StepD _ _ _ _ _ _ _ _ _ _
        rw [HSK.out]
        refine ⟨rfl, HBx.out, tv, ?_⟩
        rw [show p + (n - 1) + 1 = t by have := HN.out; omega]
        exact HRx.out
       clear HSK HRx HBx HRK
       go_wp2_with fail
       exact bodyPost_ret (v := .tuple #[]) (by simp [results, Tryz.results86, go_sem]) rfl HE.out
   ·have g10 : (y == 10) = false := by simpa using h10
    have g10' : (y != 10) = true := by simpa using h10
    have HU2 := Lib.hid (HU.out.step HY.out (by unfold W.noLf; exact decide_eq_true h10))
    clear HU HY h10
    go_wp2_with fail
    go_roundw
    case rel => exact ⟨t + 1, by omega, by omega, by go_num, by trivial, HU2.out⟩
    case measure => simp [intOf]; omega
  ·have HM : Hid (many noLf (X.L.drop p) = t - p) := HU.out.many ht1 (by rw [HN1.out]; exact ht2) (fun z hz => by have := (List.getElem?_eq_some_iff.1 hz).1; rw [HN1.out] at this; omega)
   have hpt : p < t := by
    rcases Nat.lt_or_ge p t with h1 | h1
    ·exact h1
    ·obtain rfl : p = t := by omega
     omega
   have HRx := Lib.hid (HH.out.at_ (q := t) ht2)
   have HBx : Hid (Below b w (W0.setCell ⟨b, 2, none⟩ (.int .i64 t))) := HB0.out.setCell (p := ⟨b, 2, none⟩) (Nat.le_refl _) _
   obtain ⟨l, hl⟩ : ∃ l, l = (X.L.drop p).take (t - p) := ⟨_, rfl⟩
   have HLN : Hid (l.length = t - p) := by show _ = _; rw [hl, List.length_take, List.length_drop, HN1.out]; omega
   have HRK : Hid (RdK .i64 (W0.setCell ⟨b, 2, none⟩ (.int .i64 t)) b (some ⟨bA, oA + p, none⟩) (t - p) (X.cc - p) l) := by
    have h1 := HRx.out.chars
    rw [HA.out] at h1
    show RdK _ _ _ _ _ _ _
    rw [hl]
    exact RdK.mid h1 (lo := p) (m := t - p) (by omega)
   have HTW : Hid ((X.L.drop p).takeWhile noLf = l) := by show _ = _; rw [← W.take_many, HM.out, hl]
   have HR1 : Hid (r = if l.take 7 = allowP then (match allowB (l.drop 7) with | some x => .tok 19 x.1 x.2 0 (t - p - 1) | none => .bad 0 4) else .skip (t - p - 1)) := by
    show _ = _
    rw [← HR.out]
    unfold W.noteS
    rw [HTW.out, HM.out]
    rfl
   have HOK : Hid (∀ x ∈ l, 0 ≤ x) := fun x hx => by
    rw [hl] at hx
    have h1 := ok_isC HH.out.ok.1 x (List.mem_of_mem_drop (List.mem_of_mem_take hx))
    unfold Q.isC at h1
    have := of_decide_eq_true h1
    omega
   go_upto_region 5 with (fail)
   change Code.wp _ _ _ _ (W0.setCell ⟨b, 2, none⟩ (.int .i64 t))
   clear c0 c1 c2 c3 c4 c5 c6 f2 HR HTW HM HB0 HH hl
   generalize W0.setCell ⟨b, 2, none⟩ (.int .i64 t) = W4 at *
   have hcl : t - p ≤ X.cc - p := by omega
   have hn1 : 1 ≤ t - p := by omega
   have hn3 : t - p ≤ 3000 := by omega
   obtain ⟨n, hn⟩ : ∃ n, t - p = n := ⟨_, rfl⟩
   rw [hn] at HR1 HRK HLN hcl hn1 hn3 ⊢
   generalize X.cc - p = cl at *
   generalize oA + p = ol at *
   have HN : Hid (t = p + n) := by show _ = _; omega
   clear hn hpt hcc ht1
   by_cases hn7 : n < 7
   ·have HSK : Hid (r = .skip (n - 1)) := by
     show _ = _
     rw [HR1.out, if_neg]
     intro h
     have := congrArg List.length h
     rw [List.length_take, HLN.out] at this
     have e : allowP.length = 7 := rfl
     omega
    have hn7i : (n : Int) < 7 := by omega
    clear HR1
    have HE : Hid (StepD X b w p o ts wr r (.returned (.tuple #[])) W4) := by
     show StepD _ _ _ _ _ _ _ _ _ _
     rw [HSK.out]
     refine ⟨rfl, HBx.out, tv, ?_⟩
     rw [show p + (n - 1) + 1 = t by have := HN.out; omega]
     exact HRx.out
    clear HSK HRx HBx HRK
    go_wp2_with fail
    exact bodyPost_ret (v := .tuple #[]) (by simp [results, Tryz.results86, go_sem]) rfl HE.out
   ·have hn7i : ¬ (n : Int) < 7 := by omega
    have HRK7 : Hid (RdK .i64 W4 b (some ⟨bA, ol, none⟩) 7 cl (l.take 7)) := HRK.out.take (by omega)
    have HAC := Lib.hid (dascii_any HRK7.out (by omega))
    have HX0 : Hid (∀ x ∈ l.take 7, 0 ≤ x) := fun x hx => HOK.out x (List.mem_of_mem_take hx)
    cases has : (l.take 7).all (fun x => decide (x < 128)) with
    | false =>
     have HSK : Hid (r = .skip (n - 1)) := by
      show _ = _
      rw [HR1.out, if_neg]
      intro h
      rw [h] at has
      exact absurd has (by decide)
     rw [has] at HAC
     clear has HR1
     go_wp2_with fail
     refine HAC.out.mono ?_
     rintro e w5 ⟨rfl, rfl⟩
     have HE : Hid (StepD X b w p o ts wr r (.returned (.tuple #[])) W4) := by
      show StepD _ _ _ _ _ _ _ _ _ _
      rw [HSK.out]
      refine ⟨rfl, HBx.out, tv, ?_⟩
      rw [show p + (n - 1) + 1 = t by have := HN.out; omega]
      exact HRx.out
     clear HSK HRx HBx HRK
     go_wp2_with fail
     exact bodyPost_ret (v := .tuple #[]) (by simp [results, Tryz.results86, go_sem]) rfl HE.out
    | true =>
     have HL7 : Hid (∀ x ∈ l.take 7, 0 ≤ x ∧ x < 128) := fun x hx => ⟨HX0.out x hx, of_decide_eq_true (List.all_eq_true.1 has x hx)⟩
     have HTC := Lib.hid (dtext_any HRK7.out (Nat.le_of_lt HRx.out.size) (by omega) HL7.out)
     rw [has] at HAC
     clear has
     go_wp2_with fail
     refine HAC.out.mono ?_
     rintro e w5 ⟨rfl, rfl⟩
     go_wp2_with fail
     refine HTC.out.mono ?_
     rintro e W5 ⟨rfl, hb5⟩
     have hb5' := hb5.mono (Nat.le_of_lt HRx.out.size)
     have HR5 := Lib.hid (HRx.out.below hb5)
     have HB5 := Lib.hid (HBx.out.trans hb5')
     have HK5 : Hid (RdK .i64 W5 b (some ⟨bA, ol, none⟩) n cl l) := HRK.out.keep (fun a ha => hb5'.cell ha)
     clear HRx HBx HRK hb5 hb5' HTC HAC HRK7
     have HRx := HR5
     have HBx := HB5
     have HRK := HK5
     clear HR5 HB5 HK5
     by_cases h7 : l.take 7 = allowP
     ·have HR2 : Hid (r = (match allowB (l.drop 7) with | some x => .tok 19 x.1 x.2 0 (n - 1) | none => .bad 0 4)) := by show _ = _; rw [HR1.out, if_pos h7]
      rw [h7, show strOfNums allowP = ⟨#[35, 97, 108, 108, 111, 119, 32]⟩ from rfl]
      clear h7 HR1 HX0 HL7 HOK
      go_wp2_with fail
      go_loopw [5] (fun kv wx => ∃ k : Nat, 7 ≤ k ∧ k ≤ n ∧ kv = .int .i64 k ∧ W5 = wx ∧ Hid (LRun smB l 7 k)) (fun kv _ => n - (intOf kv).toNat)
      case atStart => exact ⟨7, by omega, by omega, by go_num, by trivial, fun j y h1 h2 => by omega⟩
      case round =>
       obtain ⟨k, hk7, hkn, rfl, rfl, HV⟩ := hrel
       by_cases hlt2 : k < n
       ·obtain ⟨b2, o2, y, hA2, _, hy2, hcy⟩ := HRK.out.got hlt2
        injection hA2 with hA2; injection hA2 with e1 e2 _; subst e1 e2
        have HY := Lib.hid hy2
        clear hy2
        by_cases hy97 : 97 ≤ y
        ·by_cases hy122 : y ≤ 122
         ·have HV2 := Lib.hid (HV.out.step HY.out ((dsm_iff y).2 ⟨hy97, hy122⟩))
          clear HV HY
          go_wp2_with fail
          go_roundw
          case rel => exact ⟨k + 1, by omega, by omega, by go_num, by trivial, HV2.out⟩
          case measure => simp [intOf]; omega
         ·have HAL : Hid (allowB (l.drop 7) = _) := W.allow_is (l := l.drop 7) (k := k - 7) (HV.out.many hk7 (by rw [HLN.out]; exact hkn) (fun x hx => by rw [HY.out] at hx; injection hx with hx; subst hx; rw [← Bool.not_eq_true, dsm_iff]; omega))
          obtain ⟨xs, hxs⟩ : ∃ xs, xs = (l.drop 7).take (k - 7) := ⟨_, rfl⟩
          have HXS : Hid (∀ x ∈ xs, smB x = true) := fun x hx => by
           rw [hxs] at hx
           obtain ⟨j, hj, e⟩ := List.getElem_of_mem hx
           have hj2 := hj
           rw [List.length_take, List.length_drop] at hj2
           have h1 : ((l.drop 7).take (k - 7))[j]? = some x := by rw [List.getElem?_eq_getElem hj, e]
           rw [List.getElem?_take_of_lt (by omega), List.getElem?_drop] at h1
           exact HV.out (7 + j) x (by omega) (by omega) h1
          have hxl : xs.length = k - 7 := by rw [hxs, List.length_take, List.length_drop, HLN.out]; omega
          have HXE := Lib.hid hxs
          clear hxs
          have HRX : Hid (RdK .i64 W5 b (some ⟨bA, ol + 7, none⟩) (k - 7) (cl - 7) xs) := by
           show RdK _ _ _ _ _ _ _
           rw [HXE.out]
           exact RdK.mid HRK.out (lo := 7) (m := k - 7) (by omega)
          have hcl7 : ¬ cl = 7 := by omega
          have HLT : Hid (∀ x ∈ xs, 0 ≤ x ∧ x < 128) := fun x hx => by
           have h2 := (dsm_iff x).1 (HXS.out x hx)
           omega
          have HC := Lib.hid (dtext_any HRX.out (Nat.le_of_lt HRx.out.size) (by omega) HLT.out)
          have HST8 : Hid (StrIs (strOfNums xs) xs) := ⟨rfl, fun x hx => by have := HLT.out x hx; omega⟩
          have HXL := Lib.hid hxl
          clear HXS HRX HLT hxl
          generalize hs8 : strOfNums xs = s8 at HC HST8
          go_wp2_with fail
          refine HC.out.mono ?_
          rintro e w6 ⟨rfl, hb6⟩
          have hpt8 := kbelow_push w6 (.cells #[.int .i64 19, .string s8, .int .i64 (-1), .int .i64 0, .int .i64 0] 94)
          have HT8 := Lib.hid (heap_alloc_new w6 (.cells #[.int .i64 19, .string s8, .int .i64 (-1), .int .i64 0, .int .i64 0] 94))
          have hz5 := HRx.out.size
          have hz6 := hb6.size
          have HBs : Hid (Below b W5 (w6.alloc (.cells #[.int .i64 19, .string s8, .int .i64 (-1), .int .i64 0, .int .i64 0] 94))) := (hb6.mono (Nat.le_of_lt hz5)).trans (hpt8.mono (by omega))
          have HRt := Lib.hid ((HRx.out.below hb6).below hpt8)
          have HRS : Hid (∀ v, Rdx X b ((w6.alloc (.cells #[.int .i64 19, .string s8, .int .i64 (-1), .int .i64 0, .int .i64 0] 94)).setCell ⟨w6.heap.size, 2, none⟩ v) t o tv ts wr 0) := fun v => (HRx.out.below hb6).below (hpt8.setCell (p := ⟨w6.heap.size, 2, none⟩) (Nat.le_refl _) v)
          have HBt : Hid (Below b w (w6.alloc (.cells #[.int .i64 19, .string s8, .int .i64 (-1), .int .i64 0, .int .i64 0] 94))) := HBx.out.trans HBs.out
          have HRKt : Hid (RdK .i64 (w6.alloc (.cells #[.int .i64 19, .string s8, .int .i64 (-1), .int .i64 0, .int .i64 0] 94)) b (some ⟨bA, ol, none⟩) n cl l) := HRK.out.keep (fun a ha => HBs.out.cell ha)
          have hcyT : (w6.alloc (.cells #[.int .i64 19, .string s8, .int .i64 (-1), .int .i64 0, .int .i64 0] 94)).cell? ⟨bA, ol + k, none⟩ = some (.int .i64 y) := (HBs.out.cell (p := ⟨bA, ol + k, none⟩) hbA).trans hcy
          have gkn : ((k : Int) == (n : Int)) = false := by simp only [beq_eq_false_iff_ne]; omega
          clear hcy
          have hTB : b < w6.heap.size := by omega
          have HS8 := Lib.hid hs8
          clear hb6 hpt8 HBs HRx HBx HRK HC hz5 hz6 hs8
          go_wp2_with fail
          change Calls _ _ _ (w6.alloc (.cells #[.int .i64 19, .string s8, .int .i64 (-1), .int .i64 0, .int .i64 0] 94)) _
          generalize (w6.alloc (.cells #[.int .i64 19, .string s8, .int .i64 (-1), .int .i64 0, .int .i64 0] 94)) = Wt at *
          generalize w6.heap.size = TB at *
          obtain ⟨k0, k1, k2, k3, k4⟩ := cells5 HT8.out
          have fT : ∀ j, Wt.frozen? ⟨TB, j, none⟩ = false := fun j => frozen_of_row _ _ _ _ _ HT8.out
          have HRx := HRt
          have HBx := HBt
          have HRK := HRKt
          clear HRt HBt HRKt
          have HLC := Lib.hid (dletters_any (w := Wt) HST8.out (by have := HXL.out; omega))
          cases hlb : lettersB xs with
          | false =>
           have HBAD : Hid (r = .bad 0 4) := by
            show _ = _
            have hlb' : lettersB ((l.drop 7).take (k - 7)) = false := by rw [← HXE.out]; exact hlb
            rw [HR2.out, HAL.out, if_neg (by rw [hlb']; intro h; cases h.1)]
           rw [hlb] at HLC
           clear hlb
           refine HLC.out.mono ?_
           rintro e w7 ⟨rfl, rfl⟩
           clear HLC HRK
           go_wp2_with fail
           refine (dfail_any HRx.out (i := p) (Nat.le_of_lt hp) 4).mono ?_
           rintro e w9 ⟨rfl, hR9, hb9⟩
           rw [if_pos rfl, if_pos rfl] at hR9
           have HE : Hid (StepD X b w p o ts wr r (.returned (.tuple #[])) w9) := by
            show StepD _ _ _ _ _ _ _ _ _ _
            rw [HBAD.out]
            exact stepD_bad (k := 0) hR9 (HBx.out.trans hb9)
           clear hR9 hb9 HBAD HRx HBx
           go_wp2_with fail
           exact bodyPost_ret (v := .tuple #[]) (by simp [results, Tryz.results86, go_sem]) rfl HE.out
          | true =>
           have HLB : Hid (lettersB ((l.drop 7).take (k - 7)) = true) := by show _ = _; rw [← HXE.out]; exact hlb
           rw [hlb] at HLC
           clear hlb
           refine HLC.out.mono ?_
           rintro e w7 ⟨rfl, rfl⟩
           clear HLC
           have hy32 : y ≠ 32 := by omega
           have g32 : (y == 32) = false := by simpa using hy32
           have HBAD : Hid (r = .bad 0 4) := by
            show _ = _
            rw [HR2.out, HAL.out, if_neg (by
             rintro ⟨_, h⟩
             rcases h with h | h
             ·rw [List.length_drop, HLN.out] at h; omega
             ·have h2 := h.1
              rw [List.getElem?_drop, show 7 + (k - 7) = k by omega, HY.out] at h2
              injection h2 with h2; exact hy32 h2)]
           clear HLB HT8 hy32
           go_wp2_with fail
           refine (dfail_any HRx.out (i := p) (Nat.le_of_lt hp) 4).mono ?_
           rintro e w9 ⟨rfl, hR9, hb9⟩
           rw [if_pos rfl, if_pos rfl] at hR9
           have HE : Hid (StepD X b w p o ts wr r (.returned (.tuple #[])) w9) := by
            show StepD _ _ _ _ _ _ _ _ _ _
            rw [HBAD.out]
            exact stepD_bad (k := 0) hR9 (HBx.out.trans hb9)
           clear hR9 hb9 HBAD HRx HBx
           go_wp2_with fail
           exact bodyPost_ret (v := .tuple #[]) (by simp [results, Tryz.results86, go_sem]) rfl HE.out
        ·have HAL : Hid (allowB (l.drop 7) = _) := W.allow_is (l := l.drop 7) (k := k - 7) (HV.out.many hk7 (by rw [HLN.out]; exact hkn) (fun x hx => by rw [HY.out] at hx; injection hx with hx; subst hx; rw [← Bool.not_eq_true, dsm_iff]; omega))
         obtain ⟨xs, hxs⟩ : ∃ xs, xs = (l.drop 7).take (k - 7) := ⟨_, rfl⟩
         have HXS : Hid (∀ x ∈ xs, smB x = true) := fun x hx => by
          rw [hxs] at hx
          obtain ⟨j, hj, e⟩ := List.getElem_of_mem hx
          have hj2 := hj
          rw [List.length_take, List.length_drop] at hj2
          have h1 : ((l.drop 7).take (k - 7))[j]? = some x := by rw [List.getElem?_eq_getElem hj, e]
          rw [List.getElem?_take_of_lt (by omega), List.getElem?_drop] at h1
          exact HV.out (7 + j) x (by omega) (by omega) h1
         have hxl : xs.length = k - 7 := by rw [hxs, List.length_take, List.length_drop, HLN.out]; omega
         have HXE := Lib.hid hxs
         clear hxs
         have HRX : Hid (RdK .i64 W5 b (some ⟨bA, ol + 7, none⟩) (k - 7) (cl - 7) xs) := by
          show RdK _ _ _ _ _ _ _
          rw [HXE.out]
          exact RdK.mid HRK.out (lo := 7) (m := k - 7) (by omega)
         have hcl7 : ¬ cl = 7 := by omega
         have HLT : Hid (∀ x ∈ xs, 0 ≤ x ∧ x < 128) := fun x hx => by
          have h2 := (dsm_iff x).1 (HXS.out x hx)
          omega
         have HC := Lib.hid (dtext_any HRX.out (Nat.le_of_lt HRx.out.size) (by omega) HLT.out)
         have HST8 : Hid (StrIs (strOfNums xs) xs) := ⟨rfl, fun x hx => by have := HLT.out x hx; omega⟩
         have HXL := Lib.hid hxl
         clear HXS HRX HLT hxl
         generalize hs8 : strOfNums xs = s8 at HC HST8
         go_wp2_with fail
         refine HC.out.mono ?_
         rintro e w6 ⟨rfl, hb6⟩
         have hpt8 := kbelow_push w6 (.cells #[.int .i64 19, .string s8, .int .i64 (-1), .int .i64 0, .int .i64 0] 94)
         have HT8 := Lib.hid (heap_alloc_new w6 (.cells #[.int .i64 19, .string s8, .int .i64 (-1), .int .i64 0, .int .i64 0] 94))
         have hz5 := HRx.out.size
         have hz6 := hb6.size
         have HBs : Hid (Below b W5 (w6.alloc (.cells #[.int .i64 19, .string s8, .int .i64 (-1), .int .i64 0, .int .i64 0] 94))) := (hb6.mono (Nat.le_of_lt hz5)).trans (hpt8.mono (by omega))
         have HRt := Lib.hid ((HRx.out.below hb6).below hpt8)
         have HRS : Hid (∀ v, Rdx X b ((w6.alloc (.cells #[.int .i64 19, .string s8, .int .i64 (-1), .int .i64 0, .int .i64 0] 94)).setCell ⟨w6.heap.size, 2, none⟩ v) t o tv ts wr 0) := fun v => (HRx.out.below hb6).below (hpt8.setCell (p := ⟨w6.heap.size, 2, none⟩) (Nat.le_refl _) v)
         have HBt : Hid (Below b w (w6.alloc (.cells #[.int .i64 19, .string s8, .int .i64 (-1), .int .i64 0, .int .i64 0] 94))) := HBx.out.trans HBs.out
         have HRKt : Hid (RdK .i64 (w6.alloc (.cells #[.int .i64 19, .string s8, .int .i64 (-1), .int .i64 0, .int .i64 0] 94)) b (some ⟨bA, ol, none⟩) n cl l) := HRK.out.keep (fun a ha => HBs.out.cell ha)
         have hcyT : (w6.alloc (.cells #[.int .i64 19, .string s8, .int .i64 (-1), .int .i64 0, .int .i64 0] 94)).cell? ⟨bA, ol + k, none⟩ = some (.int .i64 y) := (HBs.out.cell (p := ⟨bA, ol + k, none⟩) hbA).trans hcy
         have gkn : ((k : Int) == (n : Int)) = false := by simp only [beq_eq_false_iff_ne]; omega
         clear hcy
         have hTB : b < w6.heap.size := by omega
         have HS8 := Lib.hid hs8
         clear hb6 hpt8 HBs HRx HBx HRK HC hz5 hz6 hs8
         go_wp2_with fail
         change Calls _ _ _ (w6.alloc (.cells #[.int .i64 19, .string s8, .int .i64 (-1), .int .i64 0, .int .i64 0] 94)) _
         generalize (w6.alloc (.cells #[.int .i64 19, .string s8, .int .i64 (-1), .int .i64 0, .int .i64 0] 94)) = Wt at *
         generalize w6.heap.size = TB at *
         obtain ⟨k0, k1, k2, k3, k4⟩ := cells5 HT8.out
         have fT : ∀ j, Wt.frozen? ⟨TB, j, none⟩ = false := fun j => frozen_of_row _ _ _ _ _ HT8.out
         have HRx := HRt
         have HBx := HBt
         have HRK := HRKt
         clear HRt HBt HRKt
         have HLC := Lib.hid (dletters_any (w := Wt) HST8.out (by have := HXL.out; omega))
         cases hlb : lettersB xs with
         | false =>
          have HBAD : Hid (r = .bad 0 4) := by
           show _ = _
           have hlb' : lettersB ((l.drop 7).take (k - 7)) = false := by rw [← HXE.out]; exact hlb
           rw [HR2.out, HAL.out, if_neg (by rw [hlb']; intro h; cases h.1)]
          rw [hlb] at HLC
          clear hlb
          refine HLC.out.mono ?_
          rintro e w7 ⟨rfl, rfl⟩
          clear HLC HRK
          go_wp2_with fail
          refine (dfail_any HRx.out (i := p) (Nat.le_of_lt hp) 4).mono ?_
          rintro e w9 ⟨rfl, hR9, hb9⟩
          rw [if_pos rfl, if_pos rfl] at hR9
          have HE : Hid (StepD X b w p o ts wr r (.returned (.tuple #[])) w9) := by
           show StepD _ _ _ _ _ _ _ _ _ _
           rw [HBAD.out]
           exact stepD_bad (k := 0) hR9 (HBx.out.trans hb9)
          clear hR9 hb9 HBAD HRx HBx
          go_wp2_with fail
          exact bodyPost_ret (v := .tuple #[]) (by simp [results, Tryz.results86, go_sem]) rfl HE.out
         | true =>
          have HLB : Hid (lettersB ((l.drop 7).take (k - 7)) = true) := by show _ = _; rw [← HXE.out]; exact hlb
          rw [hlb] at HLC
          clear hlb
          refine HLC.out.mono ?_
          rintro e w7 ⟨rfl, rfl⟩
          clear HLC
          by_cases hy32 : y = 32
          ·subst hy32
           by_cases hk1 : k + 1 < n
           ·obtain ⟨b3, o3, y2, hA3, _, hy2, hcy2⟩ := HRK.out.got hk1
            injection hA3 with hA3; injection hA3 with e3 e4 _; subst e3 e4
            have HY2 := Lib.hid hy2
            clear hy2
            have HDC := Lib.hid (ddigit_any y2 Wt)
            cases hd2 : dgB y2 with
            | false =>
             have HBAD : Hid (r = .bad 0 4) := by
              show _ = _
              rw [HR2.out, HAL.out, if_neg (by
               rintro ⟨_, h⟩
               rcases h with h | h
               ·rw [List.length_drop, HLN.out] at h; omega
               ·have h2 := h.2.1
                rw [List.drop_drop, show 7 + (k - 7 + 1) = k + 1 by omega, W.num_none (W.many_at (k := 0) (fun j x hj => by omega) (Nat.zero_le _) (fun x hx => by rw [List.getElem?_drop] at hx; rw [show k + 1 + 0 = k + 1 from rfl, HY2.out] at hx; injection hx with hx; subst hx; exact hd2))] at h2
                cases h2)]
             rw [hd2] at HDC
             clear hd2 HLB HT8
             go_wp2_with fail
             refine HDC.out.mono ?_
             rintro e w7 ⟨rfl, rfl⟩
             clear HDC
             go_wp2_with fail
             refine (dfail_any HRx.out (i := p) (Nat.le_of_lt hp) 4).mono ?_
             rintro e w9 ⟨rfl, hR9, hb9⟩
             rw [if_pos rfl, if_pos rfl] at hR9
             have HE : Hid (StepD X b w p o ts wr r (.returned (.tuple #[])) w9) := by
              show StepD _ _ _ _ _ _ _ _ _ _
              rw [HBAD.out]
              exact stepD_bad (k := 0) hR9 (HBx.out.trans hb9)
             clear hR9 hb9 HBAD HRx HBx
             go_wp2_with fail
             exact bodyPost_ret (v := .tuple #[]) (by simp [results, Tryz.results86, go_sem]) rfl HE.out
            | true =>
             have HNC := Lib.hid (dnumber_any HRK.out (by omega) HY2.out hd2)
             rw [hd2] at HDC
             clear hd2
             obtain ⟨R, hR⟩ : ∃ R, numB (l.drop (k + 1)) = R := ⟨_, rfl⟩
             rw [hR] at HNC
             have HAL2 : Hid (allowB (l.drop 7) = if R.2.2 = 0 ∧ R.2.1 = n - (k + 1) then some (xs, R.1) else none) := by
              show _ = _
              rw [HAL.out]
              have e1 : (l.drop 7).drop (k - 7 + 1) = l.drop (k + 1) := by rw [List.drop_drop]; congr 1; omega
              have e2 : ¬ k - 7 = (l.drop 7).length := by rw [List.length_drop, HLN.out]; omega
              have e3 : (l.drop 7)[k - 7]? = some 32 := by rw [List.getElem?_drop, show 7 + (k - 7) = k by omega]; exact HY.out
              rw [e1, hR, if_neg e2, ← HXE.out]
              have e4 : (l.drop (k + 1)).length = n - (k + 1) := by rw [List.length_drop, HLN.out]
              rw [e4]
              by_cases hc : R.2.2 = 0 ∧ R.2.1 = n - (k + 1)
              ·rw [if_pos hc, if_pos ⟨by rw [HXE.out]; exact HLB.out, .inr ⟨e3, hc.1, hc.2⟩⟩]
              ·rw [if_neg hc, if_neg]
               rintro ⟨_, h | h⟩
               ·exact e2 h
               ·exact hc h.2
             clear HAL HLB
             have hkk : ((k + 1 : Nat) : Int) = (k : Int) + 1 := by omega
             rw [hkk] at HNC
             clear hkk hR
             go_wp2_with fail
             refine HDC.out.mono ?_
             rintro e w7 ⟨rfl, rfl⟩
             clear HDC
             go_wp2_with fail
             refine HNC.out.mono ?_
             rintro e w7 ⟨rfl, x9, t9, rfl, ht9, hx9⟩
             have HX9 := Lib.hid hx9
             clear HNC hx9
             have HRs : Hid (Rdx X b (Wt.setCell ⟨TB, 2, none⟩ (.int .i64 x9)) t o tv ts wr 0) := HRS.out _
             have HBs : Hid (Below b w (Wt.setCell ⟨TB, 2, none⟩ (.int .i64 x9))) := HBx.out.setCell (p := ⟨TB, 2, none⟩) (Nat.le_of_lt hTB) _
             have HTs : Hid ((Wt.setCell ⟨TB, 2, none⟩ (.int .i64 x9)).heap[TB]? = some (.cells #[.int .i64 19, .string s8, .int .i64 x9, .int .i64 0, .int .i64 0] 94 (0, 0))) := by
              show _ = _
              rw [heap_setCell_same _ _ _ _ _ _ HT8.out]; rfl
             go_upto_region 14 with (fail)
             change Code.wp _ _ _ _ (Wt.setCell ⟨TB, 2, none⟩ (.int .i64 x9))
             clear k0 k1 k2 k3 k4 fT HT8 HRx HBx HRK hcy2
             generalize Wt.setCell ⟨TB, 2, none⟩ (.int .i64 x9) = Ws at *
             obtain ⟨k0, k1, k2, k3, k4⟩ := cells5 HTs.out
             have HRx := HRs
             have HBx := HBs
             clear HRs HBs HTs
             by_cases he0 : R.2.2 = 0
             ·obtain ⟨hx0, ht0⟩ := HX9.out he0
              by_cases hte : t9 = n
              ·have HGOOD : Hid (r = .tok 19 xs x9 0 (n - 1)) := by
                show _ = _
                rw [HR2.out, HAL2.out, if_pos ⟨he0, by omega⟩, hx0]
               have HXF : strOfNums xs = s8 := HS8.out
               subst HXF
               rw [he0]
               have htn : ((t9 : Int) == (n : Int)) = true := by rw [hte]; simp
               clear HAL2 HX9 hx0 ht0 he0 hte
               go_wp2_with fail
               refine (dput_any HRx.out 19 x9 0 0 xs (i := p) (Nat.le_of_lt hp) hts).mono ?_
               rintro e w9 ⟨rfl, ⟨tv9, hR9⟩, hb9⟩
               have HE : Hid (StepD X b w p o ts wr r (.returned (.tuple #[])) w9) := by
                show StepD _ _ _ _ _ _ _ _ _ _
                rw [HGOOD.out]
                refine ⟨rfl, HBx.out.trans hb9, tv9, ?_⟩
                rw [show p + (n - 1) + 1 = t by have := HN.out; omega]
                exact hR9
               clear hR9 hb9 HGOOD HRx HBx
               go_wp2_with fail
               exact bodyPost_ret (v := .tuple #[]) (by simp [results, Tryz.results86, go_sem]) rfl HE.out
              ·have HBAD : Hid (r = .bad 0 4) := by
                show _ = _
                rw [HR2.out, HAL2.out, if_neg (by rintro ⟨_, h⟩; omega)]
               have g9 : ((t9 : Int) == (n : Int)) = false := by simp only [beq_eq_false_iff_ne]; omega
               rw [he0]
               clear HAL2 HX9 hx0 ht0 he0 hte
               go_wp2_with fail
               refine (dfail_any HRx.out (i := p) (Nat.le_of_lt hp) 4).mono ?_
               rintro e w9 ⟨rfl, hR9, hb9⟩
               rw [if_pos rfl, if_pos rfl] at hR9
               have HE : Hid (StepD X b w p o ts wr r (.returned (.tuple #[])) w9) := by
                show StepD _ _ _ _ _ _ _ _ _ _
                rw [HBAD.out]
                exact stepD_bad (k := 0) hR9 (HBx.out.trans hb9)
               clear hR9 hb9 HBAD HRx HBx
               go_wp2_with fail
               exact bodyPost_ret (v := .tuple #[]) (by simp [results, Tryz.results86, go_sem]) rfl HE.out
             ·have HBAD : Hid (r = .bad 0 4) := by
               show _ = _
               rw [HR2.out, HAL2.out, if_neg (by rintro ⟨h, _⟩; exact he0 h)]
              have g9 : (R.2.2 == 0) = false := by simpa using he0
              clear HAL2 HX9 he0
              generalize R.2.2 = e9 at *
              go_wp2_with fail
              refine (dfail_any HRx.out (i := p) (Nat.le_of_lt hp) 4).mono ?_
              rintro e w9 ⟨rfl, hR9, hb9⟩
              rw [if_pos rfl, if_pos rfl] at hR9
              have HE : Hid (StepD X b w p o ts wr r (.returned (.tuple #[])) w9) := by
               show StepD _ _ _ _ _ _ _ _ _ _
               rw [HBAD.out]
               exact stepD_bad (k := 0) hR9 (HBx.out.trans hb9)
              clear hR9 hb9 HBAD HRx HBx
              go_wp2_with fail
              exact bodyPost_ret (v := .tuple #[]) (by simp [results, Tryz.results86, go_sem]) rfl HE.out
           ·skip
            have HBAD : Hid (r = .bad 0 4) := by
             show _ = _
             rw [HR2.out, HAL.out, if_neg (by
              rintro ⟨_, h⟩
              rcases h with h | h
              ·rw [List.length_drop, HLN.out] at h; omega
              ·have h2 := h.2.1
               have e0 : (l.drop 7).drop (k - 7 + 1) = [] := List.drop_eq_nil_of_le (by rw [List.length_drop, HLN.out]; omega)
               rw [e0] at h2
               cases h2)]
            have hk1i : ¬ (k : Int) + 1 < (n : Int) := by omega
            clear HLB HT8 hk1
            go_wp2_with fail
            refine (dfail_any HRx.out (i := p) (Nat.le_of_lt hp) 4).mono ?_
            rintro e w9 ⟨rfl, hR9, hb9⟩
            rw [if_pos rfl, if_pos rfl] at hR9
            have HE : Hid (StepD X b w p o ts wr r (.returned (.tuple #[])) w9) := by
             show StepD _ _ _ _ _ _ _ _ _ _
             rw [HBAD.out]
             exact stepD_bad (k := 0) hR9 (HBx.out.trans hb9)
            clear hR9 hb9 HBAD HRx HBx
            go_wp2_with fail
            exact bodyPost_ret (v := .tuple #[]) (by simp [results, Tryz.results86, go_sem]) rfl HE.out
          ·have g32 : (y == 32) = false := by simpa using hy32
           have HBAD : Hid (r = .bad 0 4) := by
            show _ = _
            rw [HR2.out, HAL.out, if_neg (by
             rintro ⟨_, h⟩
             rcases h with h | h
             ·rw [List.length_drop, HLN.out] at h; omega
             ·have h2 := h.1
              rw [List.getElem?_drop, show 7 + (k - 7) = k by omega, HY.out] at h2
              injection h2 with h2; exact hy32 h2)]
           clear HLB HT8 hy32
           go_wp2_with fail
           refine (dfail_any HRx.out (i := p) (Nat.le_of_lt hp) 4).mono ?_
           rintro e w9 ⟨rfl, hR9, hb9⟩
           rw [if_pos rfl, if_pos rfl] at hR9
           have HE : Hid (StepD X b w p o ts wr r (.returned (.tuple #[])) w9) := by
            show StepD _ _ _ _ _ _ _ _ _ _
            rw [HBAD.out]
            exact stepD_bad (k := 0) hR9 (HBx.out.trans hb9)
           clear hR9 hb9 HBAD HRx HBx
           go_wp2_with fail
           exact bodyPost_ret (v := .tuple #[]) (by simp [results, Tryz.results86, go_sem]) rfl HE.out
       ·have HAL : Hid (allowB (l.drop 7) = _) := W.allow_is (l := l.drop 7) (k := k - 7) (HV.out.many hk7 (by rw [HLN.out]; exact hkn) (fun x hx => by have := (List.getElem?_eq_some_iff.1 hx).1; rw [HLN.out] at this; omega))
        have HKE : Hid (k = n) := by show _ = _; omega
        have gkn : ((k : Int) == (n : Int)) = true := by simp only [beq_iff_eq]; omega
        obtain ⟨xs, hxs⟩ : ∃ xs, xs = (l.drop 7).take (k - 7) := ⟨_, rfl⟩
        have HXS : Hid (∀ x ∈ xs, smB x = true) := fun x hx => by
         rw [hxs] at hx
         obtain ⟨j, hj, e⟩ := List.getElem_of_mem hx
         have hj2 := hj
         rw [List.length_take, List.length_drop] at hj2
         have h1 : ((l.drop 7).take (k - 7))[j]? = some x := by rw [List.getElem?_eq_getElem hj, e]
         rw [List.getElem?_take_of_lt (by omega), List.getElem?_drop] at h1
         exact HV.out (7 + j) x (by omega) (by omega) h1
        have hxl : xs.length = k - 7 := by rw [hxs, List.length_take, List.length_drop, HLN.out]; omega
        have HXE := Lib.hid hxs
        clear hxs
        by_cases hcl7 : cl = 7
        ·subst hcl7
         obtain rfl : k = 7 := by have := HKE.out; omega
         obtain rfl : n = 7 := by omega
         clear gkn
         have HRX : Hid (RdK .i64 W5 b (some ⟨bA, ol, none⟩) 0 0 xs) := by
          show RdK _ _ _ _ _ _ _
          obtain rfl : xs = [] := List.eq_nil_of_length_eq_zero (by omega)
          exact RdK.zero (by unfold maxLen; omega)
         have HLT : Hid (∀ x ∈ xs, 0 ≤ x ∧ x < 128) := fun x hx => by
          have h2 := (dsm_iff x).1 (HXS.out x hx)
          omega
         have HC := Lib.hid (dtext_any HRX.out (Nat.le_of_lt HRx.out.size) (by omega) HLT.out)
         have HST8 : Hid (StrIs (strOfNums xs) xs) := ⟨rfl, fun x hx => by have := HLT.out x hx; omega⟩
         have HXL := Lib.hid hxl
         clear HXS HRX HLT hxl
         generalize hs8 : strOfNums xs = s8 at HC HST8
         go_wp2_with fail
         refine HC.out.mono ?_
         rintro e w6 ⟨rfl, hb6⟩
         have hpt8 := kbelow_push w6 (.cells #[.int .i64 19, .string s8, .int .i64 (-1), .int .i64 0, .int .i64 0] 94)
         have HT8 := Lib.hid (heap_alloc_new w6 (.cells #[.int .i64 19, .string s8, .int .i64 (-1), .int .i64 0, .int .i64 0] 94))
         have hz5 := HRx.out.size
         have hz6 := hb6.size
         have HBs : Hid (Below b W5 (w6.alloc (.cells #[.int .i64 19, .string s8, .int .i64 (-1), .int .i64 0, .int .i64 0] 94))) := (hb6.mono (Nat.le_of_lt hz5)).trans (hpt8.mono (by omega))
         have HRt := Lib.hid ((HRx.out.below hb6).below hpt8)
         have HRS : Hid (∀ v, Rdx X b ((w6.alloc (.cells #[.int .i64 19, .string s8, .int .i64 (-1), .int .i64 0, .int .i64 0] 94)).setCell ⟨w6.heap.size, 2, none⟩ v) t o tv ts wr 0) := fun v => (HRx.out.below hb6).below (hpt8.setCell (p := ⟨w6.heap.size, 2, none⟩) (Nat.le_refl _) v)
         have HBt : Hid (Below b w (w6.alloc (.cells #[.int .i64 19, .string s8, .int .i64 (-1), .int .i64 0, .int .i64 0] 94))) := HBx.out.trans HBs.out
         have HRKt : Hid (RdK .i64 (w6.alloc (.cells #[.int .i64 19, .string s8, .int .i64 (-1), .int .i64 0, .int .i64 0] 94)) b (some ⟨bA, ol, none⟩) 7 7 l) := HRK.out.keep (fun a ha => HBs.out.cell ha)
         have hTB : b < w6.heap.size := by omega
         have HS8 := Lib.hid hs8
         clear hb6 hpt8 HBs HRx HBx HRK HC hz5 hz6 hs8
         go_wp2_with fail
         change Calls _ _ _ (w6.alloc (.cells #[.int .i64 19, .string s8, .int .i64 (-1), .int .i64 0, .int .i64 0] 94)) _
         generalize (w6.alloc (.cells #[.int .i64 19, .string s8, .int .i64 (-1), .int .i64 0, .int .i64 0] 94)) = Wt at *
         generalize w6.heap.size = TB at *
         obtain ⟨k0, k1, k2, k3, k4⟩ := cells5 HT8.out
         have fT : ∀ j, Wt.frozen? ⟨TB, j, none⟩ = false := fun j => frozen_of_row _ _ _ _ _ HT8.out
         have HRx := HRt
         have HBx := HBt
         have HRK := HRKt
         clear HRt HBt HRKt
         have HLC := Lib.hid (dletters_any (w := Wt) HST8.out (by have := HXL.out; omega))
         cases hlb : lettersB xs with
         | false =>
          have HBAD : Hid (r = .bad 0 4) := by
           show _ = _
           have hlb' : lettersB ((l.drop 7).take (7 - 7)) = false := by rw [← HXE.out]; exact hlb
           rw [HR2.out, HAL.out, if_neg (by rw [hlb']; intro h; cases h.1)]
          rw [hlb] at HLC
          clear hlb
          refine HLC.out.mono ?_
          rintro e w7 ⟨rfl, rfl⟩
          clear HLC HRK
          go_wp2_with fail
          refine (dfail_any HRx.out (i := p) (Nat.le_of_lt hp) 4).mono ?_
          rintro e w9 ⟨rfl, hR9, hb9⟩
          rw [if_pos rfl, if_pos rfl] at hR9
          have HE : Hid (StepD X b w p o ts wr r (.returned (.tuple #[])) w9) := by
           show StepD _ _ _ _ _ _ _ _ _ _
           rw [HBAD.out]
           exact stepD_bad (k := 0) hR9 (HBx.out.trans hb9)
          clear hR9 hb9 HBAD HRx HBx
          go_wp2_with fail
          exact bodyPost_ret (v := .tuple #[]) (by simp [results, Tryz.results86, go_sem]) rfl HE.out
         | true =>
          have HLB : Hid (lettersB ((l.drop 7).take (7 - 7)) = true) := by show _ = _; rw [← HXE.out]; exact hlb
          rw [hlb] at HLC
          clear hlb
          refine HLC.out.mono ?_
          rintro e w7 ⟨rfl, rfl⟩
          clear HLC
          have HGOOD : Hid (r = .tok 19 xs (-1) 0 (7 - 1)) := by
           show _ = _
           rw [HR2.out, HAL.out, if_pos ⟨HLB.out, .inl (by rw [List.length_drop, HLN.out])⟩, HXE.out]
           show St.tok 19 _ (if 7 - 7 = (l.drop 7).length then -1 else _) 0 (7 - 1) = _
           rw [if_pos (by rw [List.length_drop, HLN.out])]
          have HXF : strOfNums xs = s8 := HS8.out
          subst HXF
          clear HRK HLB HT8
          go_wp2_with fail
          refine (dput_any HRx.out 19 (-1) 0 0 xs (i := p) (Nat.le_of_lt hp) hts).mono ?_
          rintro e w9 ⟨rfl, ⟨tv9, hR9⟩, hb9⟩
          have HE : Hid (StepD X b w p o ts wr r (.returned (.tuple #[])) w9) := by
           show StepD _ _ _ _ _ _ _ _ _ _
           rw [HGOOD.out]
           refine ⟨rfl, HBx.out.trans hb9, tv9, ?_⟩
           rw [show p + (7 - 1) + 1 = t by have := HN.out; omega]
           exact hR9
          clear hR9 hb9 HGOOD HRx HBx
          go_wp2_with fail
          exact bodyPost_ret (v := .tuple #[]) (by simp [results, Tryz.results86, go_sem]) rfl HE.out
        ·skip
         have HRX : Hid (RdK .i64 W5 b (some ⟨bA, ol + 7, none⟩) (k - 7) (cl - 7) xs) := by
          show RdK _ _ _ _ _ _ _
          rw [HXE.out]
          exact RdK.mid HRK.out (lo := 7) (m := k - 7) (by omega)
         have HLT : Hid (∀ x ∈ xs, 0 ≤ x ∧ x < 128) := fun x hx => by
          have h2 := (dsm_iff x).1 (HXS.out x hx)
          omega
         have HC := Lib.hid (dtext_any HRX.out (Nat.le_of_lt HRx.out.size) (by omega) HLT.out)
         have HST8 : Hid (StrIs (strOfNums xs) xs) := ⟨rfl, fun x hx => by have := HLT.out x hx; omega⟩
         have HXL := Lib.hid hxl
         clear HXS HRX HLT hxl
         generalize hs8 : strOfNums xs = s8 at HC HST8
         go_wp2_with fail
         refine HC.out.mono ?_
         rintro e w6 ⟨rfl, hb6⟩
         have hpt8 := kbelow_push w6 (.cells #[.int .i64 19, .string s8, .int .i64 (-1), .int .i64 0, .int .i64 0] 94)
         have HT8 := Lib.hid (heap_alloc_new w6 (.cells #[.int .i64 19, .string s8, .int .i64 (-1), .int .i64 0, .int .i64 0] 94))
         have hz5 := HRx.out.size
         have hz6 := hb6.size
         have HBs : Hid (Below b W5 (w6.alloc (.cells #[.int .i64 19, .string s8, .int .i64 (-1), .int .i64 0, .int .i64 0] 94))) := (hb6.mono (Nat.le_of_lt hz5)).trans (hpt8.mono (by omega))
         have HRt := Lib.hid ((HRx.out.below hb6).below hpt8)
         have HRS : Hid (∀ v, Rdx X b ((w6.alloc (.cells #[.int .i64 19, .string s8, .int .i64 (-1), .int .i64 0, .int .i64 0] 94)).setCell ⟨w6.heap.size, 2, none⟩ v) t o tv ts wr 0) := fun v => (HRx.out.below hb6).below (hpt8.setCell (p := ⟨w6.heap.size, 2, none⟩) (Nat.le_refl _) v)
         have HBt : Hid (Below b w (w6.alloc (.cells #[.int .i64 19, .string s8, .int .i64 (-1), .int .i64 0, .int .i64 0] 94))) := HBx.out.trans HBs.out
         have HRKt : Hid (RdK .i64 (w6.alloc (.cells #[.int .i64 19, .string s8, .int .i64 (-1), .int .i64 0, .int .i64 0] 94)) b (some ⟨bA, ol, none⟩) n cl l) := HRK.out.keep (fun a ha => HBs.out.cell ha)
         have hTB : b < w6.heap.size := by omega
         have HS8 := Lib.hid hs8
         clear hb6 hpt8 HBs HRx HBx HRK HC hz5 hz6 hs8
         go_wp2_with fail
         change Calls _ _ _ (w6.alloc (.cells #[.int .i64 19, .string s8, .int .i64 (-1), .int .i64 0, .int .i64 0] 94)) _
         generalize (w6.alloc (.cells #[.int .i64 19, .string s8, .int .i64 (-1), .int .i64 0, .int .i64 0] 94)) = Wt at *
         generalize w6.heap.size = TB at *
         obtain ⟨k0, k1, k2, k3, k4⟩ := cells5 HT8.out
         have fT : ∀ j, Wt.frozen? ⟨TB, j, none⟩ = false := fun j => frozen_of_row _ _ _ _ _ HT8.out
         have HRx := HRt
         have HBx := HBt
         have HRK := HRKt
         clear HRt HBt HRKt
         have HLC := Lib.hid (dletters_any (w := Wt) HST8.out (by have := HXL.out; omega))
         cases hlb : lettersB xs with
         | false =>
          have HBAD : Hid (r = .bad 0 4) := by
           show _ = _
           have hlb' : lettersB ((l.drop 7).take (k - 7)) = false := by rw [← HXE.out]; exact hlb
           rw [HR2.out, HAL.out, if_neg (by rw [hlb']; intro h; cases h.1)]
          rw [hlb] at HLC
          clear hlb
          refine HLC.out.mono ?_
          rintro e w7 ⟨rfl, rfl⟩
          clear HLC HRK
          go_wp2_with fail
          refine (dfail_any HRx.out (i := p) (Nat.le_of_lt hp) 4).mono ?_
          rintro e w9 ⟨rfl, hR9, hb9⟩
          rw [if_pos rfl, if_pos rfl] at hR9
          have HE : Hid (StepD X b w p o ts wr r (.returned (.tuple #[])) w9) := by
           show StepD _ _ _ _ _ _ _ _ _ _
           rw [HBAD.out]
           exact stepD_bad (k := 0) hR9 (HBx.out.trans hb9)
          clear hR9 hb9 HBAD HRx HBx
          go_wp2_with fail
          exact bodyPost_ret (v := .tuple #[]) (by simp [results, Tryz.results86, go_sem]) rfl HE.out
         | true =>
          have HLB : Hid (lettersB ((l.drop 7).take (k - 7)) = true) := by show _ = _; rw [← HXE.out]; exact hlb
          rw [hlb] at HLC
          clear hlb
          refine HLC.out.mono ?_
          rintro e w7 ⟨rfl, rfl⟩
          clear HLC
          have HGOOD : Hid (r = .tok 19 xs (-1) 0 (n - 1)) := by
           show _ = _
           rw [HR2.out, HAL.out, if_pos ⟨HLB.out, .inl (by rw [List.length_drop, HLN.out]; have := HKE.out; omega)⟩, HXE.out]
           show St.tok 19 _ (if k - 7 = (l.drop 7).length then -1 else _) 0 (n - 1) = _
           rw [if_pos (by rw [List.length_drop, HLN.out]; have := HKE.out; omega)]
          have HXF : strOfNums xs = s8 := HS8.out
          subst HXF
          clear HRK HLB HT8
          go_wp2_with fail
          refine (dput_any HRx.out 19 (-1) 0 0 xs (i := p) (Nat.le_of_lt hp) hts).mono ?_
          rintro e w9 ⟨rfl, ⟨tv9, hR9⟩, hb9⟩
          have HE : Hid (StepD X b w p o ts wr r (.returned (.tuple #[])) w9) := by
           show StepD _ _ _ _ _ _ _ _ _ _
           rw [HGOOD.out]
           refine ⟨rfl, HBx.out.trans hb9, tv9, ?_⟩
           rw [show p + (n - 1) + 1 = t by have := HN.out; omega]
           exact hR9
          clear hR9 hb9 HGOOD HRx HBx
          go_wp2_with fail
          exact bodyPost_ret (v := .tuple #[]) (by simp [results, Tryz.results86, go_sem]) rfl HE.out
     ·have HSK : Hid (r = .skip (n - 1)) := by show _ = _; rw [HR1.out, if_neg h7]
      have g7 : ((strOfNums (l.take 7)).toList == [35, 97, 108, 108, 111, 119, 32]) = false := by
       have e : ([35, 97, 108, 108, 111, 119, 32] : List UInt8) = (strOfNums allowP).toList := by kernel_rfl
       rw [e, str_eqB (fun x hx => by have := HL7.out x hx; omega) allow_bd]; exact decide_eq_false h7
      clear h7 HR1 HX0 HL7 HOK
      generalize strOfNums (l.take 7) = s7 at *
      have HE : Hid (StepD X b w p o ts wr r (.returned (.tuple #[])) W5) := by
       show StepD _ _ _ _ _ _ _ _ _ _
       rw [HSK.out]
       refine ⟨rfl, HBx.out, tv, ?_⟩
       rw [show p + (n - 1) + 1 = t by have := HN.out; omega]
       exact HRx.out
      clear HSK HRx HBx HRK
      go_wp2_with fail
      exact bodyPost_ret (v := .tuple #[]) (by simp [results, Tryz.results86, go_sem]) rfl HE.out
end
end Go.Proofs.YtmohefgdpddldaaGreatDoor
namespace Go.Proofs.YtmohefgdpddldaaGreatDoor
open Go.RowKit
open E (okb encB flat offs DecIs Upto)
open W (Tk lexS)
open Y (Nd It Ps)

def lexL (l : List Int) : List Tk := match lexS l 0 0 [] with | .ok ts => ts | .bad _ _ => []
theorem items_one {Bs cs ats : List Int} {x : Int} {N M : Nat} {r : List It × Int × Int} {ts : List Tk} (hd : DecIs Bs cs ats x 0) (hl : lexS cs 0 0 [] = .ok ts) (h : ItemsIs Bs N M r) : r = allS Bs.length N M (placed cs ts) := by
 have hone : ∀ {us : List Tok} {y er : Int}, TokIs Bs us y er → us = placed cs ts ∧ er = 0 := by
  intro us y er ht
  cases ht with
  | dec cs' ats' _ _ h he => obtain ⟨_, _, _, e⟩ := h.one hd; exact absurd e he
  | bad cs' ats' _ h k _ hl' => obtain ⟨e, _⟩ := h.one hd; subst e; rw [hl] at hl'; cases hl'
  | ok cs' ats' _ h ts' hl' => obtain ⟨e, _⟩ := h.one hd; subst e; rw [hl] at hl'; injection hl' with e; subst e; exact ⟨rfl, rfl⟩
 cases h with
 | bad x er h he => exact absurd (hone h).2 he
 | ok us y h => rw [(hone h).1]
end Go.Proofs.YtmohefgdpddldaaGreatDoor
namespace Go.Proofs.YtmohefgdpddldaaGreatDoor
open Go.RowKit
open Y (Nd It Ps)

end Go.Proofs.YtmohefgdpddldaaGreatDoor
namespace Go.Proofs.YtmohefgdpddldaaGreatDoor
open Go.RowKit
open W (Tk St nameS setS numT noteS charsS signK outS inS stepS opn lastK lexS Lx markB dgB ltB smB nmB many numB noLf noBl lettersB allowB allowP)
section
variable {X : Cx} {b : Nat} {w : World} {p o : Nat} {tv : Value} {ts : List Tk} {wr : Int}
set_option maxHeartbeats 2000000 in
theorem dstep_hash (h : Rdx X b w p o tv ts wr 0) (hp : p < X.nc) (hts : ts.length ≤ 3000) (ho : o ≤ 4000) {c : Int} (hc : X.L[p]? = some c) (h35 : c = 35) :
  Calls Tryz.prog 45 #[.pointer (some ⟨b, 0, none⟩)] w (StepD X b w p o ts wr (outS c (X.L.drop (p + 1)))) := by
 obtain ⟨c0, c1, c2, c3, c4, c5, c6⟩ := h.cells
 have hsz := h.size
 obtain ⟨n1, n2, n3⟩ := h.nc
 obtain ⟨bc, offc, xc, hAc, _, hxc, hcell⟩ := h.chars.got hp
 obtain rfl : c = xc := by rw [hc] at hxc; exact Option.some.inj hxc
 rw [hAc] at c0
 have hp0 : (0 : Int) ≤ (p : Int) := by omega
 have hpn : (p : Int) < 3000 := by omega
 have HCO := Lib.hid (drop_at hc)
 have HH := Lib.hid h
 have HN1 := Lib.hid n1
 have HX := Lib.hid hc
 have HA := Lib.hid hAc
 have g35 : (c == 35) = true := by simpa using h35
 have g10 : (c == 10) = false := by rw [h35]; decide
 have H35 := Lib.hid h35
 have HCC := Lib.hid hc
 clear h35
 clear h hAc hxc hc n1 n3
 generalize hr : outS c (X.L.drop (p + 1)) = r
 have HR := Lib.hid hr
 clear hr
 go_enter Tryz.func45, Tryz.ntmps45
 go_wp2_with fail
 go_quiet (fail)
 go_wp2_with fail
 have HLR : Hid (RdK .i64 ((w.drewN nq).alloc (.cells #[.int .i64 61, .int .i64 215, .int .i64 247, .int .i64 40, .int .i64 41, .int .i64 124, .int .i64 42, .int .i64 43, .int .i64 63, .int .i64 46] 3)) ((w.drewN nq).alloc (.cells #[.int .i64 61, .int .i64 215, .int .i64 247, .int .i64 40, .int .i64 41, .int .i64 124, .int .i64 42, .int .i64 43, .int .i64 63, .int .i64 46] 3)).heap.size (some ⟨w.heap.size, 0, none⟩) 10 10 signL) := rd_lit_k (w.drewN nq) w.heap.size rfl .i64 signL 3 _ rfl (by decide)
 have HRW := Lib.hid ((HH.out.drewN nq).below (kbelow_push _ (.cells #[.int .i64 61, .int .i64 215, .int .i64 247, .int .i64 40, .int .i64 41, .int .i64 124, .int .i64 42, .int .i64 43, .int .i64 63, .int .i64 46] 3)))
 have HBW : Hid (Below b w ((w.drewN nq).alloc (.cells #[.int .i64 61, .int .i64 215, .int .i64 247, .int .i64 40, .int .i64 41, .int .i64 124, .int .i64 42, .int .i64 43, .int .i64 63, .int .i64 46] 3))) := (kbelow_drewN (Below.refl b w) nq).trans ((kbelow_push _ _).mono (by show b ≤ w.heap.size; omega))
 generalize (w.drewN nq).alloc (.cells #[.int .i64 61, .int .i64 215, .int .i64 247, .int .i64 40, .int .i64 41, .int .i64 124, .int .i64 42, .int .i64 43, .int .i64 63, .int .i64 46] 3) = W1 at *
 clear c0 c1 c2 c3 c4 c5 c6 hcell
 go_loopw [5] (fun kv wx => ∃ k : Nat, k ≤ 10 ∧ kv = .int .i64 k ∧ W1 = wx ∧ Hid (∀ j y, j < k → signL[j]? = some y → y ≠ c)) (fun kv _ => 10 - (intOf kv).toNat)
 case atStart => exact ⟨0, by omega, rfl, by trivial, fun j y h => by omega⟩
 case round =>
  obtain ⟨k, hk, rfl, rfl, HN⟩ := hrel
  obtain ⟨c0, c1, c2, c3, c4, c5, c6⟩ := HRW.out.cells
  rw [HA.out] at c0
  by_cases hlt : k < 10
  ·obtain ⟨bL, oL, z, hAL, _, hz, hcz⟩ := HLR.out.got hlt
   injection hAL with hAL
   injection hAL with e1 e2 _
   subst e1 e2
   rw [Nat.zero_add] at hcz
   have hzc : z ≠ c := fun e => by
    obtain ⟨_, _, _, q4, _⟩ := sign_at hz
    rw [e] at q4
    exact q4 H35.out
   have qz : (z == c) = false := by simpa using hzc
   have HN2 : Hid (∀ j y, j < k + 1 → signL[j]? = some y → y ≠ c) := fun j y hj hy => by
    rcases Nat.lt_or_ge j k with h1 | h1
    ·exact HN.out j y h1 hy
    ·obtain rfl : j = k := by omega
     rw [hz] at hy; injection hy with hy; subst hy; exact hzc
   clear HN hz hzc
   go_wp2_with fail
   go_roundw
   case rel => exact ⟨k + 1, by omega, by go_num, by trivial, HN2.out⟩
   case measure => simp [intOf]; omega
  ·obtain rfl : k = 10 := by omega
   clear HN
   have HNC := Lib.hid (dnote_any HRW.out hp hts (by rw [HCC.out, H35.out]))
   have HS : Hid (r = noteS (X.L.drop p)) := by
    show _ = _
    rw [← HR.out, H35.out]
    unfold W.outS
    rw [if_neg (by decide), if_neg (by decide), if_neg (by decide), if_pos rfl, ← H35.out, ← HCO.out]
   go_wp2_with fail
   refine HNC.out.mono ?_
   rintro e w3 hq
   have HE : Hid (StepD X b w p o ts wr r e w3) := by show StepD _ _ _ _ _ _ _ _ _ _; rw [HS.out]; exact hq.on HBW.out
   obtain rfl := hq.1
   clear hq HNC HS HR
   go_wp2_with fail
   exact bodyPost_ret (v := .tuple #[]) (by simp [results, Tryz.results45, go_sem]) rfl HE.out
theorem dstep_all (h : Rdx X b w p o tv ts wr 0) (hp : p < X.nc) (hts : ts.length ≤ 3000) (ho : o ≤ 4000) {c : Int} (hc : X.L[p]? = some c) :
  Calls Tryz.prog 45 #[.pointer (some ⟨b, 0, none⟩)] w (StepD X b w p o ts wr (outS c (X.L.drop (p + 1)))) := by
 by_cases h35 : c = 35
 ·exact dstep_hash h hp hts ho hc h35
 ·exact dstep_any h hp hts ho hc h35
end
set_option maxHeartbeats 8000000 in
theorem dof_all {w : World} {A : Option Addr} {n c : Nat} {Bs : List Int} (h : RdK .u8 w w.heap.size A n c Bs) (hb : Byt Bs) :
  Calls Tryz.prog 18 #[.slice A n c] w (OfP5 w Bs) := by
 have hdec := Lib.hid (rdecode_any h hb)
 clear h hb
 go_enter Tryz.func18, Tryz.ntmps18
 go_wp2_with fail
 refine hdec.out.mono ?_
 rintro e w1 ⟨A1, A2, n1, c1, n2, c2, cs, ats, x, er, rfl, r1, r2, hd, hb1⟩
 have HB1 := Lib.hid hb1
 have HD := Lib.hid hd
 by_cases he : er = 0
 ·subst he
  obtain ⟨o1, o2, o3, o4⟩ := dec_ok HD.out rfl
  have hx1 : x = -1 := by cases hd; rfl
  subst hx1
  have hk : ∀ q : Addr, q.block < w1.heap.size → (w1.alloc (.cells #[.slice A1 n1 c1, .slice A2 n2 c2, .int .i64 0, .int .i64 0, .slice none 0 0, .int .i64 0, .int .i64 0] 72)).cell? q = w1.cell? q := fun q hq => (kbelow_push w1 (.cells #[.slice A1 n1 c1, .slice A2 n2 c2, .int .i64 0, .int .i64 0, .slice none 0 0, .int .i64 0, .int .i64 0] 72)).cell hq
  have hR0 : Rdx ⟨none, 0, 0, Bs, A1, n1, c1, cs, A2, n2, c2, ats⟩ w1.heap.size (w1.alloc (.cells #[.slice A1 n1 c1, .slice A2 n2 c2, .int .i64 0, .int .i64 0, .slice none 0 0, .int .i64 0, .int .i64 0] 72)) 0 0 (.slice none 0 0) [] 0 0 :=
   ⟨⟨o1, o2, o3, o4⟩, by simp, r1.keep hk, r2.keep hk, Nat.zero_le _, heap_alloc_new w1 _, OwnT.nil _ _⟩
  obtain ⟨R, hR⟩ : ∃ R, lexS cs 0 0 [] = R := ⟨_, rfl⟩
  have HR := Lib.hid hR
  have HA0 : Hid (AtD ⟨none, 0, 0, Bs, A1, n1, c1, cs, A2, n2, c2, ats⟩ w1.heap.size (w1.alloc (.cells #[.slice A1 n1 c1, .slice A2 n2 c2, .int .i64 0, .int .i64 0, .slice none 0 0, .int .i64 0, .int .i64 0] 72)) R (w1.alloc (.cells #[.slice A1 n1 c1, .slice A2 n2 c2, .int .i64 0, .int .i64 0, .slice none 0 0, .int .i64 0, .int .i64 0] 72)) 0 0 (.slice none 0 0) [] 0 0) :=
   ⟨hR0, Below.refl _ _, fun _ => ⟨by rw [List.drop_zero]; exact hR, Nat.le_refl _, Nat.le_refl _, fun h => absurd h (by omega)⟩, fun h => absurd rfl h⟩
  have HBW : Hid (∀ w', Below w1.heap.size (w1.alloc (.cells #[.slice A1 n1 c1, .slice A2 n2 c2, .int .i64 0, .int .i64 0, .slice none 0 0, .int .i64 0, .int .i64 0] 72)) w' → Below w.heap.size w w') := fun w' h => HB1.out.trans (((kbelow_push w1 (.cells #[.slice A1 n1 c1, .slice A2 n2 c2, .int .i64 0, .int .i64 0, .slice none 0 0, .int .i64 0, .int .i64 0] 72)).trans h).mono HB1.out.size)
  have hcl := r1.len
  have HCL := Lib.hid hcl
  clear o1 o2 o3 o4 hk hR0 r1 r2 hd hb1 hdec hR hcl HB1
  go_wp2_with fail
  obtain ⟨X, hX⟩ : ∃ X : Cx, X = ⟨none, 0, 0, Bs, A1, n1, c1, cs, A2, n2, c2, ats⟩ := ⟨_, rfl⟩
  have x1 : X.Ac = A1 := by rw [hX]
  have x2 : X.nc = n1 := by rw [hX]
  have x3 : X.cc = c1 := by rw [hX]
  have x4 : X.L = cs := by rw [hX]
  rw [← hX] at HA0
  have HX := Lib.hid hX
  generalize w1.alloc (.cells #[.slice A1 n1 c1, .slice A2 n2 c2, .int .i64 0, .int .i64 0, .slice none 0 0, .int .i64 0, .int .i64 0] 72) = W0 at *
  generalize w1.heap.size = N at *
  clear hX
  have HX1 := Lib.hid x1
  clear x1
  subst x2 x3 x4
  go_loopw [] (fun wx => ∃ (p o : Nat) (tv : Value) (ts : List Tk) (wrg er : Int), Hid (AtD X N W0 R wx p o tv ts wrg er)) (fun wx => dmeas X.nc N wx)
  case atStart => exact ⟨0, 0, .slice none 0 0, [], 0, 0, HA0.out⟩
  case round =>
   obtain ⟨p, o, tv, ts, wrg, er, HA⟩ := hrel
   obtain ⟨c0, c1, c2, c3, c4, c5, c6⟩ := HA.out.rd.cells
   have f2 := HA.out.rd.fr 2
   have hple := HA.out.rd.le
   obtain ⟨q1, q2, q3⟩ := HA.out.rd.nc
   have HQ1 := Lib.hid q1
   clear q1 q3
   by_cases he : er = 0
   ·subst he
    obtain ⟨hl, h1, h2, h3⟩ := HA.out.live rfl
    have HL := Lib.hid hl
    have H3 := Lib.hid h3
    clear hl h3
    by_cases hlt : p < X.nc
    ·obtain ⟨bA, oA, x, hA, _, hx, hcx⟩ := HA.out.rd.chars.got hlt
     have HCx := Lib.hid hx
     obtain rfl := HX1.out.symm.trans hA
     have hpi : (p : Int) < (X.nc : Int) := by omega
     have hp0 : (0 : Int) ≤ (p : Int) := by omega
     by_cases hbl : x = 32 ∨ x = 9
     ·have hA2 := HA.out.blank hlt HCx.out hbl
      have HA2 := Lib.hid hA2
      have HM2 : Hid (dmeas X.nc N (wr.setCell ⟨N, 2, none⟩ (.int .i64 ((p : Int) + 1))) < dmeas X.nc N wr) := by
       show _ < _
       rw [dmeas_at hA2.rd, dmeas_at HA.out.rd, if_pos rfl, if_pos rfl]
       omega
      clear hx hA2
      have HRR := HA
      rcases hbl with rfl | rfl
      all_goals
       go_wp2_with fail
       go_roundw
       case rel => exact ⟨p + 1, o, tv, ts, wrg, 0, HA2.out⟩
       case measure => exact HM2.out
     ·have qb1 : (x == 32) = false := by simp; omega
      have qb2 : (x == 9) = false := by simp; omega
      clear hx
      by_cases ho : 0 < o
      ·have hoi : (0 : Int) < (o : Int) := by omega
       have hs := dset_any HA.out.rd hlt (by omega) (by omega) ho (H3.out ho) HCx.out
       rw [show inS (lastK ts) x (X.L.drop (p + 1)) = stepS o ts x (X.L.drop (p + 1)) by unfold W.stepS; rw [if_pos ho]] at hs
       have HS := Lib.hid hs
       have HDM : Hid (dmeas X.nc N wr = X.nc + 1 - p) := by show _ = _; rw [dmeas_at HA.out.rd, if_pos rfl]
       have HNX : Hid (∀ e w2, StepD X N wr p o ts wrg (stepS o ts x (X.L.drop (p + 1))) e w2 → e = .returned (.tuple #[]) ∧ ∃ p' o' tv' ts' wr' er', AtD X N W0 R w2 p' o' tv' ts' wr' er' ∧ dmeas X.nc N w2 < X.nc + 1 - p) := fun e w2 h => HA.out.step hlt HCx.out hbl h
       clear hs HCx
       go_wp2_with fail
       refine HS.out.mono ?_
       intro e w2 hP
       obtain ⟨rfl, p', o', tv', ts', wr', er', hA2, hm2⟩ := HNX.out e w2 hP
       have HA2 := Lib.hid hA2
       have HM2 := Lib.hid hm2
       clear hP hA2 hm2 HS HNX
       go_wp2_with fail
       go_roundw
       case rel => exact ⟨p', o', tv', ts', wr', er', HA2.out⟩
       case measure =>
        show dmeas X.nc N _ < dmeas X.nc N _
        rw [HDM.out]; exact HM2.out
      ·have hoi : ¬ (0 : Int) < (o : Int) := by omega
       have hs := dstep_all HA.out.rd hlt (by omega) (by omega) HCx.out
       rw [show outS x (X.L.drop (p + 1)) = stepS o ts x (X.L.drop (p + 1)) by unfold W.stepS; rw [if_neg ho]] at hs
       have HS := Lib.hid hs
       have HDM : Hid (dmeas X.nc N wr = X.nc + 1 - p) := by show _ = _; rw [dmeas_at HA.out.rd, if_pos rfl]
       have HNX : Hid (∀ e w2, StepD X N wr p o ts wrg (stepS o ts x (X.L.drop (p + 1))) e w2 → e = .returned (.tuple #[]) ∧ ∃ p' o' tv' ts' wr' er', AtD X N W0 R w2 p' o' tv' ts' wr' er' ∧ dmeas X.nc N w2 < X.nc + 1 - p) := fun e w2 h => HA.out.step hlt HCx.out hbl h
       clear hs HCx
       go_wp2_with fail
       refine HS.out.mono ?_
       intro e w2 hP
       obtain ⟨rfl, p', o', tv', ts', wr', er', hA2, hm2⟩ := HNX.out e w2 hP
       have HA2 := Lib.hid hA2
       have HM2 := Lib.hid hm2
       clear hP hA2 hm2 HS HNX
       go_wp2_with fail
       go_roundw
       case rel => exact ⟨p', o', tv', ts', wr', er', HA2.out⟩
       case measure =>
        show dmeas X.nc N _ < dmeas X.nc N _
        rw [HDM.out]; exact HM2.out
    ·obtain rfl : p = X.nc := by omega
     rw [List.drop_eq_nil_of_le (by rw [HQ1.out]; exact Nat.le_refl _), W.lexS_nil] at HL
     have HBL := Lib.hid HA.out.bel
     by_cases ho : 0 < o
     ·have hoi : (0 : Int) < (o : Int) := by omega
      have hRb := HL.out
      rw [if_pos ho] at hRb
      have hfail := Lib.hid (dfail_any HA.out.rd (i := X.nc) (Nat.le_refl _) 5)
      have HE0 : Hid (∀ w', Below N W0 w' → OfP5 w Bs (.returned (.tuple #[.slice none 0 0, .int .i64 (plc X.L X.nc : Nat), .int .i64 5])) w') := fun w' h => ⟨none, 0, 0, [], _, 5, rfl, RdT.nil _ _, .bad X.L ats (-1) HD.out X.nc 5 (HR.out.trans hRb.symm), HBW.out w' h⟩
      clear HD HR HBW hRb HL H3
      go_wp2_with fail
      refine hfail.out.mono ?_
      rintro e w2 ⟨rfl, hR2, hb2⟩
      rw [if_pos rfl, if_pos rfl] at hR2
      clear c0 c1 c2 c3 c4 c5 c6
      obtain ⟨c0, c1, c2, c3, c4, c5, c6⟩ := hR2.cells
      have HB2 := Lib.hid (HBL.out.trans hb2)
      clear hR2 hb2 hfail HA
      go_wp2_with fail
      go_quiet (fail)
      have HE := Lib.hid (HE0.out _ (kbelow_drewN HB2.out nq))
      clear HE0 HB2
      go_wp2_with fail
      exact bodyPost_ret (v := .tuple #[.slice none 0 0, .int .i64 (plc X.L X.nc : Nat), .int .i64 5]) (by simp [results, Tryz.results18, go_sem]) rfl HE.out
     ·have hoi : ¬ (0 : Int) < (o : Int) := by omega
      have hRb := HL.out
      rw [if_neg ho] at hRb
      obtain ⟨Av, cv, htv, hrd⟩ := HA.out.rd.row.rd
      rw [List.length_map] at htv hrd
      subst htv
      have HE : Hid (OfP5 w Bs (.returned (.tuple #[.slice Av ts.length cv, .int .i64 (-1), .int .i64 0])) wr) := ⟨Av, ts.length, cv, placed X.L ts, -1, 0, rfl, by rw [HX.out] at hrd; rw [HX.out]; exact hrd, .ok X.L ats (-1) HD.out ts (HR.out.trans hRb.symm), HBW.out wr HBL.out⟩
      clear HD HR HBW hRb HL H3 hrd HA
      go_wp2_with fail
      exact bodyPost_ret (v := .tuple #[.slice Av ts.length cv, .int .i64 (-1), .int .i64 0]) (by simp [results, Tryz.results18, go_sem]) rfl HE.out
   ·obtain ⟨k, hRb, hwr⟩ := HA.out.dead he
    have HE0 : Hid (∀ w', Below N W0 w' → OfP5 w Bs (.returned (.tuple #[.slice none 0 0, .int .i64 wrg, .int .i64 er])) w') := fun w' h => ⟨none, 0, 0, [], wrg, er, rfl, RdT.nil _ _, by rw [hwr]; exact .bad X.L ats (-1) HD.out k er (HR.out.trans hRb), HBW.out w' h⟩
    have HBL := Lib.hid HA.out.bel
    have g1 : (er == 0) = false := by simpa using he
    have g2 : (er != 0) = true := by rw [bne_iff_ne]; exact he
    by_cases ho : 0 < o
    ·have hoi : (0 : Int) < (o : Int) := by omega
     have hfail := Lib.hid (dfail_any HA.out.rd (i := X.nc) (Nat.le_refl _) 5)
     clear HD HR HBW hRb hwr
     go_wp2_with fail
     refine hfail.out.mono ?_
     rintro e w2 ⟨rfl, hR2, hb2⟩
     rw [if_neg he, if_neg he] at hR2
     clear c0 c1 c2 c3 c4 c5 c6
     obtain ⟨c0, c1, c2, c3, c4, c5, c6⟩ := hR2.cells
     have HB2 := Lib.hid (HBL.out.trans hb2)
     clear hR2 hb2 hfail HA
     go_wp2_with fail
     go_quiet (fail)
     have HE := Lib.hid (HE0.out _ (kbelow_drewN HB2.out nq))
     clear HE0 HB2
     go_wp2_with fail
     exact bodyPost_ret (v := .tuple #[.slice none 0 0, .int .i64 wrg, .int .i64 er]) (by simp [results, Tryz.results18, go_sem]) rfl HE.out
    ·have hoi : ¬ (0 : Int) < (o : Int) := by omega
     clear HD HR HBW hRb hwr HA
     go_wp2_with fail
     go_quiet (fail)
     have HE := Lib.hid (HE0.out _ (kbelow_drewN HBL.out nq))
     clear HE0 HBL
     go_wp2_with fail
     exact bodyPost_ret (v := .tuple #[.slice none 0 0, .int .i64 wrg, .int .i64 er]) (by simp [results, Tryz.results18, go_sem]) rfl HE.out
 ·have g1 : (er != 0) = true := by simpa using he
  have HE : Hid (OfP5 w Bs (.returned (.tuple #[.slice none 0 0, .int .i64 x, .int .i64 er])) w1) := ⟨none, 0, 0, [], x, er, rfl, RdT.nil _ _, .dec cs ats x er HD.out he, HB1.out⟩
  clear r1 r2 hd hb1 hdec
  go_wp2_with fail
  exact bodyPost_ret (v := .tuple #[.slice none 0 0, .int .i64 x, .int .i64 er]) (by simp [results, Tryz.results18, go_sem]) rfl HE.out
end Go.Proofs.YtmohefgdpddldaaGreatDoor
