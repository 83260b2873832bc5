/- Part of the proof. -/
import Derived.Test.YtbbmjdddemahfaaGreatSW26
import Derived.Test.YtbbmjdddemahfaaGreatSW06
set_option maxRecDepth 100000
namespace Go.Proofs.YtbbmjdddemahfaaGreat
open W (Tk St lexS lexS_nil lexS_blank lexS_step stepS inS outS nameS setS numT noteS charsS signK)

def GdK (k:Int) (x:List Int) (lo:Int):Prop:=k≠0∧(k=1→lo=0)∧(k=2→x=[])
def Gd (t:Tok):Prop:=GdK t.kind t.text t.low
def GdS:St→Prop
 | .tok k x lo _ _=>GdK k x lo
 | _=>True
theorem gd_bare {k lo:Int}(h:k≠0) (h1:k≠1):GdK k [] lo:=⟨h,fun e=>absurd e h1,fun _=>rfl⟩
theorem nameS_gd (t:List Int):GdS (nameS t):=by
 unfold W.nameS
 split
 ·split
  ·trivial
  ·exact ⟨by decide,fun _=>rfl,fun h=>absurd h (by decide)⟩
 ·trivial
theorem setS_gd (t:List Int):GdS (setS t):=by
 unfold W.setS
 split <;> exact gd_bare (by decide) (by decide)
theorem numT_gd (t:List Int):GdS (numT t):=by
 unfold W.numT
 split
 ·exact gd_bare (by decide) (by decide)
 ·trivial
theorem noteS_gd (t:List Int):GdS (noteS t):=by
 unfold W.noteS
 split
 ·split
  ·exact ⟨by decide,fun h=>absurd h (by decide),fun h=>absurd h (by decide)⟩
  ·trivial
 ·trivial
theorem charsS_gd (t:List Int):GdS (charsS t):=by
 unfold W.charsS
 split
 ·trivial
 ·split
  ·trivial
  ·split
   ·trivial
   ·exact gd_bare (by decide) (by decide)
theorem stepS_gd (o:Nat) (ts:List Tk) (c:Int) (t:List Int):GdS (stepS o ts c t):=by
 unfold W.stepS
 split
 ·unfold W.inS
  split
  ·exact nameS_gd t
  ·split
   ·exact setS_gd t
   ·split
    ·exact gd_bare (by decide) (by decide)
    ·split
     ·exact gd_bare (by decide) (by decide)
     ·split
      ·split
       ·exact gd_bare (by decide) (by decide)
       ·trivial
      ·exact charsS_gd _
 ·unfold W.outS
  split
  ·exact nameS_gd t
  ·split
   ·exact numT_gd _
   ·split
    ·exact setS_gd t
    ·split
     ·exact noteS_gd _
     ·split
      ·trivial
      ·rename_i h
       exact ⟨h,fun _=>rfl,fun _=>rfl⟩
theorem lex_gd:∀ (n:Nat) (l:List Int),l.length≤n→∀ (i o:Nat) (ts ts' : List Tk),(∀ t∈ts,GdK t.kind t.text t.low)→lexS l i o ts=.ok ts' → ∀ t∈ts', GdK t.kind t.text t.low:=by
 intro n
 induction n with
 | zero =>
  intro l hl i o ts ts' hg h
  obtain rfl:l=[]:=List.eq_nil_of_length_eq_zero (by omega)
  rw[lexS_nil] at h
  split at h
  ·cases h
  ·injection h with h;subst h;exact hg
 | succ n ih =>
  intro l hl i o ts ts' hg h
  cases l with
  | nil =>
   rw[lexS_nil] at h
   split at h
   ·cases h
   ·injection h with h;subst h;exact hg
  | cons c t =>
   simp only[List.length_cons] at hl
   by_cases hb:c=32∨c=9
   ·rw[lexS_blank hb] at h
    exact ih t (by omega) _ _ _ _ hg h
   ·rw[lexS_step hb] at h
    have hs2:=stepS_gd o ts c t
    cases hs:stepS o ts c t with
    | bad k e=>rw[hs] at h;cases h
    | tok k x lo hi m =>
     rw[hs] at h hs2
     refine ih (t.drop m) (by rw[List.length_drop];omega) _ _ _ _ (fun u hu=>?_) h
     rcases List.mem_append.1 hu with h1|h1
     ·exact hg u h1
     ·simp at h1;subst h1;exact hs2
    | skip m =>
     rw[hs] at h
     exact ih (t.drop m) (by rw[List.length_drop];omega) _ _ _ _ hg h
open Y (Nd Ps)
end Go.Proofs.YtbbmjdddemahfaaGreat
