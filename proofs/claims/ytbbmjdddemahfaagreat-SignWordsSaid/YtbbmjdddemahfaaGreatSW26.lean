/- Part of the proof. -/
import Derived.Test.YtbbmjdddemahfaaGreatSW08
import Derived.Test.YtbbmjdddemahfaaGreatSW25
set_option maxRecDepth 100000
namespace Go.Proofs.YtbbmjdddemahfaaGreat
namespace W
open E (okb encB flat)
open Q (plainB R readS)

def dgB (c:Int):Bool:=decide (48≤c∧c≤57)
def ltB (c:Int):Bool:=decide (97≤c∧c≤122∨65≤c∧c≤90)
def smB (c:Int):Bool:=decide (97≤c∧c≤122)
def nmB (c:Int):Bool:=plainB c || decide (c=95)
def noLf (c:Int):Bool:=decide (c≠10)
def noBl (c:Int):Bool:=decide (c≠32)
def markB (c:Int):Bool:=decide (c=91∨c=93∨c=38∨c=45∨c=36∨c=35∨c=94∨c=10)
def many (p:Int→Bool) (l:List Int):Nat:=(l.takeWhile p).length
def valN:List Int→Nat→Int→Int
 | _,0,n=>n
 | [],m+1,n=>valN [] m (n*10)
 | c :: t,m+1,n=>valN t m (n*10+(c - 48))
def partN (l:List Int):Nat:=if l[many dgB l]?=some 46 then many dgB (l.drop (many dgB l+1)) else 0
def numB (l:List Int):Int × Nat × Int :=
 if many dgB l=0∨1<many dgB l∧l[0]?=some 48 then (0,0,4)
 else if 3<many dgB l∨3<partN l then (0,0,2)
 else (valN (l.take (many dgB l)) (many dgB l) 0*1000+valN ((l.drop (many dgB l+1)).take (partN l)) 3 0,if 0<partN l then many dgB l+1+partN l else many dgB l,0)
def lettersB (k:List Int):Bool:=k.all smB && decide (1≤k.length) && decide (k.length≤16)
def allowB (l:List Int):Option (List Int × Int) :=
 if lettersB (l.takeWhile noBl)=true then
  if many noBl l=l.length then some (l.takeWhile noBl,-1)
  else if (numB (l.drop (many noBl l+1))).2.2=0∧(numB (l.drop (many noBl l+1))).2.1=(l.drop (many noBl l+1)).length then some (l.takeWhile noBl,(numB (l.drop (many noBl l+1))).1) else none
 else none
inductive St where
 | tok (kind:Int) (text:List Int) (low high:Int) (m:Nat)
 | skip (m:Nat)
 | bad (k:Nat) (e:Int)
def nameS (t:List Int):St:=if ltB (t.headD (-1))=true then (if 16<many nmB t then .bad 0 2 else .tok 1 (t.takeWhile nmB) 0 0 (many nmB t)) else .bad 0 4
def setS (t:List Int):St:=if t.headD (-1)=94 then .tok 13 [] 1 0 1 else .tok 13 [] 0 0 0
def numT (l:List Int):St:=if (numB l).2.2=0 then .tok 2 [] (numB l).1 0 ((numB l).2.1 - 1) else .bad 0 (numB l).2.2
def allowP:List Int:=[35,97,108,108,111,119,32]
def noteS (l:List Int):St :=
 if (l.takeWhile noLf).take 7=allowP then
  (match allowB ((l.takeWhile noLf).drop 7) with|some x=>.tok 19 x.1 x.2 0 (many noLf l - 1)|none=>.bad 0 4)
 else .skip (many noLf l - 1)
inductive C where
 | ok (c:Int) (n:Nat)
 | bad (k:Nat) (e:Int)
def chS (l:List Int) (k:Nat):C :=
 if markB ((l.drop k).headD (-1))=true then .bad k 4 else match readS (l.drop k) k with | .ok c n=>.ok c n | .bad e=>if e=5 then .bad l.length 5 else .bad k e
def hiS (l:List Int) (lo:Int) (n:Nat):C:=if (l.drop n).headD (-1)=45 then chS l (n+1) else .ok lo n
def charsS (l:List Int):St :=
 match chS l 0 with
 | .bad k e=>.bad k e
 | .ok lo n=>match hiS l lo n with
  | .bad k e=>.bad k e
  | .ok hi m=>if hi<lo then .bad 0 7 else .tok 15 [] lo hi (m - 1)
def signK (c:Int):Int :=
 if c=61 then 3 else if c=215 then 4 else if c=247 then 5 else if c=40 then 6 else if c=41 then 7 else if c=124 then 8 else if c=42 then 9 else if c=43 then 10 else if c=63 then 11 else if c=46 then 12 else if c=10 then 18 else 0
def outS (c:Int) (t:List Int):St :=
 if c=36 then nameS t else if dgB c=true then numT (c :: t) else if c=91 then setS t else if c=35 then noteS (c :: t) else if signK c=0 then .bad 0 4 else .tok (signK c) [] 0 0 0
def inS (last c:Int) (t:List Int):St :=
 if c=36 then nameS t else if c=91 then setS t else if c=93 then .tok 14 [] 0 0 0 else if c=38 then .tok 16 [] 0 0 0
 else if c=45 then (if last=14∨last=1 then .tok 17 [] 0 0 0 else .bad 0 4) else charsS (c :: t)
structure Tk where
 kind:Int
 text:List Int
 low:Int
 high:Int
 at_:Nat
deriving DecidableEq
def opn (k:Int) (o:Nat):Nat:=if k=13 then o+1 else if k=14 then o - 1 else o
def lastK (ts:List Tk):Int:=match ts.getLast? with|some t=>t.kind|none=>0
def stepS (o:Nat) (ts:List Tk) (c:Int) (t:List Int):St:=if 0<o then inS (lastK ts) c t else outS c t
inductive Lx where
 | ok (ts:List Tk)
 | bad (k:Nat) (e:Int)
def lexF:Nat→List Int→Nat→Nat→List Tk→Lx
 | 0,_,_,_,_=>.bad 0 0
 | _+1,[],i,o,ts=>if 0<o then .bad i 5 else .ok ts
 | f+1,c :: t,i,o,ts =>
  if c=32∨c=9 then lexF f t (i+1) o ts else
  match stepS o ts c t with
  | .tok k x lo hi m=>lexF f (t.drop m) (i+m+1) (opn k o) (ts++[⟨k,x,lo,hi,i⟩])
  | .skip m=>lexF f (t.drop m) (i+m+1) o ts
  | .bad k e=>.bad (i+k) e
theorem lex_fuel:∀ (f g:Nat) (l:List Int) (i o:Nat) (ts:List Tk),l.length<f→l.length<g→lexF f l i o ts=lexF g l i o ts:=by
 intro f
 induction f with
 | zero=>intro g l i o ts h;omega
 | succ f ih =>
  intro g l i o ts h h'
  cases g with
  | zero=>omega
  | succ g =>
   cases l with
   | nil=>rfl
   | cons c t =>
    simp only[List.length_cons] at h h'
    rw[lexF,lexF]
    split
    ·exact ih g t _ _ _ (by omega) (by omega)
    ·cases stepS o ts c t with
     | tok k x lo hi m=>exact ih g _ _ _ _ (by rw[List.length_drop];omega) (by rw[List.length_drop];omega)
     | skip m=>exact ih g _ _ _ _ (by rw[List.length_drop];omega) (by rw[List.length_drop];omega)
     | bad k e=>rfl
def lexS (l:List Int) (i o:Nat) (ts:List Tk):Lx:=lexF (l.length+1) l i o ts
theorem lexS_nil (i o:Nat) (ts:List Tk):lexS [] i o ts=if 0<o then .bad i 5 else .ok ts:=rfl
theorem lexS_blank {c:Int}(h:c=32∨c=9) (t:List Int) (i o:Nat) (ts:List Tk):lexS (c :: t) i o ts=lexS t (i+1) o ts:=by
 unfold lexS;rw[List.length_cons,lexF,if_pos h]
theorem lexS_step {c:Int}(h:¬ (c=32∨c=9)) (t:List Int) (i o:Nat) (ts:List Tk):lexS (c :: t) i o ts =
  match stepS o ts c t with
  | .tok k x lo hi m=>lexS (t.drop m) (i+m+1) (opn k o) (ts++[⟨k,x,lo,hi,i⟩])
  | .skip m=>lexS (t.drop m) (i+m+1) o ts
  | .bad k e=>.bad (i+k) e:=by
 unfold lexS;rw[List.length_cons,lexF,if_neg h]
 cases stepS o ts c t with
 | tok k x lo hi m=>exact lex_fuel _ _ _ _ _ _ (by rw[List.length_drop];omega) (by rw[List.length_drop];omega)
 | skip m=>exact lex_fuel _ _ _ _ _ _ (by rw[List.length_drop];omega) (by rw[List.length_drop];omega)
 | bad k e=>rfl
theorem take_many (p:Int→Bool) (l:List Int):l.take (many p l)=l.takeWhile p:=by
 have h:=List.takeWhile_prefix p (l:=l)
 exact (List.prefix_iff_eq_take.1 h).symm
theorem many_cons {p:Int→Bool}{c:Int}(h:p c=true) (t:List Int):many p (c :: t)=many p t+1:=by
 unfold many;rw[List.takeWhile_cons_of_pos h,List.length_cons]
theorem many_stop {p:Int→Bool}{c:Int}(h:p c=false) (t:List Int):many p (c :: t)=0:=by
 unfold many;rw[List.takeWhile_cons_of_neg (by rw[h];decide)];rfl
theorem many_at {p:Int→Bool}{l:List Int}{k:Nat}(h1:∀ j x,j<k→l[j]?=some x→p x=true) (hk:k≤l.length) (h2:∀ x,l[k]?=some x→p x=false):many p l=k:=by
 induction l generalizing k with
 | nil=>simp at hk;subst hk;rfl
 | cons c t ih =>
  cases k with
  | zero=>exact many_stop (h2 c rfl) t
  | succ k =>
   rw[many_cons (h1 0 c (by omega) rfl),ih (k:=k) (fun j x hj hx=>h1 (j+1) x (by omega) (by simpa using hx)) (by simpa using hk) (fun x hx=>h2 x (by simpa using hx))]
theorem num_pos {l:List Int}(h:(numB l).2.2=0):1≤(numB l).2.1:=by
 unfold numB at h ⊢
 split at h
 ·cases h
 ·rename_i h1
  split at h
  ·cases h
  ·rename_i h2
   rw[if_neg h1,if_neg h2]
   show 1≤(if 0<partN l then _ else _)
   split <;> omega
theorem enc_small {c:Int}(h:okb c=true) (hc:c<128):encB c=[c]:=by
 rcases E.enc_kinds h with ⟨_,_,h3⟩|⟨h1,_⟩|⟨h1,_⟩|⟨h1,_⟩
 ·exact h3
 ·omega
 ·omega
 ·omega
def Low (p:Int→Bool):Prop:=∀ c,p c=true→c<128
theorem low_nm:Low nmB:=fun c h=>by
 unfold nmB at h;rw[Bool.or_eq_true,Q.plain_iff,decide_eq_true_eq] at h;omega
theorem flat_len {l:List Int}(h:l.all okb=true):l.length≤(flat l).length:=E.flat_ge fun c hc=>List.all_eq_true.1 h c hc
end W
namespace W
open E (okb encB flat)

end W
namespace W
open Q (plainB R readS numS uS escS)

structure Ends (z:Int) (l:List Int):Prop where
 nm:nmB z=false
 dg:dgB z=false
 lt:ltB z=false
 n46:z≠46
 n94:z≠94
 n45:z≠45
 note:z=10∨35∉l
def St.good:St→Prop
 | .tok _ _ _ _ _=>True
 | .skip _=>True
 | .bad _ _=>False
def St.len:St→Nat
 | .tok _ _ _ _ m=>m+1
 | .skip m=>m+1
 | .bad _ _=>0
end W
namespace W

end W
end Go.Proofs.YtbbmjdddemahfaaGreat
