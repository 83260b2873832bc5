/- Part of the proof. -/
import Derived.Test.YtbbmjdddemahfaaGreatSW01
import Derived.Test.YtbbmjdddemahfaaGreatSW05
set_option maxRecDepth 100000
namespace Go.Proofs.YtbbmjdddemahfaaGreat
namespace Y

inductive Nd where
 | mk (kind:Int) (name:ByteArray) (low high:Int) (kids:List Nd)
def Nd.kind:Nd→Int | .mk k _ _ _ _=>k
def Nd.name:Nd→ByteArray | .mk _ s _ _ _=>s
def Nd.low:Nd→Int | .mk _ _ x _ _=>x
def Nd.high:Nd→Int | .mk _ _ _ x _=>x
def Nd.kids:Nd→List Nd | .mk _ _ _ _ l=>l
mutual
def Nd.size:Nd→Nat
 | .mk _ _ _ _ l=>sizeL l+1
def sizeL:List Nd→Nat
 | []=>0
 | x :: t=>x.size+sizeL t
end
theorem Nd.size_pos (x:Nd):1≤x.size:=by cases x;rw[Nd.size];omega
structure It where
 kind:Int
 name:ByteArray
 number:Int
 cut:Bool
 before:Nd
 after:Nd
 pos:Int
def noName:ByteArray:={ data:=#[] }
def zeroN:Nd:=.mk 0 noName 0 0 []
inductive Ps where
 | live (ts:List Tok)
 | dead (at_ why:Int)
def Ps.toks:Ps→List Tok | .live ts=>ts | .dead _ _=>[]
def Ps.atv:Ps→Int | .live _=>0 | .dead a _=>a
def Ps.whyv:Ps→Int | .live _=>0 | .dead _ y=>y
def failP (e why:Int):Ps→Ps
 | .dead a y=>.dead a y
 | .live []=>.dead e 5
 | .live (t :: _)=>.dead t.pos why
def nextP (ks:List Int) (s:Ps):Bool:=match s.toks with | []=>false|t :: _=>ks.contains t.kind
def noTok:Tok:=⟨0,[],0,0,0⟩
def takeP (e:Int) (ks:List Int) (s:Ps):Tok × Ps :=
 match s with
 | .live (t :: u)=>if ks.contains t.kind=true then (t,.live u) else (noTok,.dead t.pos 4)
 | .live []=>(noTok,.dead e 5)
 | .dead a y=>(noTok,.dead a y)
def several (k:Int) (l:List Nd):Nd:=match l with | [x]=>x|_=>.mk k noName 0 0 l
def single (t:Tok):Nd:=if t.kind=1 then .mk 2 (strOfNums t.text) 0 0 [] else if t.kind=15 then .mk 5 noName t.low t.high [] else .mk 3 noName 0 0 []
def kindP (k:Int):Int:=if k=9 then 10 else if k=10 then 11 else if k=11 then 12 else if k=16 then 6 else 7
def deepP (e:Int) (o:Nat) (s:Ps):Ps:=if o=12 then failP e 8 s else s
mutual
def formP (e:Int):Nat→Nat→Ps→Nd × Ps
 | 0,_,s=>(zeroN,s)
 | n+1,o,s=>orsP e n o [(joinP e n o s).1] (joinP e n o s).2
def orsP (e:Int):Nat→Nat→List Nd→Ps→Nd × Ps
 | 0,_,l,s=>(several 9 l,s)
 | n+1,o,l,s=>if nextP [8] s=true then orsP e n o (l++[(joinP e n o (takeP e [8] s).2).1]) (joinP e n o (takeP e [8] s).2).2 else (several 9 l,s)
def joinP (e:Int):Nat→Nat→Ps→Nd × Ps
 | 0,_,s=>(zeroN,s)
 | n+1,o,s=>(if (piecesP e n o [] s).1=[] then .mk 1 noName 0 0 [] else several 8 (piecesP e n o [] s).1,(piecesP e n o [] s).2)
def piecesP (e:Int):Nat→Nat→List Nd→Ps→List Nd × Ps
 | 0,_,l,s=>(l,s)
 | n+1,o,l,s=>if nextP [1,12,6,13] s=true then piecesP e n o (l++[(pieceP e n o s).1]) (pieceP e n o s).2 else (l,s)
def pieceP (e:Int):Nat→Nat→Ps→Nd × Ps
 | 0,_,s=>(zeroN,s)
 | n+1,o,s=>if nextP [9,10,11] (bareP e n o s).2=true then (.mk (kindP (takeP e [9,10,11] (bareP e n o s).2).1.kind) noName 0 0 [(bareP e n o s).1],(takeP e [9,10,11] (bareP e n o s).2).2) else bareP e n o s
def bareP (e:Int):Nat→Nat→Ps→Nd × Ps
 | 0,_,s=>(zeroN,s)
 | n+1,o,s =>
  if nextP [6] s=true then
   ((formP e n (o+1) (takeP e [6] (deepP e o s)).2).1,(takeP e [7] (formP e n (o+1) (takeP e [6] (deepP e o s)).2).2).2)
  else if nextP [13] s=true then setP e n o s
  else (single (takeP e [1,12] s).1,(takeP e [1,12] s).2)
def setP (e:Int):Nat→Nat→Ps→Nd × Ps
 | 0,_,s=>(zeroN,s)
 | n+1,o,s=>(.mk 4 noName (takeP e [13] (deepP e o s)).1.low 0 (partsP e n (o+1) [] (takeP e [13] (deepP e o s)).2).1,(takeP e [14] (partsP e n (o+1) [] (takeP e [13] (deepP e o s)).2).2).2)
def partsP (e:Int):Nat→Nat→List Nd→Ps→List Nd × Ps
 | 0,_,l,s=>(l,s)
 | n+1,o,l,s=>if nextP [15,1,13] s=true then partsP e n o (l++[(partP e n o s).1]) (partP e n o s).2 else (l,s)
def partP (e:Int):Nat→Nat→Ps→Nd × Ps
 | 0,_,s=>(zeroN,s)
 | n+1,o,s=>heldP e n o (memberP e n o s).1 (memberP e n o s).2
def heldP (e:Int):Nat→Nat→Nd→Ps→Nd × Ps
 | 0,_,x,s=>(x,s)
 | n+1,o,x,s=>if nextP [16,17] s=true then heldP e n o (.mk (kindP (takeP e [16,17] s).1.kind) noName 0 0 [x,(memberP e n o (takeP e [16,17] s).2).1]) (memberP e n o (takeP e [16,17] s).2).2 else (x,s)
def memberP (e:Int):Nat→Nat→Ps→Nd × Ps
 | 0,_,s=>(zeroN,s)
 | n+1,o,s=>if nextP [13] s=true then setP e n o s else (single (takeP e [15,1] s).1,(takeP e [15,1] s).2)
end
def itemP (e:Int) (n:Nat) (s:Ps):It × Ps :=
 if (takeP e [1,2,19] s).1.kind=1 then
  (⟨1,strOfNums (takeP e [1,2,19] s).1.text,0,false,(formP e n 0 (takeP e [3] (takeP e [1,2,19] s).2).2).1,zeroN,(takeP e [1,2,19] s).1.pos⟩,(formP e n 0 (takeP e [3] (takeP e [1,2,19] s).2).2).2)
 else if (takeP e [1,2,19] s).1.kind=2 then
  (⟨2,noName,(takeP e [1,2,19] s).1.low,decide ((takeP e [4,5] (formP e n 0 (takeP e [1,2,19] s).2).2).1.kind=5),(formP e n 0 (takeP e [1,2,19] s).2).1,(formP e n 0 (takeP e [4,5] (formP e n 0 (takeP e [1,2,19] s).2).2).2).1,(takeP e [1,2,19] s).1.pos⟩,(formP e n 0 (takeP e [4,5] (formP e n 0 (takeP e [1,2,19] s).2).2).2).2)
 else (⟨3,strOfNums (takeP e [1,2,19] s).1.text,(takeP e [1,2,19] s).1.low,false,zeroN,zeroN,(takeP e [1,2,19] s).1.pos⟩,(takeP e [1,2,19] s).2)
def lineP (e:Int) (s:Ps):Ps:=if s.toks=[] then s else (takeP e [18] s).2
def itemsP (e:Int) (n:Nat):Nat→List It→Ps→List It × Ps
 | 0,l,s=>(l,s)
 | m+1,l,s =>
  if s.toks=[] then (l,s)
  else if nextP [18] s=true then itemsP e n m l (takeP e [18] s).2
  else if l.length=100 then (l,failP e 9 s)
  else itemsP e n m (l++[(itemP e n s).1]) (lineP e (itemP e n s).2)
def lastP (e:Int) (s:Ps):Ps:=if s.toks=[] then s else failP e 4 s
end Y
namespace Y

@[simp] theorem next_dead (ks:List Int) (a y:Int):nextP ks (.dead a y)=false:=rfl
@[simp] theorem next_nil (ks:List Int):nextP ks (.live [])=false:=rfl
@[simp] theorem next_cons (ks:List Int) (t:Tok) (u:List Tok):nextP ks (.live (t :: u))=ks.contains t.kind:=rfl
@[simp] theorem take_dead (e:Int) (ks:List Int) (a y:Int):takeP e ks (.dead a y)=(noTok,.dead a y):=rfl
@[simp] theorem take_nil (e:Int) (ks:List Int):takeP e ks (.live [])=(noTok,.dead e 5):=rfl
@[simp] theorem take_cons (e:Int) (ks:List Int) (t:Tok) (u:List Tok):takeP e ks (.live (t :: u))=if ks.contains t.kind=true then (t,.live u) else (noTok,.dead t.pos 4):=rfl
@[simp] theorem fail_dead (e w a y:Int):failP e w (.dead a y)=.dead a y:=rfl
@[simp] theorem deep_dead (e:Int) (o:Nat) (a y:Int):deepP e o (.dead a y)=.dead a y:=by unfold deepP;split <;> rfl
theorem take_len (e:Int) (ks:List Int) (s:Ps):(takeP e ks s).2.toks.length≤s.toks.length:=by
 rcases s with (_|⟨t,u⟩)|⟨a,y⟩
 ·simp[Ps.toks]
 ·rw[take_cons];split <;> simp[Ps.toks]
 ·simp[Ps.toks]
theorem take_less (e:Int) (ks ks' : List Int) (s:Ps) (h:nextP ks s=true):(takeP e ks' s).2.toks.length<s.toks.length:=by
 rcases s with (_|⟨t,u⟩)|⟨a,y⟩
 ·simp at h
 ·rw[take_cons];split <;> simp[Ps.toks]
 ·simp at h
theorem fail_len (e w:Int) (s:Ps):(failP e w s).toks.length≤s.toks.length:=by
 rcases s with (_|⟨t,u⟩)|⟨a,y⟩ <;> simp[Ps.toks,failP]
theorem deep_len (e:Int) (o:Nat) (s:Ps):(deepP e o s).toks.length≤s.toks.length:=by
 unfold deepP;split
 ·exact fail_len _ _ _
 ·exact Nat.le_refl _
theorem deep_take (e:Int) (o:Nat) (ks ks' : List Int) (s:Ps) (h:nextP ks s=true):(takeP e ks' (deepP e o s)).2.toks.length<s.toks.length:=by
 unfold deepP
 split
 ·rcases s with (_|⟨t,u⟩)|⟨a,y⟩
  ·simp at h
  ·simp[failP,Ps.toks]
  ·simp at h
 ·exact take_less e ks ks' s h
section
variable (e:Int)
structure Dead (n:Nat):Prop where
 form:∀ o a y,(formP e n o (.dead a y)).2=.dead a y
 ors:∀ o l a y,(orsP e n o l (.dead a y)).2=.dead a y
 join:∀ o a y,(joinP e n o (.dead a y)).2=.dead a y
 pieces:∀ o l a y,(piecesP e n o l (.dead a y)).2=.dead a y
 piece:∀ o a y,(pieceP e n o (.dead a y)).2=.dead a y
 bare:∀ o a y,(bareP e n o (.dead a y)).2=.dead a y
 set:∀ o a y,(setP e n o (.dead a y)).2=.dead a y
 parts:∀ o l a y,(partsP e n o l (.dead a y)).2=.dead a y
 part:∀ o a y,(partP e n o (.dead a y)).2=.dead a y
 held:∀ o x a y,(heldP e n o x (.dead a y)).2=.dead a y
 member:∀ o a y,(memberP e n o (.dead a y)).2=.dead a y
theorem dead_all (n:Nat):Dead e n:=by
 induction n with
 | zero=>constructor <;> intros <;> simp[formP,orsP,joinP,piecesP,pieceP,bareP,setP,partsP,partP,heldP,memberP]
 | succ n ih =>
  obtain ⟨h1,h2,h3,h4,h5,h6,h7,h8,h9,h10,h11⟩:=ih
  constructor <;> intros <;> simp[formP,orsP,joinP,piecesP,pieceP,bareP,setP,partsP,partP,heldP,memberP,h1,h2,h3,h4,h5,h6,h7,h8,h9,h10,h11]
structure Len (n:Nat):Prop where
 form:∀ o s,(formP e n o s).2.toks.length≤s.toks.length
 ors:∀ o l s,(orsP e n o l s).2.toks.length≤s.toks.length
 join:∀ o s,(joinP e n o s).2.toks.length≤s.toks.length
 pieces:∀ o l s,(piecesP e n o l s).2.toks.length≤s.toks.length
 piece:∀ o s,(pieceP e n o s).2.toks.length≤s.toks.length
 bare:∀ o s,(bareP e n o s).2.toks.length≤s.toks.length
 set:∀ o s,(setP e n o s).2.toks.length≤s.toks.length
 parts:∀ o l s,(partsP e n o l s).2.toks.length≤s.toks.length
 part:∀ o s,(partP e n o s).2.toks.length≤s.toks.length
 held:∀ o x s,(heldP e n o x s).2.toks.length≤s.toks.length
 member:∀ o s,(memberP e n o s).2.toks.length≤s.toks.length
theorem len_all (n:Nat):Len e n:=by
 induction n with
 | zero=>constructor <;> intros <;> simp[formP,orsP,joinP,piecesP,pieceP,bareP,setP,partsP,partP,heldP,memberP]
 | succ n ih =>
  obtain ⟨h1,h2,h3,h4,h5,h6,h7,h8,h9,h10,h11⟩:=ih
  constructor
  ·intro o s;rw[formP];exact Nat.le_trans (h2 _ _ _) (h3 _ _)
  ·intro o l s;rw[orsP];split
   ·exact Nat.le_trans (h2 _ _ _) (Nat.le_trans (h3 _ _) (take_len _ _ _))
   ·exact Nat.le_refl _
  ·intro o s;rw[joinP];exact h4 _ _ _
  ·intro o l s;rw[piecesP];split
   ·exact Nat.le_trans (h4 _ _ _) (h5 _ _)
   ·exact Nat.le_refl _
  ·intro o s;rw[pieceP];split
   ·exact Nat.le_trans (take_len _ _ _) (h6 _ _)
   ·exact h6 _ _
  ·intro o s;rw[bareP];split
   ·exact Nat.le_trans (take_len _ _ _) (Nat.le_trans (h1 _ _) (Nat.le_trans (take_len _ _ _) (deep_len _ _ _)))
   ·split
    ·exact h7 _ _
    ·exact take_len _ _ _
  ·intro o s;rw[setP];exact Nat.le_trans (take_len _ _ _) (Nat.le_trans (h8 _ _ _) (Nat.le_trans (take_len _ _ _) (deep_len _ _ _)))
  ·intro o l s;rw[partsP];split
   ·exact Nat.le_trans (h8 _ _ _) (h9 _ _)
   ·exact Nat.le_refl _
  ·intro o s;rw[partP];exact Nat.le_trans (h10 _ _ _) (h11 _ _)
  ·intro o x s;rw[heldP];split
   ·exact Nat.le_trans (h10 _ _ _) (Nat.le_trans (h11 _ _) (take_len _ _ _))
   ·exact Nat.le_refl _
  ·intro o s;rw[memberP];split
   ·exact h7 _ _
   ·exact take_len _ _ _
end
theorem set_less (e:Int) (m o:Nat) (s:Ps){ks:List Int}(h:nextP ks s=true):(setP e (m+1) o s).2.toks.length<s.toks.length:=by
 rw[setP]
 exact Nat.lt_of_le_of_lt (Nat.le_trans (take_len _ _ _) ((len_all e m).parts _ _ _)) (deep_take e o ks _ s h)
theorem member_less (e:Int) (m o:Nat) (s:Ps){ks:List Int}(h:nextP ks s=true):(memberP e (m+2) o s).2.toks.length<s.toks.length:=by
 rw[memberP]
 split
 ·exact set_less e m o s h
 ·exact take_less e ks _ s h
theorem part_less (e:Int) (m o:Nat) (s:Ps){ks:List Int}(h:nextP ks s=true):(partP e (m+3) o s).2.toks.length<s.toks.length:=by
 rw[partP]
 exact Nat.lt_of_le_of_lt ((len_all e (m+2)).held _ _ _) (member_less e m o s h)
theorem bare_less (e:Int) (m o:Nat) (s:Ps){ks:List Int}(h:nextP ks s=true):(bareP e (m+2) o s).2.toks.length<s.toks.length:=by
 rw[bareP]
 split
 ·exact Nat.lt_of_le_of_lt (Nat.le_trans (take_len _ _ _) ((len_all e (m+1)).form _ _)) (deep_take e o ks _ s h)
 ·split
  ·exact set_less e m o s h
  ·exact take_less e ks _ s h
section
variable (e d:Int)
end
end Y
open Go.RowKit
open Y (Nd It Ps)

inductive NdAt (w:World) (S:Nat→Prop):List Value→Nd→Prop
 | mk (k lo hi:Int) (s:ByteArray) (A:Option Addr) (n c:Nat) (kids:List Nd) (cs:Nat→List Value) (hl:kids.length=n) (hc:n≤c) (hm:c≤maxLen)
   (hA:0<n→∃ b off,A=some ⟨b,off,none⟩∧S b∧∀ i,i<n→∀ j u,(cs i)[j]?=some u→w.cell? ⟨b,off+(i*5+j),none⟩=some u)
   (hk:∀ i x,kids[i]?=some x→NdAt w S (cs i) x):NdAt w S [.int .i64 k,.string s,.int .i64 lo,.int .i64 hi,.slice A n c] (.mk k s lo hi kids)
structure RdN (w:World) (S:Nat→Prop) (A:Option Addr) (n c:Nat) (l:List Nd):Prop where
 len:l.length=n
 cap:n≤c
 capm:c≤maxLen
 at_:∃ cs:Nat→List Value,(0<n→∃ b off,A=some ⟨b,off,none⟩∧S b∧∀ i,i<n→∀ j u,(cs i)[j]?=some u→w.cell? ⟨b,off+(i*5+j),none⟩=some u)∧∀ i x,l[i]?=some x→NdAt w S (cs i) x
theorem NdAt.of {w:World}{S:Nat→Prop}{A:Option Addr}{n c:Nat}{l:List Nd}(h:RdN w S A n c l) (k lo hi:Int) (s:ByteArray):NdAt w S [.int .i64 k,.string s,.int .i64 lo,.int .i64 hi,.slice A n c] (.mk k s lo hi l):=by
 obtain ⟨h1,h2,h3,cs,h4,h5⟩:=h
 exact .mk k lo hi s A n c l cs h1 h2 h3 h4 h5
theorem NdAt.inv {w:World}{S:Nat→Prop}{cs:List Value}{x:Nd}(h:NdAt w S cs x):∃ A n c,cs=[.int .i64 x.kind,.string x.name,.int .i64 x.low,.int .i64 x.high,.slice A n c]∧RdN w S A n c x.kids:=by
 cases h with
 | mk k lo hi s A n c kids cs hl hc hm hA hk=>exact ⟨A,n,c,rfl,hl,hc,hm,cs,hA,hk⟩
def IsN (w:World) (S:Nat→Prop) (v:Value) (x:Nd):Prop:=∃ A n c,v=.agg #[.int .i64 x.kind,.string x.name,.int .i64 x.low,.int .i64 x.high,.slice A n c]∧RdN w S A n c x.kids
theorem NdAt.keep {w w' : World}{S S' : Nat→Prop}{cs:List Value}{x:Nd}(h:NdAt w S cs x) (hS:∀ b,S b→S' b) (hk:∀ p:Addr,S p.block→w'.cell? p=w.cell? p):NdAt w' S' cs x:=by
 induction h with
 | mk k lo hi s A n c kids cs hl hc hm hA _ ih =>
  refine .mk k lo hi s A n c kids cs hl hc hm (fun hn=>?_) ih
  obtain ⟨b,off,e,hb,hcc⟩:=hA hn
  exact ⟨b,off,e,hS b hb,fun i hi j u hu=>(hk ⟨b,_,none⟩ hb).trans (hcc i hi j u hu)⟩
section
variable {w w' : World}{S S' : Nat→Prop}{A:Option Addr}{n c:Nat}{l:List Nd}{v:Value}{x:Nd}
theorem RdN.keep (h:RdN w S A n c l) (hS:∀ b,S b→S' b) (hk:∀ p:Addr,S p.block→w'.cell? p=w.cell? p):RdN w' S' A n c l:=by
 obtain ⟨h1,h2,h3,cs,h4,h5⟩:=h
 refine ⟨h1,h2,h3,cs,fun hn=>?_,fun i x hx=>(h5 i x hx).keep hS hk⟩
 obtain ⟨b,off,e,hb,hcc⟩:=h4 hn
 exact ⟨b,off,e,hS b hb,fun i hi j u hu=>(hk ⟨b,_,none⟩ hb).trans (hcc i hi j u hu)⟩
theorem RdN.nil (w:World) (S:Nat→Prop):RdN w S none 0 0 []:=⟨rfl,Nat.le_refl _,by simp[maxLen],fun _=>[],fun h=>absurd h (by omega),fun i x hx=>by simp at hx⟩
theorem RdN.small (h:RdN w S A n c l):n≤9223372036854775807:=by have h1:=h.cap;have h2:=h.capm;unfold maxLen at h2;omega
theorem RdN.got (h:RdN w S A n c l){i:Nat}(hi:i<n):∃ (b off:Nat) (x:Nd) (A' : Option Addr) (n' c' : Nat),A=some ⟨b,off,none⟩∧S b∧l[i]?=some x∧RdN w S A' n' c' x.kids ∧
  w.cell? ⟨b,off+i*5,none⟩=some (.int .i64 x.kind)∧w.cell? ⟨b,off+i*5+1,none⟩=some (.string x.name)∧w.cell? ⟨b,off+i*5+2,none⟩=some (.int .i64 x.low)∧w.cell? ⟨b,off+i*5+3,none⟩=some (.int .i64 x.high)∧w.cell? ⟨b,off+i*5+4,none⟩=some (.slice A' n' c'):=by
 obtain ⟨h1,h2,h3,cs,h4,h5⟩:=h
 obtain ⟨b,off,e,hb,hcc⟩:=h4 (by omega)
 have hx:=List.getElem?_eq_getElem (l:=l) (i:=i) (by omega)
 obtain ⟨A', n', c', e5,hr⟩:=(h5 i _ hx).inv
 have hc:=hcc i hi
 rw[e5] at hc
 refine ⟨b,off,l[i]'(by omega),A', n', c', e,hb,hx,hr,?_,?_,?_,?_,?_⟩
 ·exact hc 0 _ rfl
 ·have:=hc 1 _ rfl;rwa [← Nat.add_assoc] at this
 ·have:=hc 2 _ rfl;rwa [← Nat.add_assoc] at this
 ·have:=hc 3 _ rfl;rwa [← Nat.add_assoc] at this
 ·have:=hc 4 _ rfl;rwa [← Nat.add_assoc] at this
end
def In (lo hi:Nat) (b:Nat):Prop:=lo≤b∧b<hi
def OwnN (w:World) (B:Nat) (v:Value) (l:List Nd):Prop:=∃ cs,w.ownsRow B 77 5 v l.length cs∧∀ i x,l[i]?=some x→NdAt w (fun b=>B≤b∧b<w.heap.size∧v.ownBlock≠some b) ((cs.drop (i*5)).take 5) x
theorem info_nd:(Tryz.prog.info? 77).map (fun i=>(i.zero,i.size,i.bytes))=some (some (.agg #[.int .i64 0,.string { data:=#[] },.int .i64 0,.int .i64 0,.slice none 0 0]),5,64):=by kernel_rfl
section
variable {w w' : World}{B:Nat}{v:Value}{l:List Nd}
theorem OwnN.nil (w:World) (B:Nat):OwnN w B (.slice none 0 0) []:=⟨[],World.ownsRow_nil w B _ 5,fun i x hx=>by simp at hx⟩
theorem OwnN.rd (h:OwnN w B v l):∃ A c,v=.slice A l.length c∧RdN w (In B w.heap.size) A l.length c l:=by
 obtain ⟨cs,ho,hk⟩:=h
 have hs:∀ i x,l[i]?=some x→NdAt w (In B w.heap.size) ((cs.drop (i*5)).take 5) x:=fun i x hx=>(hk i x hx).keep (fun b hb=>⟨hb.1,hb.2.1⟩) (fun _ _=>rfl)
 rcases ho.2 with ⟨h1,h2⟩|⟨g,cap,cur,h1,hB,hg,h3,h4,_,_⟩
 ·subst h1
  have:l=[]:=List.eq_nil_of_length_eq_zero h2
  subst this
  exact ⟨none,0,rfl,RdN.nil _ _⟩
 ·subst h1
  have hlt:g<w.heap.size:=by
   rcases Nat.lt_or_ge g w.heap.size with hlt|hge
   ·exact hlt
   ·rw[Array.getElem?_eq_none hge] at hg;cases hg
  refine ⟨_,cap,rfl,rfl,h3,h4,fun i=>(cs.drop (i*5)).take 5,fun _=>⟨g,0,rfl,⟨hB,hlt⟩,fun i hi j u hu=>?_⟩,hs⟩
  rw[← qo_]
  have hj:j<5:=by
   have:=(List.getElem?_eq_some_iff.1 hu).1;rw[List.length_take] at this;omega
  rw[List.getElem?_take_of_lt hj,List.getElem?_drop] at hu
  exact World.ownsRow.cells ho (g:=g) rfl _ _ hu
theorem row_keep {e:TypeId}{k m:Nat}{cs:List Value}(h:w.ownsRow B e k v m cs) (hb:∀ i,B≤i→i<w.heap.size→v.ownBlock=some i→w'.heap[i]?=w.heap[i]?):w'.ownsRow B e k v m cs:=by
 refine ⟨h.1,?_⟩
 rcases h.2 with h2|⟨g,cap,cur,h1,hB,hg,h3⟩
 ·exact .inl h2
 ·have hlt:g<w.heap.size:=by
   rcases Nat.lt_or_ge g w.heap.size with hlt|hge
   ·exact hlt
   ·rw[Array.getElem?_eq_none hge] at hg;cases hg
  exact .inr ⟨g,cap,cur,h1,hB,(hb g hB hlt (by subst h1;rfl)).trans hg,h3⟩
theorem OwnN.keep (h:OwnN w B v l) (hs:w.heap.size≤w'.heap.size) (hb:∀ i,B≤i→i<w.heap.size→w'.heap[i]?=w.heap[i]?):OwnN w' B v l:=by
 obtain ⟨cs,ho,hk⟩:=h
 exact ⟨cs,row_keep ho fun i h1 h2 _=>hb i h1 h2,fun i x hx=>(hk i x hx).keep (fun b hb=>⟨hb.1,by omega,hb.2.2⟩) (fun p hp=>World.cell?_of_block (hb p.block hp.1 hp.2.1))⟩
theorem OwnN.block (h:OwnN w B v l):∀ i,v.ownBlock=some i→B≤i∧i<w.heap.size:=by
 obtain ⟨cs,ho,_⟩:=h
 exact World.ownsRow.lt ho
theorem OwnN.push {v' : Value}{ns cs:List Value}{x:Nd}(hk:∀ i x,l[i]?=some x→NdAt w (fun b=>B≤b∧b<w.heap.size∧v.ownBlock≠some b) ((cs.drop (i*5)).take 5) x) (hcl:cs.length=l.length*5)
  (hx:NdAt w (fun b=>B≤b∧b<w.heap.size∧v.ownBlock≠some b) ns x) (hn:ns.length=5) (ho:w'.ownsRow B 77 5 v' (l.length+1) (cs++ns)) (hg:w.grownBy w' v.ownBlock) (hat:v'.ownBlock=v.ownBlock∨v'.ownBlock=some w.heap.size):OwnN w' B v' (l++[x]):=by
 have hS:∀ b,(B≤b∧b<w.heap.size∧v.ownBlock≠some b)→B≤b∧b<w'.heap.size∧v'.ownBlock≠some b:=fun b ⟨h1,h2,h3⟩=>⟨h1,Nat.lt_of_lt_of_le h2 hg.size,by
  rcases hat with e|e
  ·rw[e];exact h3
  ·rw[e];intro e2;injection e2 with e2;omega⟩
 have hc:∀ p:Addr,(B≤p.block∧p.block<w.heap.size∧v.ownBlock≠some p.block)→w'.cell? p=w.cell? p:=fun p ⟨_,h2,h3⟩=>World.cell?_of_block (hg.block p.block h2 (fun e=>h3 e.symm))
 refine ⟨cs++ns,by simpa using ho,fun i y hy=>?_⟩
 rcases Nat.lt_or_ge i l.length with hi|hi
 ·rw[List.getElem?_append_left hi] at hy
  have:=(hk i y hy).keep hS hc
  rw[List.drop_append_of_le_length (by omega),List.take_append_of_le_length (by rw[List.length_drop];omega)]
  exact this
 ·have hil:i=l.length:=by
   have:=(List.getElem?_eq_some_iff.1 hy).1;simp at this;omega
  subst hil
  rw[List.getElem?_append_right (Nat.le_refl _),Nat.sub_self] at hy
  simp at hy
  subst hy
  rw[List.drop_append,List.drop_eq_nil_of_le (by omega),List.nil_append,hcl,Nat.sub_self,List.drop_zero,List.take_of_length_le (by omega)]
  exact hx.keep hS hc
end
structure Fe (b:Nat) (w w' : World):Prop where
 os:w'.os=w.os
 tape:w'.tape=w.tape
 output:w'.output=w.output
 size:w.heap.size≤w'.heap.size
 block:∀ i,i<w.heap.size→i≠b→w'.heap[i]?=w.heap[i]?
theorem Fe.refl (b:Nat) (w:World):Fe b w w:=⟨rfl,rfl,rfl,Nat.le_refl _,fun _ _ _=>rfl⟩
theorem Fe.trans {b:Nat}{a c d:World}(h:Fe b a c) (k:Fe b c d):Fe b a d :=
 ⟨k.os.trans h.os,k.tape.trans h.tape,k.output.trans h.output,Nat.le_trans h.size k.size,fun i hi hn=>(k.block i (Nat.lt_of_lt_of_le hi h.size) hn).trans (h.block i hi hn)⟩
theorem Fe.drewN {b:Nat}{a c:World}(h:Fe b a c) (q:Nat):Fe b a (c.drewN q):=⟨h.os,h.tape,h.output,h.size,h.block⟩
theorem Fe.of_below {b:Nat}{w w' : World}(h:Below w.heap.size w w'):Fe b w w' := ⟨h.os,h.tape,h.output,h.size,fun i hi _=>h.block i hi⟩
theorem Fe.set {b:Nat}{a c:World}(h:Fe b a c){g:Nat}(hg:g=b∨a.heap.size≤g) (o:Nat) (v:Value):Fe b a (c.setCell ⟨g,o,none⟩ v) :=
 ⟨h.os,h.tape,h.output,by simp;exact h.size,fun i hi hn=>(Below.heap_setCell _ _ _ _ (by show i≠g;omega)).trans (h.block i hi hn)⟩
theorem OwnN.fe {w w' : World}{b B:Nat}{v:Value}{l:List Nd}(h:OwnN w B v l) (hf:Fe b w w') (hb:b<B):OwnN w' B v l:=h.keep hf.size fun i h1 h2=>hf.block i h2 (by omega)
section
variable {b:Nat}{w w' : World}{e:Int}{o:Nat}{s:Ps}{A:Option Addr}{n c:Nat}
end
open Y (Nd It)

theorem size_kids (x:Nd):Y.sizeL x.kids+1=x.size:=by cases x;rw[Nd.size];rfl

end Go.Proofs.YtbbmjdddemahfaaGreat
