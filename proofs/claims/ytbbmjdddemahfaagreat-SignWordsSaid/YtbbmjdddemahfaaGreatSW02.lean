/- Part of the proof. -/
namespace Go.Proofs.YtbbmjdddemahfaaGreat.M

abbrev Rg:=Int × Int
def inR (r:Rg) (c:Int):Bool:=decide (r.1≤c) && decide (c≤r.2)
def covb:List Rg→Int→Bool
 | [],_=>false
 | r :: t,c=>inR r c || covb t c
def isch (c:Int):Bool:=decide (0≤c) && decide (c≤1114111)
def hasB (l:List Rg) (c:Int):Bool:=decide (l.length≤400) && (isch c && covb l c)
def LF:Int→List Rg→Prop
 | _,[]=>True
 | lo,r :: t=>lo≤r.1∧r.1≤r.2∧r.2≤1114111∧LF (r.2+2) t

theorem zl_ (r:Rg) (c:Int):inR r c=true↔r.1≤c∧c≤r.2:=by simp[inR]
theorem inR_not (r:Rg) (c:Int):inR r c=false↔c<r.1∨r.2<c:=by
 rw[← Bool.not_eq_true,zl_];omega
theorem isch_iff (c:Int):isch c=true↔0≤c∧c≤1114111:=by simp[isch]
theorem covb_append (a b:List Rg) (c:Int):covb (a++b) c=(covb a c || covb b c):=by
 induction a with
 | nil=>simp[covb]
 | cons r t ih=>simp[covb,ih,Bool.or_assoc]
theorem covb_perm {a b:List Rg}(h:a.Perm b) (c:Int):covb a c=covb b c:=by
 induction h with
 | nil=>rfl
 | cons x _ ih=>simp[covb,ih]
 | swap x y l=>simp only[covb];rw[← Bool.or_assoc,← Bool.or_assoc,Bool.or_comm (inR y c)]
 | trans _ _ h1 h2=>rw[h1,h2]
theorem covb_iff (l:List Rg) (c:Int):covb l c=true↔∃ r∈l,r.1≤c∧c≤r.2:=by
 induction l with
 | nil=>simp[covb]
 | cons r t ih=>simp[covb,ih,zl_]

theorem LF_mono {lo lo' : Int}{L:List Rg}(h:LF lo L) (hl:lo' ≤ lo):LF lo' L:=by
 cases L with
 | nil=>trivial
 | cons r t=>exact ⟨by have:=h.1;omega,h.2⟩
theorem LF_cov {lo:Int}{L:List Rg}(h:LF lo L){c:Int}(hc:covb L c=true):lo≤c∧c≤1114111:=by
 induction L generalizing lo with
 | nil=>simp[covb] at hc
 | cons r t ih =>
  obtain ⟨h1,h2,h3,h4⟩:=h
  simp only[covb,Bool.or_eq_true,zl_] at hc
  rcases hc with hc|hc
  ·omega
  ·have:=ih h4 hc;omega
theorem LF_low {lo:Int}{L:List Rg}(h:LF lo L){c:Int}(hc:c<lo):covb L c=false:=by
 rw[← Bool.not_eq_true];intro h'; have:=LF_cov h h'; omega
theorem LF_isch {lo:Int}{L:List Rg}(h:LF lo L) (h0:0≤lo) (c:Int):covb L c=(isch c && covb L c):=by
 cases hc:covb L c with
 | false=>simp
 | true=>have:=LF_cov h hc;simp[isch];omega
theorem LF_head {lo:Int}{r:Rg}{t:List Rg}(h:LF lo (r :: t)):covb (r :: t) r.1=true:=by
 simp only[covb,Bool.or_eq_true,zl_];left;have:=h.2.1;omega

theorem LF_ext {lo lo' : Int}{L M:List Rg}(hL:LF lo L) (hM:LF lo' M) (h:∀ c,covb L c=covb M c):L=M:=by
 induction L generalizing M lo lo' with
 | nil =>
  cases M with
  | nil=>rfl
  | cons s u=>have:=h s.1;rw[LF_head hM] at this;simp[covb] at this
 | cons r t ih =>
  cases M with
  | nil=>have:=h r.1;rw[LF_head hL] at this;simp[covb] at this
  | cons s u =>
   obtain ⟨l1,l2,l3,l4⟩:=hL
   obtain ⟨m1,m2,m3,m4⟩:=hM
   have e1:r.1=s.1:=by
    have a1:covb (s :: u) r.1=true:=by rw[← h];simp only[covb,Bool.or_eq_true,zl_];left;omega
    have a2:covb (r :: t) s.1=true:=by rw[h];simp only[covb,Bool.or_eq_true,zl_];left;omega
    simp only[covb,Bool.or_eq_true,zl_] at a1 a2
    rcases a1 with a1|a1
    ·rcases a2 with a2|a2
     ·omega
     ·have:=LF_cov l4 a2;omega
    ·have:=LF_cov m4 a1
     rcases a2 with a2|a2
     ·omega
     ·have:=LF_cov l4 a2;omega
   have e2:r.2=s.2:=by
    rcases Int.lt_trichotomy r.2 s.2 with g|g|g
    ·have a1:covb (r :: t) (r.2+1)=true:=by rw[h];simp only[covb,Bool.or_eq_true,zl_];left;omega
     simp only[covb,Bool.or_eq_true,zl_] at a1
     rcases a1 with a1|a1
     ·omega
     ·have:=LF_cov l4 a1;omega
    ·exact g
    ·have a1:covb (s :: u) (s.2+1)=true:=by rw[← h];simp only[covb,Bool.or_eq_true,zl_];left;omega
     simp only[covb,Bool.or_eq_true,zl_] at a1
     rcases a1 with a1|a1
     ·omega
     ·have:=LF_cov m4 a1;omega
   have e:r=s:=Prod.ext e1 e2
   subst e
   congr 1
   refine ih l4 m4 fun c=>?_
   have hc:=h c
   simp only[covb] at hc
   by_cases g:c≤r.2
   ·rw[LF_low l4 (by omega),LF_low m4 (by omega)]
   ·have:inR r c=false:=by rw[inR_not];omega
    simpa [this] using hc

def endOf:Int→List Rg→Int
 | lo,[]=>lo
 | _,r :: t=>endOf (r.2+2) t
theorem LF_append (lo:Int) (L M:List Rg):LF lo (L++M)↔LF lo L∧LF (endOf lo L) M:=by
 induction L generalizing lo with
 | nil=>simp[LF,endOf]
 | cons r t ih=>simp only[List.cons_append,LF,endOf,ih,and_assoc]
theorem endOf_append (lo:Int) (L:List Rg) (r:Rg):endOf lo (L++[r])=r.2+2:=by
 induction L generalizing lo with
 | nil=>rfl
 | cons s t ih=>simp only[List.cons_append,endOf,ih]

def joinL (L:List Rg) (r:Rg):List Rg :=
 match L.getLast? with
 | some s=>if r.1≤s.2+1 then L.dropLast++[(s.1,max s.2 r.2)] else L++[r]
 | none=>[r]
theorem joinL_nil (r:Rg):joinL [] r=[r]:=rfl
theorem joinL_snoc (I:List Rg) (s r:Rg):joinL (I++[s]) r=if r.1≤s.2+1 then I++[(s.1,max s.2 r.2)] else I++[s]++[r]:=by
 simp[joinL]
theorem joinL_len (L:List Rg) (r:Rg):(joinL L r).length≤L.length+1∧1≤(joinL L r).length:=by
 rcases List.eq_nil_or_concat L with rfl|⟨I,s,rfl⟩
 ·simp[joinL_nil]
 ·rw[List.concat_eq_append,joinL_snoc];split <;> simp
def lowsLe (L:List Rg) (x:Int):Prop:=∀ s,L.getLast?=some s→s.1≤x
theorem joinL_ok {L:List Rg}{r:Rg}(hL:LF 0 L) (hlow:lowsLe L r.1) (h0:0≤r.1) (h1:r.1≤r.2) (h2:r.2≤1114111) :
  LF 0 (joinL L r)∧(∀ c,covb (joinL L r) c=(covb L c || inR r c))∧lowsLe (joinL L r) r.1:=by
 rcases List.eq_nil_or_concat L with rfl|⟨I,s,rfl⟩
 ·rw[joinL_nil];exact ⟨⟨h0,h1,h2,trivial⟩,fun c=>by simp[covb],fun s hs=>by simp at hs;subst hs;omega⟩
 ·rw[List.concat_eq_append] at *
  have hs:s.1≤r.1:=hlow s (by simp)
  obtain ⟨hI,hs1,hs2,hs3,_⟩:=(LF_append 0 I [s]).1 hL
  rw[joinL_snoc]
  by_cases g:r.1≤s.2+1
  ·rw[if_pos g]
   refine ⟨(LF_append 0 I _).2 ⟨hI,⟨hs1,?_,?_,trivial⟩⟩,fun c=>?_,fun x hx=>?_⟩
   ·show s.1≤max s.2 r.2;omega
   ·show max s.2 r.2≤1114111;omega
   ·rw[covb_append,covb_append,Bool.or_assoc]
    congr 1
    rw[Bool.eq_iff_iff]
    simp only[covb,Bool.or_eq_true,zl_,Bool.false_eq_true,or_false]
    omega
   ·simp at hx;subst hx;exact hs
  ·rw[if_neg g]
   refine ⟨(LF_append 0 (I++[s]) _).2 ⟨hL,?_⟩,fun c=>?_,fun x hx=>?_⟩
   ·rw[endOf_append];exact ⟨by omega,h1,h2,trivial⟩
   ·rw[covb_append (I++[s])];simp[covb]
   ·simp at hx;subst hx;omega

def joinAll (L M:List Rg):List Rg:=M.foldl joinL L
theorem joinAll_take (M:List Rg) (k:Nat) (h:k<M.length):joinAll [] (M.take (k+1))=joinL (joinAll [] (M.take k)) M[k]:=by
 unfold joinAll;rw[List.take_succ_eq_append_getElem h,List.foldl_append];rfl
theorem joinAll_len (L M:List Rg):(joinAll L M).length≤L.length+M.length:=by
 unfold joinAll
 induction M generalizing L with
 | nil=>simp
 | cons r t ih=>simp only[List.foldl_cons,List.length_cons];have:=ih (joinL L r);have:=(joinL_len L r).1;omega
def okR (r:Rg):Prop:=0≤r.1∧r.1≤r.2∧r.2≤1114111
theorem joinAll_ok {L M:List Rg}(hL:LF 0 L) (hlow:∀ r∈M,lowsLe L r.1) (hM:∀ r∈M,okR r) (hs:M.Pairwise (fun x y=>x.1≤y.1)) :
  LF 0 (joinAll L M)∧∀ c,covb (joinAll L M) c=(covb L c || covb M c):=by
 unfold joinAll
 induction M generalizing L with
 | nil=>exact ⟨hL,fun c=>by simp[covb]⟩
 | cons r t ih =>
  obtain ⟨r0,r1,r2⟩:=hM r (by simp)
  obtain ⟨j1,j2,j3⟩:=joinL_ok hL (hlow r (by simp)) r0 r1 r2
  rw[List.pairwise_cons] at hs
  obtain ⟨i1,i2⟩:=ih j1 (fun x hx s hs' => by have:=j3 s hs'; have:=hs.1 x hx;omega) (fun x hx=>hM x (by simp[hx])) hs.2
  exact ⟨i1,fun c=>by rw[List.foldl_cons,i2,j2];simp[covb,Bool.or_assoc]⟩

def clipR (r:Rg):Rg:=(max r.1 0,min r.2 1114111)
def clipL (l:List Rg):List Rg:=(l.map clipR).filter fun r=>decide (r.1≤r.2)
theorem clipL_ok (l:List Rg):∀ r∈clipL l,okR r:=by
 intro r hr
 simp only[clipL,List.mem_filter,List.mem_map,decide_eq_true_eq] at hr
 obtain ⟨⟨x,_,rfl⟩,h⟩:=hr
 simp only[clipR] at h ⊢
 exact ⟨by omega,h,by show min x.2 1114111≤1114111;omega⟩
theorem clipL_cov (l:List Rg) (c:Int):covb (clipL l) c=(isch c && covb l c):=by
 rw[Bool.eq_iff_iff,Bool.and_eq_true,covb_iff,covb_iff,isch_iff]
 simp only[clipL,List.mem_filter,List.mem_map,decide_eq_true_eq]
 constructor
 ·rintro ⟨_,⟨⟨x,hx,rfl⟩,h⟩,h1,h2⟩
  simp only[clipR] at h h1 h2
  exact ⟨by omega,x,hx,by omega⟩
 ·rintro ⟨h0,x,hx,h1⟩
  exact ⟨clipR x,⟨⟨x,hx,rfl⟩,by simp only[clipR];omega⟩,by simp only[clipR];omega⟩
theorem clipL_len (l:List Rg):(clipL l).length≤l.length:=by
 unfold clipL;exact Nat.le_trans (List.length_filter_le _ _) (by simp)
theorem clipL_snoc (l:List Rg) (r:Rg):clipL (l++[r])=clipL l++if (clipR r).1≤(clipR r).2 then [clipR r] else []:=by
 unfold clipL;rw[List.map_append,List.filter_append];congr 1
 by_cases h:(clipR r).1≤(clipR r).2 <;> simp[h]
theorem clipL_take (l:List Rg) (k:Nat) (h:k<l.length):clipL (l.take (k+1))=clipL (l.take k)++if (clipR l[k]).1≤(clipR l[k]).2 then [clipR l[k]] else []:=by
 rw[List.take_succ_eq_append_getElem h,clipL_snoc]

def plainL (l:List Rg):List Rg:=if l.length≤400 then joinAll [] ((clipL l).mergeSort fun x y=>decide (x.1≤y.1)) else []
theorem sort_pair (M:List Rg):(M.mergeSort fun x y=>decide (x.1≤y.1)).Pairwise fun x y=>x.1≤y.1:=by
 have:=List.pairwise_mergeSort (le:=fun x y:Rg=>decide (x.1≤y.1)) (by intro a b c;simp;omega) (by intro a b;simp;omega) M
 exact this.imp (by simp)
theorem joined_is {l M:List Rg}(hp:M.Perm (clipL l)) (hs:M.Pairwise fun x y=>x.1≤y.1) :
  LF 0 (joinAll [] M)∧(∀ c,covb (joinAll [] M) c=(isch c && covb l c))∧(joinAll [] M).length≤l.length:=by
 obtain ⟨h1,h2⟩:=joinAll_ok (L:=[]) (M:=M) trivial (fun _ _ s hs' => by simp at hs') (fun r hr=>clipL_ok l r (hp.mem_iff.1 hr)) hs
 refine ⟨h1,fun c=>?_,?_⟩
 ·rw[h2,covb_perm hp,clipL_cov];simp[covb]
 ·have:=joinAll_len [] M;have:=hp.length_eq;have:=clipL_len l;simp at *;omega
theorem plainL_ok (l:List Rg):LF 0 (plainL l)∧(∀ c,covb (plainL l) c=hasB l c)∧(plainL l).length≤l.length:=by
 unfold plainL
 by_cases h:l.length≤400
 ·rw[if_pos h]
  obtain ⟨h1,h2,h3⟩:=joined_is (l:=l) (List.mergeSort_perm _ _) (sort_pair (clipL l))
  exact ⟨h1,fun c=>by rw[h2];simp[hasB,h],h3⟩
 ·rw[if_neg h];exact ⟨trivial,fun c=>by simp[hasB,h,covb],by simp⟩
theorem plainL_of {l M:List Rg}(h:l.length≤400) (hp:M.Perm (clipL l)) (hs:M.Pairwise fun x y=>x.1≤y.1):joinAll [] M=plainL l:=by
 obtain ⟨h1,h2,_⟩:=joined_is hp hs
 obtain ⟨p1,p2,_⟩:=plainL_ok l
 exact LF_ext h1 p1 fun c=>by rw[h2,p2];simp[hasB,h]
theorem plainL_is {l R:List Rg}(hR:LF 0 R) (h:∀ c,covb R c=hasB l c):plainL l=R:=by
 obtain ⟨p1,p2,_⟩:=plainL_ok l
 exact LF_ext p1 hR fun c=>by rw[p2,h]
theorem hasB_least {R:List Rg}(hR:LF 0 R) (h:R.length≤400) (c:Int):hasB R c=covb R c:=by
 rw[hasB,decide_eq_true h,Bool.true_and,← LF_isch hR (by omega)]
theorem hasB_isch (l:List Rg) (c:Int):hasB l c=(isch c && hasB l c):=by
 cases h:isch c <;> simp[hasB,h]

end Go.Proofs.YtbbmjdddemahfaaGreat.M
namespace Go.Proofs.YtbbmjdddemahfaaGreat.M




structure Swept (f:Int) (L:List Rg) (S:Int→Bool):Prop where
 least:LF 0 L
 cov:∀ c,covb L c=(decide (0≤c) && (decide (c<f) && S c))
 low:∀ x,f≤x→lowsLe L x
 len:(L.length:Int)≤f

theorem Swept.start (S:Int→Bool):Swept 0 [] S:=⟨trivial,fun c=>by
 rw[Bool.eq_iff_iff];simp[covb];omega,fun x _ s hs=>by simp at hs,by simp⟩
theorem Swept.skip {f g:Int}{L:List Rg}{S:Int→Bool}(h:Swept f L S) (hfg:f≤g) (hS:∀ c,f≤c→c<g→S c=false):Swept g L S:=by
 refine ⟨h.least,fun c=>?_,fun x hx=>h.low x (by omega),by have:=h.len;omega⟩
 rw[h.cov c,Bool.eq_iff_iff]
 simp only[Bool.and_eq_true,decide_eq_true_eq]
 constructor
 ·rintro ⟨a,b,d⟩;exact ⟨a,by omega,d⟩
 ·rintro ⟨a,b,d⟩
  refine ⟨a,?_,d⟩
  by_cases e:c<f
  ·exact e
  ·rw[hS c (by omega) b] at d;cases d
theorem Swept.take {f g:Int}{L:List Rg}{S:Int→Bool}(h:Swept f L S) (h0:0≤f) (hfg:f<g) (hg:g≤1114112) (hS:∀ c,f≤c→c<g→S c=true):Swept g (joinL L (f,g - 1)) S:=by
 obtain ⟨j1,j2,j3⟩:=joinL_ok (r:=(f,g - 1)) h.least (h.low f (Int.le_refl _)) h0 (by show f≤g - 1;omega) (by show g - 1≤_;omega)
 refine ⟨j1,fun c=>?_,fun x hx s hs=>?_,?_⟩
 ·rw[j2,h.cov c,Bool.eq_iff_iff]
  simp only[Bool.or_eq_true,Bool.and_eq_true,decide_eq_true_eq,zl_]
  constructor
  ·rintro (⟨a,b,d⟩|⟨a,b⟩)
   ·exact ⟨a,by omega,d⟩
   ·exact ⟨by omega,by omega,hS c a (by omega)⟩
  ·rintro ⟨a,b,d⟩
   by_cases e:c<f
   ·exact .inl ⟨a,e,d⟩
   ·exact .inr ⟨by omega,by omega⟩
 ·have:=j3 s hs;simp at this;omega
 ·have:=(joinL_len L (f,g - 1)).1;have:=h.len;omega
theorem Swept.done {f:Int}{L:List Rg}{S:Int→Bool}(h:Swept f L S) (hf:f=1114112):LF 0 L∧∀ c,covb L c=(isch c && S c) :=
 ⟨h.least,fun c=>by
  subst hf
  rw[h.cov c,Bool.eq_iff_iff]
  simp only[isch,Bool.and_eq_true,decide_eq_true_eq]
  constructor
  ·rintro ⟨a,b,d⟩;exact ⟨⟨a,by omega⟩,d⟩
  ·rintro ⟨⟨a,b⟩,d⟩;exact ⟨a,by omega,d⟩⟩
theorem LF_mem {lo:Int}{L:List Rg}(h:LF lo L):∀ r∈L,lo≤r.1∧r.1≤r.2∧r.2≤1114111:=by
 induction L generalizing lo with
 | nil=>simp
 | cons s t ih =>
  intro r hr
  obtain ⟨h1,h2,h3,h4⟩:=h
  rcases List.mem_cons.1 hr with rfl|hr
  ·exact ⟨h1,h2,h3⟩
  ·have:=ih h4 r hr;omega
end Go.Proofs.YtbbmjdddemahfaaGreat.M
namespace Go.Proofs.YtbbmjdddemahfaaGreat.M



def st (L:List Rg) (c:Int):Bool:=covb L c && !covb L (c - 1)
def en (L:List Rg) (c:Int):Bool:=covb L (c - 1) && !covb L c

end Go.Proofs.YtbbmjdddemahfaaGreat.M
namespace Go.Proofs.YtbbmjdddemahfaaGreat.M

def IsPut (L:List Int) (x:Int) (R:List Int):Prop :=
 ∃ k,k≤L.length∧(∀ j y,j<k→L[j]?=some y→y<x)∧(∀ y,L[k]?=some y→x≤y)∧(L[k]?=some x→R=L)∧(L[k]?≠some x→R=L.take k++x :: L.drop k)
def Rise (L:List Int):Prop:=L.Pairwise (· < ·)

theorem IsPut.mem {L R:List Int}{x:Int}(h:IsPut L x R):∀ y,y∈R↔y∈L∨y=x:=by
 obtain ⟨k,hk,h1,h2,h3,h4⟩:=h
 intro y
 by_cases e:L[k]?=some x
 ·rw[h3 e]
  constructor
  ·exact .inl
  ·rintro (h|rfl)
   ·exact h
   ·exact List.mem_of_getElem? e
 ·rw[h4 e]
  have:y∈L↔y∈L.take k∨y∈L.drop k:=by rw[← List.mem_append,List.take_append_drop]
  rw[this]
  simp only[List.mem_append,List.mem_cons]
  constructor
  ·rintro (h|h|h)
   ·exact .inl (.inl h)
   ·exact .inr h
   ·exact .inl (.inr h)
  ·rintro ((h|h)|h)
   ·exact .inl h
   ·exact .inr (.inr h)
   ·exact .inr (.inl h)
theorem IsPut.len {L R:List Int}{x:Int}(h:IsPut L x R):R.length≤L.length+1:=by
 obtain ⟨k,hk,h1,h2,h3,h4⟩:=h
 by_cases e:L[k]?=some x
 ·rw[h3 e];omega
 ·rw[h4 e];simp;omega
theorem IsPut.rise {L R:List Int}{x:Int}(h:IsPut L x R) (hL:Rise L):Rise R:=by
 obtain ⟨k,hk,h1,h2,h3,h4⟩:=h
 by_cases e:L[k]?=some x
 ·rw[h3 e];exact hL
 ·rw[h4 e]
  unfold Rise at hL ⊢
  have hd:(L.take k++L.drop k).Pairwise (· < ·):=by rw[List.take_append_drop];exact hL
  rw[List.pairwise_append] at hd ⊢
  obtain ⟨d1,d2,d3⟩:=hd
  have hb:∀ y∈L.drop k,x<y:=by
   intro y hy
   cases hz:L[k]? with
   | none =>
    have:L.length≤k:=List.getElem?_eq_none_iff.1 hz
    rw[List.drop_eq_nil_of_le this] at hy;simp at hy
   | some z =>
    have hz1:=h2 z hz
    have hzx:x<z:=by
     rcases Int.lt_or_eq_of_le hz1 with g|g
     ·exact g
     ·subst g;exact absurd hz e
    obtain ⟨hkl,hzz⟩:=List.getElem?_eq_some_iff.1 hz
    rw[List.drop_eq_getElem_cons hkl,hzz] at hy d2
    rcases List.mem_cons.1 hy with rfl|hy
    ·exact hzx
    ·have:=(List.pairwise_cons.1 d2).1 y hy;omega
  refine ⟨d1,List.pairwise_cons.2 ⟨hb,d2⟩,fun y hy z hz=>?_⟩
  have hyx:y<x:=by
   obtain ⟨j,hj⟩:=List.getElem?_of_mem hy
   rw[List.getElem?_take] at hj
   by_cases g:j<k
   ·rw[if_pos g] at hj;exact h1 j y g hj
   ·rw[if_neg g] at hj;cases hj
  rcases List.mem_cons.1 hz with rfl|hz
  ·exact hyx
  ·have:=hb z hz;omega

structure EdgeOf (S:List Rg) (E:List Int):Prop where
 rise:Rise E
 rng:∀ y∈E,0≤y∧y≤1114111
 zero:(0:Int)∈E
 lows:∀ r∈S,0≤r.1→r.1≤1114111→r.1∈E
 highs:∀ r∈S,-1≤r.2→r.2<1114111→r.2+1∈E
 len:E.length≤1+2*S.length
theorem EdgeOf.start:EdgeOf [] [0]:=⟨List.pairwise_singleton _ _,by simp,by simp,by simp,by simp,by simp⟩
def putIf (p:Prop) (E:List Int) (x:Int) (R:List Int):Prop:=(p→IsPut E x R)∧(¬ p→R=E)
theorem EdgeOf.step {S:List Rg}{E E1 E2:List Int}{r:Rg}(h:EdgeOf S E) (h1:putIf (0≤r.1∧r.1≤1114111) E r.1 E1) (h2:putIf (-1≤r.2∧r.2<1114111) E1 (r.2+1) E2):EdgeOf (S++[r]) E2:=by
 have a1:Rise E1∧(∀ y∈E1,0≤y∧y≤1114111)∧(∀ y∈E,y∈E1)∧(0≤r.1→r.1≤1114111→r.1∈E1)∧E1.length≤E.length+1:=by
  by_cases p:0≤r.1∧r.1≤1114111
  ·have q:=h1.1 p
   refine ⟨q.rise h.rise,fun y hy=>?_,fun y hy=>(q.mem y).2 (.inl hy),fun _ _=>(q.mem _).2 (.inr rfl),q.len⟩
   rcases (q.mem y).1 hy with g|rfl
   ·exact h.rng y g
   ·exact p
  ·rw[h1.2 p];exact ⟨h.rise,h.rng,fun y hy=>hy,fun g1 g2=>absurd ⟨g1,g2⟩ p,by omega⟩
 obtain ⟨b1,b2,b3,b4,b5⟩:=a1
 have a2:Rise E2∧(∀ y∈E2,0≤y∧y≤1114111)∧(∀ y∈E1,y∈E2)∧(-1≤r.2→r.2<1114111→r.2+1∈E2)∧E2.length≤E1.length+1:=by
  by_cases p:-1≤r.2∧r.2<1114111
  ·have q:=h2.1 p
   refine ⟨q.rise b1,fun y hy=>?_,fun y hy=>(q.mem y).2 (.inl hy),fun _ _=>(q.mem _).2 (.inr rfl),q.len⟩
   rcases (q.mem y).1 hy with g|rfl
   ·exact b2 y g
   ·omega
  ·rw[h2.2 p];exact ⟨b1,b2,fun y hy=>hy,fun g1 g2=>absurd ⟨g1,g2⟩ p,by omega⟩
 obtain ⟨c1,c2,c3,c4,c5⟩:=a2
 refine ⟨c1,c2,c3 _ (b3 _ h.zero),fun x hx g1 g2=>?_,fun x hx g1 g2=>?_,by have:=h.len;simp;omega⟩
 ·rcases List.mem_append.1 hx with hx|hx
  ·exact c3 _ (b3 _ (h.lows x hx g1 g2))
  ·simp at hx;subst hx;exact c3 _ (b4 g1 g2)
 ·rcases List.mem_append.1 hx with hx|hx
  ·exact c3 _ (b3 _ (h.highs x hx g1 g2))
  ·simp at hx;subst hx;exact c4 g1 g2

def usable (l:List Rg):List Rg:=if l.length≤400 then l else []
def nextE (E:List Int) (i:Nat):Int:=match E[i+1]? with|some y=>y|none=>1114112
theorem next_gt {S:List Rg}{E:List Int}(h:EdgeOf S E){i:Nat}{f:Int}(hf:E[i]?=some f):f<nextE E i∧nextE E i≤1114112∧0≤f∧f≤1114111:=by
 have r:=h.rng f (List.mem_of_getElem? hf)
 unfold nextE
 cases hg:E[i+1]? with
 | none=>simp only[];omega
 | some y =>
  have ry:=h.rng y (List.mem_of_getElem? hg)
  obtain ⟨i1,e1⟩:=List.getElem?_eq_some_iff.1 hf
  obtain ⟨i2,e2⟩:=List.getElem?_eq_some_iff.1 hg
  have:=List.pairwise_iff_getElem.1 h.rise i (i+1) i1 i2 (by omega)
  simp only[];omega
theorem no_edge {S:List Rg}{E:List Int}(h:EdgeOf S E){i:Nat}{f y:Int}(hf:E[i]?=some f) (hy:y∈E) (h1:f<y) (h2:y<nextE E i):False:=by
 obtain ⟨j,hj⟩:=List.getElem?_of_mem hy
 obtain ⟨i1,e1⟩:=List.getElem?_eq_some_iff.1 hf
 obtain ⟨j1,e2⟩:=List.getElem?_eq_some_iff.1 hj
 have hp:=List.pairwise_iff_getElem.1 h.rise
 have hij:i<j:=by
  rcases Nat.lt_trichotomy i j with g|g|g
  ·exact g
  ·subst g;rw[e1] at e2;omega
  ·have:=hp j i j1 i1 g;omega
 unfold nextE at h2
 cases hg:E[i+1]? with
 | none=>have:=List.getElem?_eq_none_iff.1 hg;omega
 | some z =>
  rw[hg] at h2
  simp only[] at h2
  obtain ⟨i2,e3⟩:=List.getElem?_eq_some_iff.1 hg
  by_cases g:j=i+1
  ·subst g;rw[e3] at e2;omega
  ·have:=hp (i+1) j i2 j1 (by omega);omega
theorem edge_cov {S l:List Rg}{E:List Int}(h:EdgeOf S E) (hl:∀ r∈l,r∈S){i:Nat}{f c:Int}(hf:E[i]?=some f) (h1:f≤c) (h2:c<nextE E i):covb l c=covb l f:=by
 obtain ⟨n1,n2,n3,n4⟩:=next_gt h hf
 have key:∀ r∈l,inR r c=inR r f:=by
  intro r hr
  have hS:=hl r hr
  rw[Bool.eq_iff_iff,zl_,zl_]
  have k1:r.1≤c→r.1≤f:=fun g=>by
   by_cases e:r.1≤f
   ·exact e
   ·exact (no_edge h hf (h.lows r hS (by omega) (by omega)) (by omega) (by omega)).elim
  have k2:f≤r.2→c≤r.2:=fun g=>by
   by_cases e:c≤r.2
   ·exact e
   ·exact (no_edge h hf (h.highs r hS (by omega) (by omega)) (by omega) (by omega)).elim
  constructor
  ·rintro ⟨a,b⟩;exact ⟨k1 a,by omega⟩
  ·rintro ⟨a,b⟩;exact ⟨by omega,k2 b⟩
 clear hl
 induction l with
 | nil=>rfl
 | cons r t ih=>simp only[covb];rw[key r (by simp),ih fun x hx=>key x (by simp[hx])]
theorem edge_has {S l:List Rg}{E:List Int}(h:EdgeOf S E) (hl:∀ r∈usable l,r∈S){i:Nat}{f c:Int}(hf:E[i]?=some f) (h1:f≤c) (h2:c<nextE E i):hasB l c=hasB l f:=by
 obtain ⟨n1,n2,n3,n4⟩:=next_gt h hf
 unfold hasB
 by_cases g:l.length≤400
 ·have e:usable l=l:=by unfold usable;rw[if_pos g]
  rw[edge_cov h (by rwa [e] at hl) hf h1 h2]
  have:isch c=isch f:=by rw[(isch_iff c).2 (by omega),(isch_iff f).2 (by omega)]
  rw[this]
 ·rw[decide_eq_false g];rfl
theorem edge_first {S:List Rg}{E:List Int}(h:EdgeOf S E):E[0]?=some 0:=by
 obtain ⟨j,hj⟩:=List.getElem?_of_mem h.zero
 obtain ⟨j1,e1⟩:=List.getElem?_eq_some_iff.1 hj
 have h0:0<E.length:=by omega
 have r:=h.rng E[0] (List.getElem_mem h0)
 rcases Nat.eq_zero_or_pos j with g|g
 ·subst g;exact hj
 ·have:=List.pairwise_iff_getElem.1 h.rise 0 j h0 j1 g;omega
end Go.Proofs.YtbbmjdddemahfaaGreat.M
namespace Go.Proofs.YtbbmjdddemahfaaGreat.M

def likeB (ls:List (List Rg)) (x y:Int):Bool:=ls.all fun l=>hasB l x == hasB l y
theorem like_iff (ls:List (List Rg)) (x y:Int):likeB ls x y=true↔∀ l∈ls,hasB l x=hasB l y:=by simp[likeB]
def low (a:List Rg):Int:=match a with | []=>-1|r :: _=>r.1
structure IsAtoms (ls:List (List Rg)) (R:List (List Rg)):Prop where
 least:∀ a∈R,LF 0 a∧a≠[]
 all:∀ c,isch c=true→∃ a∈R,covb a c=true
 same:∀ a∈R,∀ b∈R,∀ c d,covb a c=true→covb b d=true→likeB ls c d=true→a=b
 like:∀ a∈R,∀ c d,covb a c=true→covb a d=true→likeB ls c d=true
 rise:R.Pairwise fun a b=>low a<low b

theorem low_cov {a:List Rg}(h:LF 0 a) (hn:a≠[]):covb a (low a)=true:=by
 cases a with
 | nil=>exact absurd rfl hn
 | cons r t=>exact LF_head h
theorem sorted_ext {α:Type}(key:α→Int):∀ {L M:List α},L.Pairwise (fun x y=>key x<key y)→M.Pairwise (fun x y=>key x<key y)→(∀ x,x∈L↔x∈M)→L=M
 | [],[],_,_,_=>rfl
 | [],y :: u,_,_,h=>absurd ((h y).2 (by simp)) (by simp)
 | x :: t,[],_,_,h=>absurd ((h x).1 (by simp)) (by simp)
 | x :: t,y :: u,hL,hM,h=>by
  rw[List.pairwise_cons] at hL hM
  have e:x=y:=by
   rcases List.mem_cons.1 ((h x).1 (by simp)) with e|hx
   ·exact e
   ·rcases List.mem_cons.1 ((h y).2 (by simp)) with e|hy
    ·exact e.symm
    ·have:=hL.1 y hy;have:=hM.1 x hx;omega
  subst e
  congr 1
  refine sorted_ext key hL.2 hM.2 fun z=>?_
  constructor
  ·intro hz
   rcases List.mem_cons.1 ((h z).1 (by simp[hz])) with e|hz'
   ·subst e;have:=hL.1 z hz;omega
   ·exact hz'
  ·intro hz
   rcases List.mem_cons.1 ((h z).2 (by simp[hz])) with e|hz'
   ·subst e;have:=hM.1 z hz;omega
   ·exact hz'
theorem atoms_sub {ls R R' : List (List Rg)}(h:IsAtoms ls R) (h' : IsAtoms ls R'):∀ a∈R,a∈R' := by
 intro a ha
 obtain ⟨hL,hn⟩:=h.least a ha
 have hc:=low_cov hL hn
 have hi:isch (low a)=true:=by rw[isch_iff];have:=LF_cov hL hc;omega
 obtain ⟨b,hb,hbc⟩:=h'.all _ hi
 have hbL:=(h'.least b hb).1
 have e:a=b:=by
  refine LF_ext hL hbL fun d=>?_
  rw[Bool.eq_iff_iff]
  constructor
  ·intro hd
   have hid:isch d=true:=by rw[isch_iff];have:=LF_cov hL hd;omega
   obtain ⟨b', hb', hbd⟩:=h'.all d hid
   have:b=b' := h'.same b hb b' hb' _ _ hbc hbd (h.like a ha _ _ hc hd)
   rw[this];exact hbd
  ·intro hd
   have hid:isch d=true:=by rw[isch_iff];have:=LF_cov hbL hd;omega
   obtain ⟨a', ha', had⟩:=h.all d hid
   have:a=a' := h.same a ha a' ha' _ _ hc had (h'.like b hb _ _ hbc hd)
   rw[this];exact had
 rw[e];exact hb
theorem atoms_ext {ls R R' : List (List Rg)}(h:IsAtoms ls R) (h' : IsAtoms ls R'):R=R' :=
 sorted_ext low h.rise h'.rise fun a=>⟨atoms_sub h h' a,atoms_sub h' h a⟩

def TooMany (ls:List (List Rg)):Prop:=∃ cs:List Int,cs.length=201∧(∀ c∈cs,isch c=true)∧cs.Pairwise fun x y=>likeB ls x y=false
theorem nodup_bound (n:Nat):∀ (l:List Nat),l.Nodup→(∀ x∈l,x<n)→l.length≤n:=by
 induction n with
 | zero =>
  intro l _ h
  cases l with
  | nil=>simp
  | cons x t=>exact absurd (h x (by simp)) (by omega)
 | succ n ih =>
  intro l hn h
  by_cases hm:n∈l
  ·have h1:=ih (l.erase n) (hn.erase n) fun x hx=>by
    have h2:=(hn.mem_erase_iff).1 hx
    have:=h x h2.2
    have:=h2.1
    omega
   rw[List.length_erase_of_mem hm] at h1
   omega
  ·have:=ih l hn fun x hx=>by
    have h1:=h x hx
    have:x≠n:=fun e=>hm (e ▸ hx)
    omega
   omega
theorem few_atoms {ls R:List (List Rg)}(h:IsAtoms ls R) (hl:R.length≤200):¬ TooMany ls:=by
 rintro ⟨cs,hc1,hc2,hc3⟩
 have hidx:∀ c∈cs,∃ i,i<R.length∧∃ a,R[i]?=some a∧covb a c=true:=fun c hc=>by
  obtain ⟨a,ha,hac⟩:=h.all c (hc2 c hc)
  obtain ⟨i,hi⟩:=List.getElem?_of_mem ha
  exact ⟨i,(List.getElem?_eq_some_iff.1 hi).1,a,hi,hac⟩
 have:∀ (l:List Int),(∀ c∈l,c∈cs)→l.Pairwise (fun x y=>likeB ls x y=false)→∃ js:List Nat,js.length=l.length∧js.Nodup∧(∀ j∈js,j<R.length)∧∀ j∈js,∃ c∈l,∃ a,R[j]?=some a∧covb a c=true:=by
  intro l
  induction l with
  | nil=>exact fun _ _=>⟨[],rfl,List.nodup_nil,by simp,by simp⟩
  | cons c t ih =>
   intro hs hp
   rw[List.pairwise_cons] at hp
   obtain ⟨js,j1,j2,j3,j4⟩:=ih (fun x hx=>hs x (by simp[hx])) hp.2
   obtain ⟨i,hi,a,ha,hac⟩:=hidx c (hs c (by simp))
   refine ⟨i :: js,by simp[j1],List.nodup_cons.2 ⟨fun hm=>?_,j2⟩,fun j hj=>?_,fun j hj=>?_⟩
   ·obtain ⟨d,hd,b,hb,hbd⟩:=j4 i hm
    rw[ha] at hb;injection hb with hb;subst hb
    have:=h.like a (List.mem_of_getElem? ha) c d hac hbd
    rw[hp.1 d hd] at this;cases this
   ·rcases List.mem_cons.1 hj with rfl|hj
    ·exact hi
    ·exact j3 j hj
   ·rcases List.mem_cons.1 hj with rfl|hj
    ·exact ⟨c,by simp,a,ha,hac⟩
    ·obtain ⟨d,hd,x⟩:=j4 j hj
     exact ⟨d,by simp[hd],x⟩
 obtain ⟨js,j1,j2,j3,_⟩:=this cs (fun c hc=>hc) hc3
 have:=nodup_bound R.length js j2 j3
 omega

def OfSpec (ls:List (List Rg)) (res:Option (List (List Rg))):Prop :=
 (60<ls.length→res=none)∧((∃ l∈ls,400<l.length)→res=none)∧(TooMany ls→res=none) ∧
 (ls.length≤60→(∀ l∈ls,l.length≤400)→¬ TooMany ls→∃ R,IsAtoms ls R∧((∃ a∈R,400<a.length)→res=none)∧((∀ a∈R,a.length≤400)→res=some R))
theorem OfSpec.ext {ls:List (List Rg)}{r r' : Option (List (List Rg))}(h:OfSpec ls r) (h' : OfSpec ls r'):r=r' := by
 obtain ⟨a1,a2,a3,a4⟩:=h
 obtain ⟨b1,b2,b3,b4⟩:=h'
 by_cases c1:60<ls.length
 ·rw[a1 c1,b1 c1]
 ·by_cases c2:∃ l∈ls,400<l.length
  ·rw[a2 c2,b2 c2]
  ·by_cases c3:TooMany ls
   ·rw[a3 c3,b3 c3]
   ·have c2' : ∀ l∈ls,l.length≤400:=fun l hl=>by
     rcases Nat.lt_or_ge 400 l.length with g|g
     ·exact absurd ⟨l,hl,g⟩ c2
     ·exact g
    obtain ⟨R,hR,p1,p2⟩:=a4 (by omega) c2' c3
    obtain ⟨R', hR', q1,q2⟩:=b4 (by omega) c2' c3
    have e:=atoms_ext hR hR'
    subst e
    by_cases c4:∃ a∈R,400<a.length
    ·rw[p1 c4,q1 c4]
    ·have c4' : ∀ a∈R,a.length≤400:=fun l hl=>by
      rcases Nat.lt_or_ge 400 l.length with g|g
      ·exact absurd ⟨l,hl,g⟩ c4
      ·exact g
     rw[p2 c4', q2 c4']

structure Classes (ls:List (List Rg)) (f:Int) (C:List (List Rg)):Prop where
 ok:∀ a∈C,a≠[]∧(∀ r∈a,okR r∧r.2<f)∧a.Pairwise fun x y=>x.2<y.1
 all:∀ c,0≤c→c<f→∃ a∈C,covb a c=true
 like:∀ a∈C,∀ c,covb a c=true→likeB ls (low a) c=true
 apart:C.Pairwise fun a b=>likeB ls (low a) (low b)=false
 rise:C.Pairwise fun a b=>low a<low b
theorem low_append {a:List Rg}(r:Rg) (hn:a≠[]):low (a++[r])=low a:=by
 cases a with
 | nil=>exact absurd rfl hn
 | cons s t=>rfl
end Go.Proofs.YtbbmjdddemahfaaGreat.M
namespace Go.Proofs.YtbbmjdddemahfaaGreat.M

abbrev Ed:=Int × Nat
def odd (j:Nat):List Ed→Bool
 | []=>false
 | e :: t=>Bool.xor (e.2 == j) (odd j t)
theorem odd_append (j:Nat) (a b:List Ed):odd j (a++b)=Bool.xor (odd j a) (odd j b):=by
 induction a with
 | nil=>simp[odd]
 | cons e t ih=>simp[odd,ih,Bool.xor_assoc]
theorem odd_perm {a b:List Ed}(h:a.Perm b) (j:Nat):odd j a=odd j b:=by
 induction h with
 | nil=>rfl
 | cons x _ ih=>simp[odd,ih]
 | swap x y l=>simp only[odd];rw[← Bool.xor_assoc,← Bool.xor_assoc,Bool.xor_comm (y.2 == j)]
 | trans _ _ h1 h2=>rw[h1,h2]
theorem odd_other {j n:Nat}(h:n≠j):∀ {E:List Ed},(∀ e∈E,e.2=n)→odd j E=false
 | [],_=>rfl
 | e :: t,hE=>by
  have h1:=hE e (by simp)
  have h2:=odd_other h (E:=t) fun x hx=>hE x (by simp[hx])
  simp[odd,h1,h2,h]
def oneF (n:Nat) (L:List Rg):List Ed:=L.flatMap fun r=>[(r.1,n),(r.2+1,n)]
theorem oneF_set (n:Nat) (L:List Rg):∀ e∈oneF n L,e.2=n:=by
 intro e he
 simp only[oneF,List.mem_flatMap] at he
 obtain ⟨r,_,h⟩:=he
 simp at h
 rcases h with rfl|rfl <;> rfl
def upTo (c:Int) (E:List Ed):List Ed:=E.filter fun e=>decide (e.1≤c)
theorem one_cov (n:Nat) (c:Int):∀ {L:List Rg}{lo:Int},LF lo L→odd n (upTo c (oneF n L))=covb L c
 | [],_,_=>rfl
 | r :: t,lo,h=>by
  obtain ⟨h1,h2,h3,h4⟩:=h
  have ih:=one_cov n c h4
  have e:oneF n (r :: t)=(r.1,n) :: (r.2+1,n) :: oneF n t:=rfl
  have hl:c≤r.2+1→covb t c=false:=fun g=>LF_low h4 (by omega)
  rw[e]
  unfold upTo at ih ⊢
  by_cases g1:r.1≤c
  ·by_cases g2:r.2+1≤c
   ·have:inR r c=false:=by rw[inR_not];omega
    simp[List.filter_cons,g1,g2,odd,ih,covb,this]
   ·have:inR r c=true:=by rw[zl_];omega
    simp[List.filter_cons,g1,g2,odd,ih,covb,this,hl (by omega)]
  ·have:inR r c=false:=by rw[inR_not];omega
   have g2:¬ r.2+1≤c:=by omega
   simp[List.filter_cons,g1,g2,ih,covb,this]
def edgesTo (ls:List (List Rg)) (m:Nat):List Ed:=(List.range m).flatMap fun i=>oneF i (plainL (ls.getD i []))
theorem edgesTo_succ (ls:List (List Rg)) (m:Nat):edgesTo ls (m+1)=edgesTo ls m++oneF m (plainL (ls.getD m [])):=by
 simp[edgesTo,List.range_succ]
theorem odd_edges (ls:List (List Rg)) (j:Nat) (c:Int) (m:Nat):odd j (upTo c (edgesTo ls m))=(decide (j<m) && hasB (ls.getD j []) c):=by
 induction m with
 | zero=>simp[edgesTo,upTo,odd]
 | succ m ih =>
  have e:upTo c (edgesTo ls (m+1))=upTo c (edgesTo ls m)++upTo c (oneF m (plainL (ls.getD m []))):=by rw[edgesTo_succ];simp[upTo]
  rw[e,odd_append,ih]
  obtain ⟨p1,p2,_⟩:=plainL_ok (ls.getD m [])
  by_cases h:m=j
  ·subst h
   rw[one_cov m c p1,p2]
   simp
  ·have:odd j (upTo c (oneF m (plainL (ls.getD m []))))=false:=odd_other h fun x hx=>oneF_set m _ x (List.mem_filter.1 hx).1
   rw[this,Bool.xor_false]
   have:decide (j<m+1)=decide (j<m):=by rw[decide_eq_decide];omega
   rw[this]
def ow (ls:List (List Rg)) (c:Int):List Bool:=(List.range 60).map fun j=>hasB (ls.getD j []) c
def whoL (E:List Ed):List Bool:=(List.range 60).map fun j=>odd j E
theorem who_len (E:List Ed):(whoL E).length=60:=by simp[whoL]
theorem who_get (E:List Ed) (j:Nat) (h:j<60):(whoL E)[j]?=some (odd j E):=by simp[whoL,h]
theorem who_start:whoL []=List.replicate 60 false:=by unfold whoL;rfl
theorem who_turn (E:List Ed) (e:Ed) (h:e.2<60):whoL (E++[e])=(whoL E).set e.2 (!odd e.2 E):=by
 apply List.ext_getElem?;intro i
 by_cases hi:i<60
 ·rw[who_get _ i hi,odd_append]
  by_cases g:e.2=i
  ·subst g
   rw[List.getElem?_set_self (by rw[who_len];exact hi)]
   simp[odd]
  ·rw[List.getElem?_set_ne g,who_get _ i hi]
   have:(e.2 == i)=false:=by simpa using g
   simp[odd,this]
 ·rw[List.getElem?_eq_none (by rw[who_len];omega),List.getElem?_eq_none (by simp[who_len];omega)]
theorem like_ow {ls:List (List Rg)}(h:ls.length≤60) (x y:Int):likeB ls x y=true↔ow ls x=ow ls y:=by
 rw[like_iff]
 constructor
 ·intro hl
  unfold ow
  apply List.map_congr_left
  intro j _
  by_cases g:j<ls.length
  ·rw[List.getD_eq_getElem?_getD,List.getElem?_eq_getElem g];exact hl _ (List.getElem_mem g)
  ·rw[List.getD_eq_getElem?_getD,List.getElem?_eq_none (by omega)];show hasB [] x=hasB [] y;simp[hasB,covb]
 ·intro he l hl
  obtain ⟨j,hj⟩:=List.getElem?_of_mem hl
  have hj' := (List.getElem?_eq_some_iff.1 hj).1
  have h1:(ow ls x)[j]?=(ow ls y)[j]? := by rw[he]
  simp only[ow,List.getElem?_map,List.getElem?_range (show j<60 by omega),Option.map_some,List.getD_eq_getElem?_getD,hj,Option.getD_some] at h1
  injection h1
theorem like_ow_no {ls:List (List Rg)}(h:ls.length≤60){x y:Int}(hn:ow ls x≠ow ls y):likeB ls x y=false:=by
 rw[← Bool.not_eq_true,like_ow h];exact hn
structure IsE (ls:List (List Rg)) (E:List Ed):Prop where
 perm:E.Perm (edgesTo ls ls.length)
 sort:E.Pairwise fun x y=>x.1≤y.1
theorem edge_what {ls:List (List Rg)}{m:Nat}{e:Ed}(h:e∈edgesTo ls m):e.2<m∧∃ r∈plainL (ls.getD e.2 []),e.1=r.1∨e.1=r.2+1:=by
 simp only[edgesTo,List.mem_flatMap,List.mem_range] at h
 obtain ⟨i,hi,h⟩:=h
 have h2:=oneF_set i _ e h
 subst h2
 simp only[oneF,List.mem_flatMap] at h
 obtain ⟨r,hr,h⟩:=h
 simp at h
 rcases h with h|h
 ·exact ⟨hi,r,hr,.inl (by rw[h])⟩
 ·exact ⟨hi,r,hr,.inr (by rw[h])⟩
theorem edge_flip:∀ {L:List Rg}{lo:Int},LF lo L→∀ r∈L,∀ c:Int,(c=r.1∨c=r.2+1)→covb L (c - 1)≠covb L c
 | s :: t,lo,h,r,hr,c,hc=>by
  obtain ⟨h1,h2,h3,h4⟩:=h
  rcases List.mem_cons.1 hr with rfl|hr
  ·rcases hc with rfl|rfl
   ·have a1:inR r (r.1 - 1)=false:=by rw[inR_not];omega
    have a2:inR r r.1=true:=by rw[zl_];omega
    have a3:covb t (r.1 - 1)=false:=LF_low h4 (by omega)
    simp[covb,a1,a2,a3]
   ·have e1:r.2+1 - 1=r.2:=by omega
    rw[e1]
    have a1:inR r r.2=true:=by rw[zl_];omega
    have a2:inR r (r.2+1)=false:=by rw[inR_not];omega
    have a3:covb t (r.2+1)=false:=LF_low h4 (by omega)
    simp[covb,a1,a2,a3]
  ·have ih:=edge_flip h4 r hr c hc
   have hm:=LF_mem h4 r hr
   have hlo:s.2+2≤r.1∧r.1≤r.2:=by
    have:=LF_cov h4 (c:=r.1) (by rw[covb_iff];exact ⟨r,hr,Int.le_refl _,by omega⟩)
    omega
   have a1:inR s (c - 1)=false:=by rw[inR_not];omega
   have a2:inR s c=false:=by rw[inR_not];omega
   simpa [covb,a1,a2] using ih
theorem edge_range {L:List Rg}(h:LF 0 L){r:Rg}(hr:r∈L):0≤r.1∧r.1≤r.2∧r.2≤1114111:=by
 have hm:=LF_mem h r hr
 have:=LF_cov h (c:=r.1) (by rw[covb_iff];exact ⟨r,hr,Int.le_refl _,by omega⟩)
 omega
theorem edge_turns {ls:List (List Rg)}(hl:ls.length≤60){e:Ed}(h:e∈edgesTo ls ls.length):ow ls (e.1 - 1)≠ow ls e.1∧0≤e.1∧e.1≤1114112∧e.2<60:=by
 obtain ⟨h1,r,hr,h2⟩:=edge_what h
 obtain ⟨p1,p2,_⟩:=plainL_ok (ls.getD e.2 [])
 have hm:=edge_range p1 hr
 refine ⟨fun he=>?_,by omega,by omega,by omega⟩
 have:=edge_flip p1 r hr e.1 h2
 rw[p2,p2] at this
 apply this
 have h3:(ow ls (e.1 - 1))[e.2]?=(ow ls e.1)[e.2]? := by rw[he]
 simp only[ow,List.getElem?_map,List.getElem?_range (show e.2<60 by omega),Option.map_some] at h3
 injection h3
theorem who_is {ls:List (List Rg)}(hl:ls.length≤60){E pre post:List Ed}(h:IsE ls E) (he:E=pre++post){c:Int}(h1:∀ e∈pre,e.1≤c) (h2:∀ e∈post,c<e.1):whoL pre=ow ls c:=by
 unfold whoL ow
 apply List.map_congr_left
 intro j hj
 have hu:upTo c E=pre:=by
  rw[he];unfold upTo
  rw[List.filter_append,List.filter_eq_self.2 (fun e h=>by simpa using h1 e h),List.filter_eq_nil_iff.2 (fun e h=>by have:=h2 e h;simp;omega),List.append_nil]
 have hp:odd j (upTo c E)=odd j (upTo c (edgesTo ls ls.length)):=odd_perm (h.perm.filter _) j
 rw[← hu,hp,odd_edges]
 by_cases g:j<ls.length
 ·simp[g]
 ·have:ls.getD j []=[]:=by rw[List.getD_eq_getElem?_getD,List.getElem?_eq_none (by omega)];rfl
  rw[this];simp[hasB,covb]

abbrev Pc:=Rg × List Bool
def pcs (ls:List (List Rg)):Int→List Ed→List Pc
 | f,[]=>if f≤1114111 then [((f,1114111),ow ls f)] else []
 | f,e :: t=>if f<e.1 then ((f,e.1 - 1),ow ls f) :: pcs ls e.1 t else pcs ls f t
theorem pcs_len (ls:List (List Rg)):∀ (E:List Ed) (f:Int),(pcs ls f E).length≤E.length+1
 | [],f=>by unfold pcs;split <;> simp
 | e :: t,f=>by
  unfold pcs
  split
  ·have:=pcs_len ls t e.1;simp;omega
  ·have:=pcs_len ls t f;simp;omega
def Run (ls:List (List Rg)):Int→List Pc→Prop
 | f,[]=>f=1114112
 | f,x :: t=>x.1.1=f∧f≤x.1.2∧x.1.2≤1114111∧(∀ c,f≤c→c≤x.1.2→ow ls c=x.2)∧(t≠[]→ow ls (x.1.2+1)≠x.2)∧Run ls (x.1.2+1) t
theorem pcs_run {ls:List (List Rg)}(hl:ls.length≤60){E:List Ed}(h:IsE ls E):∀ (post pre:List Ed) (f:Int),E=pre++post→(∀ e∈pre,e.1≤f)→(∀ e∈post,f≤e.1)→f≤1114112→Run ls f (pcs ls f post)
 | [],pre,f,he,h1,_,hf=>by
  unfold pcs
  split
  ·rename_i g
   refine ⟨rfl,g,Int.le_refl _,fun c c1 _=>?_,fun hn=>absurd rfl hn,rfl⟩
   show ow ls c=ow ls f
   rw[← who_is hl h he (c:=c) (fun e he=>by have:=h1 e he;omega) (by simp),← who_is hl h he (c:=f) h1 (by simp)]
  ·show f=1114112;omega
 | e :: t,pre,f,he,h1,h2,hf=>by
  have hs:(e :: t).Pairwise fun x y=>x.1≤y.1:=by have:=h.sort;rw[he,List.pairwise_append] at this;exact this.2.1
  rw[List.pairwise_cons] at hs
  have hm:e∈edgesTo ls ls.length:=h.perm.mem_iff.1 (by rw[he];simp)
  obtain ⟨t1,t2,t3,_⟩:=edge_turns hl hm
  have he' : E=(pre++[e])++t:=by rw[he];simp
  have h0:f≤e.1:=h2 e (by simp)
  unfold pcs
  split
  ·rename_i g
   have hall:∀ c,f≤c→c<e.1→ow ls c=ow ls f:=fun c c1 c2=>by
    rw[← who_is hl h he (c:=c) (fun x hx=>by have:=h1 x hx;omega) (fun x hx=>by
      rcases List.mem_cons.1 hx with rfl|hx
      ·exact c2
      ·have:=hs.1 x hx;omega),
     ← who_is hl h he (c:=f) h1 (fun x hx=>by
      rcases List.mem_cons.1 hx with rfl|hx
      ·exact g
      ·have:=hs.1 x hx;omega)]
   have ee:e.1 - 1+1=e.1:=by omega
   refine ⟨rfl,by show f≤e.1 - 1;omega,by show e.1 - 1≤1114111;omega,fun c c1 c2=>hall c c1 (by have:c≤e.1 - 1:=c2;omega),fun _ hw=>t1 ?_,?_⟩
   ·rw[hall (e.1 - 1) (by omega) (by omega)]
    have hw' : ow ls (e.1 - 1+1)=ow ls f:=hw
    rw[ee] at hw'; exact hw'.symm
   ·show Run ls (e.1 - 1+1) _
    rw[ee]
    refine pcs_run hl h t (pre++[e]) e.1 he' (fun x hx=>?_) hs.1 t3
    rcases List.mem_append.1 hx with hx|hx
    ·have:=h1 x hx;omega
    ·simp at hx;subst hx;exact Int.le_refl _
  ·rename_i g
   refine pcs_run hl h t (pre++[e]) f he' (fun x hx=>?_) (fun x hx=>h2 x (by simp[hx])) hf
   rcases List.mem_append.1 hx with hx|hx
   ·exact h1 x hx
   ·simp at hx;subst hx;omega

def keys:List Pc→List (List Bool)
 | []=>[]
 | x :: t=>x.2 :: (keys t).filter fun o=>decide (o≠x.2)
def cls (l:List Pc) (o:List Bool):List Rg:=(l.filter fun x=>decide (x.2=o)).map (·.1)
def atomsOf (l:List Pc):List (List Rg):=(keys l).map (cls l)
theorem mem_keys {o:List Bool}:∀ {l:List Pc},o∈keys l↔∃ x∈l,x.2=o
 | []=>by simp[keys]
 | x :: t=>by
  have ih:=mem_keys (o:=o) (l:=t)
  simp only[keys,List.mem_cons,List.mem_filter,ih,decide_eq_true_eq]
  constructor
  ·rintro (rfl|⟨⟨y,hy,rfl⟩,_⟩)
   ·exact ⟨x,.inl rfl,rfl⟩
   ·exact ⟨y,.inr hy,rfl⟩
  ·rintro ⟨y,rfl|hy,rfl⟩
   ·exact .inl rfl
   ·by_cases g:y.2=x.2
    ·exact .inl g
    ·exact .inr ⟨⟨y,hy,rfl⟩,g⟩
theorem nodup_keys:∀ (l:List Pc),(keys l).Nodup
 | []=>List.nodup_nil
 | x :: t=>by
  unfold keys
  rw[List.nodup_cons]
  exact ⟨fun h=>by simp at h,(nodup_keys t).sublist List.filter_sublist⟩
theorem keys_snoc (x:Pc):∀ (l:List Pc),keys (l++[x])=if x.2∈keys l then keys l else keys l++[x.2]
 | []=>by simp[keys]
 | y :: t=>by
  have ih:=keys_snoc x t
  have e:keys (y :: t++[x])=y.2 :: (keys (t++[x])).filter fun o=>decide (o≠y.2):=rfl
  rw[e,ih]
  by_cases g:x.2∈keys t
  ·have g2:x.2∈keys (y :: t):=by
    rw[mem_keys] at g ⊢;obtain ⟨z,hz,h⟩:=g;exact ⟨z,by simp[hz],h⟩
   rw[if_pos g,if_pos g2];rfl
  ·rw[if_neg g]
   by_cases g3:x.2=y.2
   ·have g2:x.2∈keys (y :: t):=by rw[mem_keys];exact ⟨y,by simp,g3.symm⟩
    rw[if_pos g2,List.filter_append]
    simp[g3,keys]
   ·have g2:x.2∉keys (y :: t):=by
     rw[mem_keys] at g ⊢
     rintro ⟨z,hz,h⟩
     rcases List.mem_cons.1 hz with rfl|hz
     ·exact g3 h.symm
     ·exact g ⟨z,hz,h⟩
    rw[if_neg g2,List.filter_append]
    simp[g3,keys]
theorem cls_snoc (l:List Pc) (x:Pc) (o:List Bool):cls (l++[x]) o=cls l o++if x.2=o then [x.1] else []:=by
 unfold cls
 rw[List.filter_append,List.map_append]
 by_cases h:x.2=o <;> simp[h]
theorem cls_none {l:List Pc}{o:List Bool}(h:o∉keys l):cls l o=[]:=by
 unfold cls
 rw[List.map_eq_nil_iff,List.filter_eq_nil_iff]
 intro x hx hc
 exact h (mem_keys.2 ⟨x,hx,by simpa using hc⟩)
theorem atoms_new {l:List Pc}{x:Pc}(h:x.2∉keys l):atomsOf (l++[x])=atomsOf l++[[x.1]]:=by
 unfold atomsOf
 rw[keys_snoc,if_neg h,List.map_append]
 congr 1
 ·apply List.map_congr_left
  intro o ho
  rw[cls_snoc,if_neg (fun e:x.2=o=>h (by rw[e];exact ho)),List.append_nil]
 ·simp[cls_snoc,cls_none h]
theorem atoms_at {l:List Pc}{o:List Bool}{k:Nat}(h:(keys l)[k]?=some o):(atomsOf l)[k]?=some (cls l o):=by
 simp[atomsOf,h]
theorem atoms_known {l:List Pc}{x:Pc}{k:Nat}(h:(keys l)[k]?=some x.2):atomsOf (l++[x])=(atomsOf l).set k (cls l x.2++[x.1]):=by
 have hm:=List.mem_of_getElem? h
 obtain ⟨hk,hx⟩:=List.getElem?_eq_some_iff.1 h
 unfold atomsOf
 rw[keys_snoc,if_pos hm]
 apply List.ext_getElem (by simp)
 intro i h1 h2
 have hi:i<(keys l).length:=by simpa using h1
 simp only[List.getElem_map,List.getElem_set,cls_snoc]
 by_cases e:k=i
 ·subst e;rw[if_pos hx.symm,if_pos rfl,hx]
 ·rw[if_neg e,if_neg,List.append_nil]
  intro e2
  have:=(List.nodup_iff_pairwise_ne.1 (nodup_keys l))
  rw[List.pairwise_iff_getElem] at this
  rcases Nat.lt_or_ge k i with g|g
  ·exact this k i hk hi g (by rw[hx,e2])
  ·exact this i k hi hk (by omega) (by rw[hx,e2])

theorem run_each {ls:List (List Rg)}:∀ {xs:List Pc}{f:Int},Run ls f xs→∀ x∈xs,f≤x.1.1∧x.1.1≤x.1.2∧x.1.2≤1114111∧∀ c,x.1.1≤c→c≤x.1.2→ow ls c=x.2
 | y :: t,f,h,x,hx=>by
  obtain ⟨h1,h2,h3,h4,_,h5⟩:=h
  rcases List.mem_cons.1 hx with rfl|hx
  ·rw[h1];exact ⟨Int.le_refl _,h2,h3,h4⟩
  ·obtain ⟨a1,a2⟩:=run_each h5 x hx
   exact ⟨by omega,a2⟩
theorem run_all {ls:List (List Rg)}:∀ {xs:List Pc}{f:Int},Run ls f xs→∀ c,f≤c→c≤1114111→∃ x∈xs,x.1.1≤c∧c≤x.1.2
 | [],f,h,c,h1,h2=>by have:f=1114112:=h;omega
 | y :: t,f,h,c,h1,h2=>by
  obtain ⟨g1,g2,g3,g4,_,g5⟩:=h
  by_cases e:c≤y.1.2
  ·exact ⟨y,by simp,by omega,e⟩
  ·obtain ⟨x,hx,h3⟩:=run_all g5 c (by omega) h2
   exact ⟨x,by simp[hx],h3⟩
theorem run_rise {ls:List (List Rg)}:∀ {xs:List Pc}{f:Int},Run ls f xs→xs.Pairwise fun x y=>x.1.1<y.1.1
 | [],_,_=>List.Pairwise.nil
 | y :: t,f,h=>by
  obtain ⟨g1,g2,g3,g4,_,g5⟩:=h
  rw[List.pairwise_cons]
  exact ⟨fun x hx=>by have:=(run_each g5 x hx).1;omega,run_rise g5⟩
theorem run_cls {ls:List (List Rg)}(o:List Bool):∀ {xs:List Pc}{f:Int},Run ls f xs→LF f (cls xs o)∧(ow ls f≠o→LF (f+1) (cls xs o))
 | [],f,_=>⟨trivial,fun _=>trivial⟩
 | y :: t,f,h=>by
  obtain ⟨g1,g2,g3,g4,g6,g5⟩:=h
  obtain ⟨i1,i2⟩:=run_cls o g5
  have hy:ow ls f=y.2:=g4 f (Int.le_refl _) g2
  by_cases e:y.2=o
  ·have ec:cls (y :: t) o=y.1 :: cls t o:=by simp[cls,e]
   rw[ec]
   refine ⟨⟨by omega,by omega,g3,?_⟩,fun hn=>absurd (hy.trans e) hn⟩
   by_cases ht:t=[]
   ·subst ht;exact trivial
   ·have:=i2 (fun he=>g6 ht (by rw[he,e]))
    exact LF_mono this (by omega)
  ·have ec:cls (y :: t) o=cls t o:=by simp[cls,e]
   rw[ec]
   exact ⟨LF_mono i1 (by omega),fun _=>LF_mono i1 (by omega)⟩
theorem cls_ne {l:List Pc}{o:List Bool}(h:o∈keys l):cls l o≠[]:=by
 obtain ⟨x,hx,he⟩:=mem_keys.1 h
 intro hc
 unfold cls at hc
 rw[List.map_eq_nil_iff,List.filter_eq_nil_iff] at hc
 exact hc x hx (by simpa using he)
theorem cls_low {l:List Pc}{o:List Bool}(h:o∈keys l):∃ x∈l,x.2=o∧low (cls l o)=x.1.1:=by
 have hn:=cls_ne h
 cases hc:cls l o with
 | nil=>exact absurd hc hn
 | cons r t =>
  have:r∈cls l o:=by rw[hc];simp
  unfold cls at this
  rw[List.mem_map] at this
  obtain ⟨x,hx,rfl⟩:=this
  rw[List.mem_filter] at hx
  exact ⟨x,hx.1,by simpa using hx.2,rfl⟩
theorem keys_rise:∀ {xs:List Pc},xs.Pairwise (fun x y=>x.1.1<y.1.1)→(keys xs).Pairwise fun o o' => low (cls xs o)<low (cls xs o')
 | [],_=>List.Pairwise.nil
 | x :: t,h=>by
  rw[List.pairwise_cons] at h
  have ih:=keys_rise h.2
  have hc:∀ o,o≠x.2→cls (x :: t) o=cls t o:=fun o ho=>by simp[cls,Ne.symm ho]
  have hf:low (cls (x :: t) x.2)=x.1.1:=by simp[cls,low]
  unfold keys
  rw[List.pairwise_cons]
  refine ⟨fun o ho=>?_,?_⟩
  ·rw[List.mem_filter] at ho
   have hne:o≠x.2:=by simpa using ho.2
   rw[hf,hc o hne]
   obtain ⟨y,hy,_,hl⟩:=cls_low ho.1
   rw[hl];exact h.1 y hy
  ·refine (ih.sublist List.filter_sublist).imp_of_mem fun {a b} ha hb hab=>?_
   rw[List.mem_filter] at ha hb
   rw[hc a (by simpa using ha.2),hc b (by simpa using hb.2)];exact hab
theorem cls_cov {ls:List (List Rg)}{xs:List Pc}{f:Int}(h:Run ls f xs){o:List Bool}{c:Int}(hc:covb (cls xs o) c=true):ow ls c=o∧f≤c∧c≤1114111:=by
 rw[covb_iff] at hc
 obtain ⟨r,hr,h1,h2⟩:=hc
 unfold cls at hr
 rw[List.mem_map] at hr
 obtain ⟨x,hx,rfl⟩:=hr
 rw[List.mem_filter] at hx
 obtain ⟨a1,a2,a3,a4⟩:=run_each h x hx.1
 exact ⟨(a4 c h1 h2).trans (by simpa using hx.2),by omega,by omega⟩
theorem run_atoms {ls:List (List Rg)}(hl:ls.length≤60){xs:List Pc}(h:Run ls 0 xs):IsAtoms ls (atomsOf xs):=by
 refine ⟨fun a ha=>?_,fun c hc=>?_,fun a ha b hb c d hc hd hlk=>?_,fun a ha c d hc hd=>?_,?_⟩
 ·obtain ⟨o,ho,rfl⟩:=List.mem_map.1 ha
  exact ⟨(run_cls o h).1,cls_ne ho⟩
 ·rw[isch_iff] at hc
  obtain ⟨x,hx,h1,h2⟩:=run_all h c hc.1 hc.2
  refine ⟨_,List.mem_map.2 ⟨x.2,mem_keys.2 ⟨x,hx,rfl⟩,rfl⟩,?_⟩
  rw[covb_iff]
  exact ⟨x.1,List.mem_map.2 ⟨x,List.mem_filter.2 ⟨hx,by simp⟩,rfl⟩,h1,h2⟩
 ·obtain ⟨o,ho,rfl⟩:=List.mem_map.1 ha
  obtain ⟨o', ho', rfl⟩:=List.mem_map.1 hb
  have e1:=(cls_cov h hc).1
  have e2:=(cls_cov h hd).1
  rw[← e1,← e2,(like_ow hl c d).1 hlk]
 ·obtain ⟨o,ho,rfl⟩:=List.mem_map.1 ha
  rw[like_ow hl,(cls_cov h hc).1,(cls_cov h hd).1]
 ·unfold atomsOf
  rw[List.pairwise_map]
  exact keys_rise (run_rise h)
theorem run_many {ls:List (List Rg)}(hl:ls.length≤60){xs pre:List Pc}(h:Run ls 0 xs) (hp:pre <+: xs) (hk:(keys pre).length=201):TooMany ls:=by
 have hch:∀ o∈keys pre,∃ c,ow ls c=o∧isch c=true∧c=low (cls pre o):=fun o ho=>by
  obtain ⟨x,hx,h1,h2⟩:=cls_low ho
  obtain ⟨a1,a2,a3,a4⟩:=run_each h x (hp.subset hx)
  refine ⟨x.1.1,(a4 _ (Int.le_refl _) a2).trans h1,?_,h2.symm⟩
  rw[isch_iff];omega
 refine ⟨(keys pre).map fun o=>low (cls pre o),by simp[hk],fun c hc=>?_,?_⟩
 ·obtain ⟨o,ho,rfl⟩:=List.mem_map.1 hc
  obtain ⟨c,_,h2,rfl⟩:=hch o ho
  exact h2
 ·rw[List.pairwise_map]
  refine (List.nodup_iff_pairwise_ne.1 (nodup_keys pre)).imp_of_mem fun {a b} ha hb hab=>?_
  obtain ⟨c,h1,_,rfl⟩:=hch a ha
  obtain ⟨d,h2,_,rfl⟩:=hch b hb
  exact like_ow_no hl (by rw[h1,h2];exact hab)
theorem cls_prefix {pre xs:List Pc}(h:pre <+: xs) (o:List Bool):(cls pre o).length≤(cls xs o).length:=by
 obtain ⟨t,rfl⟩:=h
 unfold cls
 simp
theorem run_wide {ls:List (List Rg)}{xs pre:List Pc}(hp:pre <+: xs){o:List Bool}(hk:400<(cls pre o).length):∃ a∈atomsOf xs,400<a.length:=by
 have hm:o∈keys xs:=by
  have hn:o∈keys pre:=by
   rcases Classical.em (o∈keys pre) with h|h
   ·exact h
   ·rw[cls_none h] at hk;simp at hk
  rw[mem_keys] at hn ⊢
  obtain ⟨x,hx,he⟩:=hn
  exact ⟨x,hp.subset hx,he⟩
 exact ⟨_,List.mem_map.2 ⟨o,hm,rfl⟩,by have:=cls_prefix hp o;omega⟩
end Go.Proofs.YtbbmjdddemahfaaGreat.M
