/- Part of the proof. -/
import Derived.Test.YtbbmjdddemahfaaGreatRows
import Derived.WalkKit
import Derived.WalkSpells
import Derived.WalkLawsBesides
import Derived.Below
import Derived.Laws.OwnMore
import Derived.Laws.BytesArg
import Derived.Deep.AppendLies
import Derived.Deep.Draws
import Derived.Deep.QuietTactic
import Derived.BigQuiet
import Derived.RegionTactic
import Derived.Deep.DeepCutAuto
import Derived.Deep.RegionLaw
import Derived.Maps.AppendAt
import Derived.Lib.Hide
import Derived.Lib.Strings
import Derived.LaidEqlPtr
import Derived.Laws.StructEq
import Derived.ChangeMaps4
import Derived.Laws.Rows
namespace Go.Proofs.YtbbmjdddemahfaaGreat
open Go.RowKit

theorem qb_ {B:Nat}{a w:World}(h:Below B a w) (q:Nat):Below B a (w.drewN q):=⟨h.os,h.tape,h.output,h.size,h.block⟩
theorem qa_ (w:World) (o:Obj):Below w.heap.size w (w.alloc o):=(Below.refl _ _).alloc (Nat.le_refl _) o
theorem qo_ (b off j:Nat):(⟨b,off,none⟩:Addr).add j=⟨b,off+j,none⟩:=by
 unfold Addr.add;by_cases h:j=0 <;> simp[h]
theorem klt_of_cell {w:World}{a:Addr}{v:Value}(h:w.cell? a=some v):a.block<w.heap.size:=by
 rcases Nat.lt_or_ge a.block w.heap.size with hlt|hge
 ·exact hlt
 ·unfold World.cell? at h;rw[Array.getElem?_eq_none hge] at h;cases h
theorem kdrewN_two (w:World) (p q:Nat):(w.drewN p).drewN q=w.drewN (p+q):=by simp[World.drewN,Nat.add_assoc]

structure RdK (k:IntKind) (w:World) (B:Nat) (A:Option Addr) (n c:Nat) (L:List Int):Prop where
 len:L.length=n
 cap:n≤c
 capm:c≤maxLen
 at_:0<n→∃ b off,A=some ⟨b,off,none⟩∧b<B∧∀ (j:Nat) (x:Int),L[j]?=some x→w.cell? ⟨b,off+j,none⟩=some (.int k x)
section
variable {k:IntKind}{w w' : World}{B B' n c:Nat}{A:Option Addr}{L:List Int}
theorem RdK.keep (h:RdK k w B A n c L) (hk:∀ p:Addr,p.block<B→w'.cell? p=w.cell? p):RdK k w' B A n c L :=
 ⟨h.len,h.cap,h.capm,fun hn=>by
  obtain ⟨b,off,e,hb,hc⟩:=h.at_ hn
  exact ⟨b,off,e,hb,fun j x hx=>(hk _ hb).trans (hc j x hx)⟩⟩
theorem RdK.more (h:RdK k w B A n c L) (hB:B≤B'):RdK k w B' A n c L :=
 ⟨h.len,h.cap,h.capm,fun hn=>by
  obtain ⟨b,off,e,hb,hc⟩:=h.at_ hn
  exact ⟨b,off,e,by omega,hc⟩⟩
theorem RdK.on (h:RdK k w w.heap.size A n c L) (hb:Below w.heap.size w w'):RdK k w' w'.heap.size A n c L:=(h.keep fun _ hp=>hb.cell hp).more hb.size
theorem RdK.drewN (h:RdK k w B A n c L) (q:Nat):RdK k (w.drewN q) B A n c L:=⟨h.len,h.cap,h.capm,h.at_⟩
theorem RdK.push (h:RdK k w w.heap.size A n c L) (o:Obj):RdK k (w.alloc o) (w.alloc o).heap.size A n c L:=h.on (qa_ w o)
theorem RdK.nil (k:IntKind) (w:World) (B:Nat):RdK k w B none 0 0 []:=⟨rfl,Nat.le_refl _,by simp[maxLen],fun h=>absurd h (by omega)⟩
theorem RdK.small (h:RdK k w B A n c L):n≤9223372036854775807:=by have h1:=h.cap;have h2:=h.capm;unfold maxLen at h2;omega
theorem RdK.got (h:RdK k w B A n c L){j:Nat}(hj:j<n):∃ (b off:Nat) (x:Int),A=some ⟨b,off,none⟩∧b<B∧L[j]?=some x∧w.cell? ⟨b,off+j,none⟩=some (.int k x):=by
 have hl:j<L.length:=by have:=h.len;omega
 obtain ⟨b,off,e,hb,hc⟩:=h.at_ (by omega)
 exact ⟨b,off,_,e,hb,List.getElem?_eq_getElem hl,hc _ _ (List.getElem?_eq_getElem hl)⟩
theorem RdK.take (h:RdK k w B A n c L){m:Nat}(hm:m≤n):RdK k w B A m c (L.take m) :=
 ⟨by rw[List.length_take,h.len];omega,Nat.le_trans hm h.cap,h.capm,fun h0=>by
  obtain ⟨b,off,e,hb,hc⟩:=h.at_ (by omega)
  exact ⟨b,off,e,hb,fun j x hx=>hc j x (by
   have hj:j<m:=by have:=(List.getElem?_eq_some_iff.1 hx).1;rw[List.length_take] at this;omega
   rwa [List.getElem?_take_of_lt hj] at hx)⟩⟩
theorem RdK.drop {b off:Nat}(h:RdK k w B (some ⟨b,off,none⟩) n c L){m:Nat}(hm:m<n):RdK k w B (some ⟨b,off+m,none⟩) (n - m) (c - m) (L.drop m) :=
 ⟨by rw[List.length_drop,h.len],by have:=h.cap;omega,by have:=h.capm;omega,fun _=>by
  obtain ⟨b', off', e,hb,hc⟩:=h.at_ (by omega)
  injection e with e;injection e with e1 e2 _;subst e1 e2
  exact ⟨b,off+m,rfl,hb,fun j x hx=>by rw[Nat.add_assoc];exact hc _ x (by rwa [List.getElem?_drop] at hx)⟩⟩
def OwnK (k:IntKind) (w:World) (B:Nat) (e:TypeId) (v:Value) (n:Nat) (L:List Int):Prop:=w.ownsRow B e 1 v n (L.map (Value.int k))
theorem OwnK.len {e:TypeId}{v:Value}(h:OwnK k w B e v n L):L.length=n:=by have:=h.1;simpa using this
theorem OwnK.rd {e:TypeId}{v:Value}(h:OwnK k w B e v n L):∃ A c,v=.slice A n c∧RdK k w w.heap.size A n c L:=by
 have hl:=h.len
 rcases h.2 with ⟨h1,h2⟩|⟨g,cap,cur,h1,_,hg,h3,h4,_,_⟩
 ·subst h1 h2;obtain rfl:L=[]:=List.eq_nil_of_length_eq_zero hl;exact ⟨none,0,rfl,RdK.nil _ _ _⟩
 ·subst h1
  have hlt:g<w.heap.size:=by
   rcases Nat.lt_or_ge g w.heap.size with hlt|hge
   ·exact hlt
   ·rw[Array.getElem?_eq_none hge] at hg;cases hg
  exact ⟨_,cap,rfl,hl,h3,h4,fun _=>⟨g,0,rfl,hlt,fun j x hx=>by rw[← qo_];exact World.ownsRow.cells h (g:=g) rfl j _ (by simp[hx])⟩⟩
theorem OwnK.nil (k:IntKind) (w:World) (B:Nat) (e:TypeId):OwnK k w B e (.slice none 0 0) 0 []:=World.ownsRow_nil w B e 1
theorem OwnK.block {e:TypeId}{v:Value}(h:OwnK k w B e v n L):∀ i,v.ownBlock=some i→B≤i∧i<w.heap.size:=World.ownsRow.lt h
theorem OwnK.below {e:TypeId}{v:Value}(h:OwnK k w B e v n L) (hb:Below w.heap.size w w'):OwnK k w' B e v n L:=by
 refine ⟨h.1,?_⟩
 rcases h.2 with h2|⟨g,cap,cur,h1,hB,hg,h3⟩
 ·exact .inl h2
 ·have hlt:g<w.heap.size:=by
   rcases Nat.lt_or_ge g w.heap.size with hlt|hge
   ·exact hlt
   ·rw[Array.getElem?_eq_none hge] at hg;cases hg
  exact .inr ⟨g,cap,cur,h1,hB,(hb.block g hlt).trans hg,h3⟩
theorem OwnK.alloc {e:TypeId}{v:Value}(h:OwnK k w B e v n L) (o:Obj):OwnK k (w.alloc o) B e v n L:=World.ownsRow.alloc h o
theorem OwnK.kept {e:TypeId}{v:Value}{row:Option Nat}(h:OwnK k w B e v n L) (hg:w.grownBy w' row) (hne:v.ownBlock=none∨v.ownBlock≠row):OwnK k w' B e v n L:=World.ownsRow.kept h hg hne
end
def Apt (v u:Value):Prop:=v.ownBlock=none∨v.ownBlock≠u.ownBlock
theorem apt_nil (u:Value):Apt (.slice none 0 0) u:=Or.inl rfl
theorem qe_ {w0 w w' : World}{row:Option Nat}(h:Below w0.heap.size w0 w) (hg:w.grownBy w' row) (hr:∀ i,row=some i→w0.heap.size≤i):Below w0.heap.size w0 w' :=
 ⟨hg.os.trans h.os,hg.tape.trans h.tape,hg.output.trans h.output,Nat.le_trans h.size hg.size,fun i hi=>by
  have h1:=h.size
  exact (hg.block i (by omega) (fun e=>by have:=hr i e.symm;omega)).trans (h.block i hi)⟩
theorem info_k {P:Program}{e:TypeId}{z:Value}{s b:Nat}(h:(P.info? e).map (fun i=>(i.zero,i.size,i.bytes))=some (some z,s,b)):∃ i,P.info? e=some i∧i.zero=some z∧i.size=s∧i.bytes=b:=by
 cases hi:P.info? e with
 | none=>rw[hi] at h;cases h
 | some i=>rw[hi] at h;simp at h;exact ⟨i,rfl,h.1,h.2.1,h.2.2⟩
theorem one_k (k:IntKind) (L:List Int):∀ u∈L.map (Value.int k),u.oneCell' = true:=fun u hu=>by
 simp at hu;obtain ⟨x,_,rfl⟩:=hu;rfl
theorem app_k {P:Program}{w:World}{ops:Array Oper}{rest:List Oper}{o:Oper}{a:Act}{Q:Exit→Act→World→Prop}(k:IntKind) (hgd:o.guard=none) (s x:Operand) (t:TypeId)
  (ho:o.op=.call { callee:=.builtin .append,args:=#[s,x],argTypes:=#[t,t] })
  (base:Nat) (e:TypeId) (bytes:Nat) (ht:P.underlying t=some (.slice e)) (hi:(P.info? e).map (fun i=>(i.zero,i.size,i.bytes))=some (some (.int k 0),1,bytes)) (hby:bytes≤8)
  (v:Value) (n:Nat) (L:List Int) (hs:a.eval s=v) (hown:OwnK k w base e v n L)
  (ad:Addr) (m c:Nat) (news:List Int) (hx:a.eval x=.slice (some ad) m c) (hl:news.length=m) (hnews:∀ j u,news[j]?=some u→w.cell? (ad.add j)=some (.int k u))
  (h63:n+m≤1099511627776) (hbase:base≤w.heap.size)
  (h:∀ v' w', OwnK k w' base e v' (n+m) (L++news)→w.grownBy w' v.ownBlock→(v'.ownBlock=v.ownBlock∨v'.ownBlock=some w.heap.size)→wpList P ops Q rest (a.put o.dst v') w'):wpList P ops Q (o :: rest) a w:=by
 obtain ⟨i0,hi0,hz0,hz1,hz2⟩:=info_k hi
 refine wpList_append_own_at w hgd s x t ho base e i0 (.int k 0) 1 bytes ht hi0 hz0 hz1 hz2 rfl (by decide) v n _ hs hown ad m c (news.map (Value.int k)) hx (by simp[hl]) ?_ (one_k k news) (by unfold maxLen;omega) ?_ hbase ?_
 ·intro j u hu
  simp at hu
  obtain ⟨y,hy,rfl⟩:=hu
  exact hnews j y hy
 ·have:=Nat.mul_le_mul (Nat.le_refl (n+m)) hby
  omega
 ·intro v' w' h1 h2 _ h4
  exact h v' w' (by unfold OwnK;rw[List.map_append];exact h1) h2 h4
theorem grown_refl (w:World) (row:Option Nat):w.grownBy w row:=⟨rfl,rfl,rfl,Nat.le_refl _,fun _ _ _=>rfl⟩
theorem lit_k (w:World) (N:Nat) (hN:N=w.heap.size) (k:IntKind) (L:List Int) (t:TypeId) (cs:Array Value) (hc:cs.toList=L.map (Value.int k)):∀ j u,L[j]?=some u→(w.alloc (.cells cs t)).cell? ((⟨N,0,none⟩:Addr).add j)=some (.int k u):=by
 subst hN
 intro j u hu
 rw[qo_,cell_of_row (w.alloc (.cells cs t)) w.heap.size (0+j) cs t (0,0) (heap_alloc_new w _),Nat.zero_add]
 have:cs.toList[j]?=some (.int k u):=by rw[hc];simp[hu]
 simpa using this
theorem rd_lit_k (w:World) (N:Nat) (hN:N=w.heap.size) (k:IntKind) (L:List Int) (t:TypeId) (cs:Array Value) (hc:cs.toList=L.map (Value.int k)) (hm:L.length≤1099511627776) :
  RdK k (w.alloc (.cells cs t)) (w.alloc (.cells cs t)).heap.size (some ⟨N,0,none⟩) L.length L.length L :=
 ⟨rfl,Nat.le_refl _,by unfold maxLen;omega,fun _=>⟨N,0,rfl,by subst hN;simp,fun j u hu=>by have:=lit_k w N hN k L t cs hc j u hu;rwa [qo_] at this⟩⟩
theorem conv_k {P:Program}{w:World}{B:Nat}{A:Option Addr}{n c:Nat}{L:List Int}(h:RdK .u8 w B A n c L) (src e dst:TypeId) (hs:P.underlying src=some (.slice e)) (he:P.underlying e=some (.int .u8)) (hd:P.underlying dst=some .string) :
  (hn:0<n)→(convert src dst (.slice A n c)).run P w=.ok (.string (strOfNums L)) w:=by
 intro hn
 obtain ⟨b,off,rfl,_,hc⟩:=h.at_ hn
 refine run_convert_bytes_arg w src e hs he b off n c L h.len (fun i hi=>?_) dst hd
 have hl:i<L.length:=by rw[h.len];exact hi
 rw[hc i L[i] (List.getElem?_eq_getElem hl)]
 simp[List.getD,List.getElem?_eq_getElem hl]
theorem conv_any {P:Program}{w:World}{B:Nat}{A:Option Addr}{n c:Nat}{L:List Int}(h:RdK .u8 w B A n c L) (src e dst:TypeId) (hs:P.underlying src=some (.slice e)) (he:P.underlying e=some (.int .u8)) (hd:P.underlying dst=some .string) :
  (convert src dst (.slice A n c)).run P w=.ok (.string (strOfNums L)) w:=by
 rcases Nat.eq_zero_or_pos n with h0|h0
 ·subst h0
  obtain rfl:L=[]:=List.eq_nil_of_length_eq_zero h.len
  cases A with
  | none=>exact run_convert_bytes_nil w src e hs he 0 c dst hd
  | some a =>
   have hl:(loadCells a 0).run P w=.ok (([]:List Int).map (Value.int .u8)).toArray w:=run_loadCells_list (P:=P) w a [] (fun j v hj=>by simp at hj)
   rw[run_convert_bytes_string w src dst e _ 0 c hs he hd,run_bytesToString w _ 0 c [] hl,foldl_push_bytes]
   rfl
 ·exact conv_k h src e dst hs he hd h0
theorem str_inj {a b:List Int}(ha:∀ x∈a,0≤x∧x<256) (hb:∀ x∈b,0≤x∧x<256):strOfNums a=strOfNums b↔a=b:=by
 refine ⟨fun h=>?_,fun h=>by rw[h]⟩
 have h1:(strOfNums a).data.toList=(strOfNums b).data.toList:=by rw[h]
 rw[strOfNums_data,strOfNums_data] at h1
 clear h
 induction a generalizing b with
 | nil=>cases b with
  | nil=>rfl
  | cons y t=>simp at h1
 | cons x s ih=>cases b with
  | nil=>simp at h1
  | cons y t =>
   simp only[List.map_cons,List.cons.injEq] at h1
   have e1:=congrArg UInt8.toNat h1.1
   have hx:=ha x (by simp);have hy:=hb y (by simp)
   simp only[UInt8.toNat_ofNat'] at e1
   have e2:x=y:=by omega
   rw[e2,ih (fun z hz=>ha z (by simp[hz])) (fun z hz=>hb z (by simp[hz])) h1.2]
theorem str_eqB {a b:List Int}(ha:∀ x∈a,0≤x∧x<256) (hb:∀ x∈b,0≤x∧x<256):((strOfNums a).toList == (strOfNums b).toList)=decide (a=b):=by
 rw[Lib.toList_data,Lib.toList_data,Bool.eq_iff_iff,beq_iff_eq,decide_eq_true_eq,← str_inj ha hb]
 refine ⟨fun h=>?_,fun h=>by rw[h]⟩
 exact ByteArray.ext (Array.ext' h)
def NumK (w:World) (x:Int) (e:Ending) (w' : World):Prop:=e=.returned (.int .i64 x)∧Below w.heap.size w w'
def BooK (w:World) (x:Bool) (e:Ending) (w' : World):Prop:=e=.returned (.bool x)∧Below w.heap.size w w'

theorem equalIn_i64 {P:Program}{w:World}{t:TypeId}(hu:P.underlying t=some (.int .i64)) (x y:Int) (d:Nat) :
  (Op.equalIn (d+1) t (.int .i64 x) (.int .i64 y)).run P w=.ok (decide (x=y)) w:=by
 simp only[Op.equalIn,Sem.run_bind,run_underlying hu,Result.andThen]
 have:(x == y)=decide (x=y):=by by_cases h:x=y <;> simp[h]
 simp[this]
section
variable {P:Program}{κ:Type} [DecidableEq κ]
variable {w:World}{kt:TypeId}{enc:κ→Value}{good:κ→Prop}{R:κ→Value→Prop}
end
end Go.Proofs.YtbbmjdddemahfaaGreat
set_option maxRecDepth 100000
namespace Go.Proofs.YtbbmjdddemahfaaGreat
open Go.RowKit

inductive Pt where
 | mk (kind:Int) (set:List (Int × Int)) (signs:List Int) (kids:List Pt)
def Pt.kind:Pt→Int | .mk k _ _ _=>k
def Pt.set:Pt→List (Int × Int) | .mk _ s _ _=>s
def Pt.signs:Pt→List Int | .mk _ _ g _=>g
def Pt.kids:Pt→List Pt | .mk _ _ _ l=>l
def zeroP:Pt:=.mk 0 [] [] []
mutual
def Pt.size:Pt→Nat
 | .mk _ _ _ l=>ptsSize l+1
def ptsSize:List Pt→Nat
 | []=>0
 | x :: t=>x.size+ptsSize t
end
theorem Pt.size_pos (x:Pt):1≤x.size:=by cases x;rw[Pt.size];omega
theorem Pt.size_kids (x:Pt):ptsSize x.kids+1=x.size:=by cases x;rw[Pt.size];rfl
theorem ptsSize_app (l m:List Pt):ptsSize (l++m)=ptsSize l+ptsSize m:=by
 induction l with
 | nil=>simp[ptsSize]
 | cons x t ih=>simp[ptsSize,ih];omega
theorem ptsSize_take {l:List Pt}{i:Nat}{x:Pt}(h:l[i]?=some x):ptsSize (l.take (i+1))=ptsSize (l.take i)+x.size:=by
 rw[List.take_add_one,h,ptsSize_app]
 simp[ptsSize]
theorem ptsSize_le (l:List Pt) (i:Nat):ptsSize (l.take i)≤ptsSize l:=by
 have h:l=l.take i++l.drop i:=(List.take_append_drop i l).symm
 have:=congrArg ptsSize h
 rw[ptsSize_app] at this
 omega
theorem ptsSize_mem {l:List Pt}{i:Nat}{x:Pt}(h:l[i]?=some x):x.size≤ptsSize l:=by
 have h1:=ptsSize_take h
 have h2:=ptsSize_le l (i+1)
 omega
mutual
def Pt.small:Pt→Prop
 | .mk _ s g l=>s.length≤140737488355328∧g.length≤140737488355328∧ptsSmall l
def ptsSmall:List Pt→Prop
 | []=>True
 | x :: t=>x.small∧ptsSmall t
end

structure RgAt (w:World) (S:Nat→Prop) (A:Option Addr) (n c:Nat) (L:List (Int × Int)):Prop where
 len:L.length=n
 cap:n≤c
 capm:c≤maxLen
 at_:0<n→∃ b off,A=some ⟨b,off,none⟩∧S b∧∀ (j:Nat) (r:Int × Int),L[j]?=some r→w.cell? ⟨b,off+j*2,none⟩=some (.int .i64 r.1)∧w.cell? ⟨b,off+j*2+1,none⟩=some (.int .i64 r.2)
structure InAt (w:World) (S:Nat→Prop) (A:Option Addr) (n c:Nat) (L:List Int):Prop where
 len:L.length=n
 cap:n≤c
 capm:c≤maxLen
 at_:0<n→∃ b off,A=some ⟨b,off,none⟩∧S b∧∀ (j:Nat) (x:Int),L[j]?=some x→w.cell? ⟨b,off+j,none⟩=some (.int .i64 x)
section
variable {w w' : World}{S S' : Nat→Prop}{A:Option Addr}{n c:Nat}
theorem RgAt.keep {L:List (Int × Int)}(h:RgAt w S A n c L) (hS:∀ b,S b→S' b) (hk:∀ p:Addr,S p.block→w'.cell? p=w.cell? p):RgAt w' S' A n c L :=
 ⟨h.len,h.cap,h.capm,fun hn=>by
  obtain ⟨b,off,e,hb,hc⟩:=h.at_ hn
  exact ⟨b,off,e,hS b hb,fun j r hr=>⟨(hk ⟨b,_,none⟩ hb).trans (hc j r hr).1,(hk ⟨b,_,none⟩ hb).trans (hc j r hr).2⟩⟩⟩
theorem InAt.keep {L:List Int}(h:InAt w S A n c L) (hS:∀ b,S b→S' b) (hk:∀ p:Addr,S p.block→w'.cell? p=w.cell? p):InAt w' S' A n c L :=
 ⟨h.len,h.cap,h.capm,fun hn=>by
  obtain ⟨b,off,e,hb,hc⟩:=h.at_ hn
  exact ⟨b,off,e,hS b hb,fun j r hr=>(hk ⟨b,_,none⟩ hb).trans (hc j r hr)⟩⟩
theorem RgAt.nil (w:World) (S:Nat→Prop):RgAt w S none 0 0 []:=⟨rfl,Nat.le_refl _,by simp[maxLen],fun h=>absurd h (by omega)⟩
theorem InAt.nil (w:World) (S:Nat→Prop):InAt w S none 0 0 []:=⟨rfl,Nat.le_refl _,by simp[maxLen],fun h=>absurd h (by omega)⟩
theorem RgAt.small {L:List (Int × Int)}(h:RgAt w S A n c L):n≤9223372036854775807:=by have h1:=h.cap;have h2:=h.capm;unfold maxLen at h2;omega
theorem InAt.small {L:List Int}(h:InAt w S A n c L):n≤9223372036854775807:=by have h1:=h.cap;have h2:=h.capm;unfold maxLen at h2;omega
theorem RgAt.got {L:List (Int × Int)}(h:RgAt w S A n c L){k:Nat}(hk:k<n):∃ (b off:Nat) (lo hi:Int),A=some ⟨b,off,none⟩∧S b∧L[k]?=some (lo,hi)∧w.cell? ⟨b,off+k*2,none⟩=some (.int .i64 lo)∧w.cell? ⟨b,off+k*2+1,none⟩=some (.int .i64 hi):=by
 have hl:k<L.length:=by have:=h.len;omega
 obtain ⟨b,off,e,hb,hc⟩:=h.at_ (by omega)
 obtain ⟨h1,h2⟩:=hc k _ (List.getElem?_eq_getElem hl)
 exact ⟨b,off,_,_,e,hb,List.getElem?_eq_getElem hl,h1,h2⟩
theorem InAt.got {L:List Int}(h:InAt w S A n c L){k:Nat}(hk:k<n):∃ (b off:Nat) (x:Int),A=some ⟨b,off,none⟩∧S b∧L[k]?=some x∧w.cell? ⟨b,off+k,none⟩=some (.int .i64 x):=by
 have hl:k<L.length:=by have:=h.len;omega
 obtain ⟨b,off,e,hb,hc⟩:=h.at_ (by omega)
 exact ⟨b,off,_,e,hb,List.getElem?_eq_getElem hl,hc k _ (List.getElem?_eq_getElem hl)⟩
end
def Bl (w:World) (b:Nat):Prop:=b<w.heap.size
theorem RgAt.on {w w' : World}{A:Option Addr}{n c:Nat}{L:List (Int × Int)}(h:RgAt w (Bl w) A n c L) (hb:Below w.heap.size w w'):RgAt w' (Bl w') A n c L :=
 h.keep (fun _ hi=>Nat.lt_of_lt_of_le hi hb.size) (fun _ hp=>hb.cell hp)
theorem InAt.on {w w' : World}{A:Option Addr}{n c:Nat}{L:List Int}(h:InAt w (Bl w) A n c L) (hb:Below w.heap.size w w'):InAt w' (Bl w') A n c L :=
 h.keep (fun _ hi=>Nat.lt_of_lt_of_le hi hb.size) (fun _ hp=>hb.cell hp)

inductive PtAt (w:World) (S:Nat→Prop):List Value→Pt→Prop
 | mk (k:Int) (sA:Option Addr) (sn sc:Nat) (L:List (Int × Int)) (gA:Option Addr) (gn gc:Nat) (G:List Int) (A:Option Addr) (n c:Nat) (kids:List Pt) (cs:Nat→List Value)
   (hs:RgAt w S sA sn sc L) (hg:InAt w S gA gn gc G) (hl:kids.length=n) (hc:n≤c) (hm:c≤maxLen)
   (hA:0<n→∃ b off,A=some ⟨b,off,none⟩∧S b∧∀ i,i<n→∀ j u,(cs i)[j]?=some u→w.cell? ⟨b,off+(i*4+j),none⟩=some u)
   (hk:∀ i x,kids[i]?=some x→PtAt w S (cs i) x):PtAt w S [.int .i64 k,.slice sA sn sc,.slice gA gn gc,.slice A n c] (.mk k L G kids)
structure RdP (w:World) (S:Nat→Prop) (A:Option Addr) (n c:Nat) (l:List Pt):Prop where
 len:l.length=n
 cap:n≤c
 capm:c≤maxLen
 at_:∃ cs:Nat→List Value,(0<n→∃ b off,A=some ⟨b,off,none⟩∧S b∧∀ i,i<n→∀ j u,(cs i)[j]?=some u→w.cell? ⟨b,off+(i*4+j),none⟩=some u)∧∀ i x,l[i]?=some x→PtAt w S (cs i) x
structure PtIn (w:World) (S:Nat→Prop) (sA:Option Addr) (sn sc:Nat) (gA:Option Addr) (gn gc:Nat) (A:Option Addr) (n c:Nat) (x:Pt):Prop where
 set:RgAt w S sA sn sc x.set
 signs:InAt w S gA gn gc x.signs
 kids:RdP w S A n c x.kids
theorem PtAt.of {w:World}{S:Nat→Prop}{sA gA A:Option Addr}{sn sc gn gc n c:Nat}{x:Pt}(h:PtIn w S sA sn sc gA gn gc A n c x):PtAt w S [.int .i64 x.kind,.slice sA sn sc,.slice gA gn gc,.slice A n c] x:=by
 obtain ⟨h1,h2,h3,h4,h5,cs,h6,h7⟩:=h
 cases x with
 | mk k L G l=>exact .mk k sA sn sc L gA gn gc G A n c l cs h1 h2 h3 h4 h5 h6 h7
theorem PtAt.inv {w:World}{S:Nat→Prop}{cs:List Value}{x:Pt}(h:PtAt w S cs x):∃ (sA:Option Addr) (sn sc:Nat) (gA:Option Addr) (gn gc:Nat) (A:Option Addr) (n c:Nat),cs=[.int .i64 x.kind,.slice sA sn sc,.slice gA gn gc,.slice A n c]∧PtIn w S sA sn sc gA gn gc A n c x:=by
 cases h with
 | mk k sA sn sc L gA gn gc G A n c kids cs hs hg hl hc hm hA hk=>exact ⟨sA,sn,sc,gA,gn,gc,A,n,c,rfl,hs,hg,hl,hc,hm,cs,hA,hk⟩
theorem PtAt.keep {w w' : World}{S S' : Nat→Prop}{cs:List Value}{x:Pt}(h:PtAt w S cs x) (hS:∀ b,S b→S' b) (hk:∀ p:Addr,S p.block→w'.cell? p=w.cell? p):PtAt w' S' cs x:=by
 induction h with
 | mk k sA sn sc L gA gn gc G A n c kids cs hs hg hl hc hm hA _ ih =>
  refine .mk k sA sn sc L gA gn gc G A n c kids cs (hs.keep hS hk) (hg.keep hS hk) hl hc hm (fun hn=>?_) ih
  obtain ⟨b,off,e,hb,hcc⟩:=hA hn
  exact ⟨b,off,e,hS b hb,fun i hi j u hu=>(hk ⟨b,_,none⟩ hb).trans (hcc i hi j u hu)⟩
section
variable {w w' : World}{S S' : Nat→Prop}{sA gA A:Option Addr}{sn sc gn gc n c:Nat}{l:List Pt}{x:Pt}
theorem RdP.keep (h:RdP w S A n c l) (hS:∀ b,S b→S' b) (hk:∀ p:Addr,S p.block→w'.cell? p=w.cell? p):RdP w' S' A n c l:=by
 obtain ⟨h1,h2,h3,cs,h4,h5⟩:=h
 refine ⟨h1,h2,h3,cs,fun hn=>?_,fun i x hx=>(h5 i x hx).keep hS hk⟩
 obtain ⟨b,off,e,hb,hcc⟩:=h4 hn
 exact ⟨b,off,e,hS b hb,fun i hi j u hu=>(hk ⟨b,_,none⟩ hb).trans (hcc i hi j u hu)⟩
theorem PtIn.keep (h:PtIn w S sA sn sc gA gn gc A n c x) (hS:∀ b,S b→S' b) (hk:∀ p:Addr,S p.block→w'.cell? p=w.cell? p):PtIn w' S' sA sn sc gA gn gc A n c x :=
 ⟨h.set.keep hS hk,h.signs.keep hS hk,h.kids.keep hS hk⟩
theorem PtIn.on (h:PtIn w (Bl w) sA sn sc gA gn gc A n c x) (hb:Below w.heap.size w w'):PtIn w' (Bl w') sA sn sc gA gn gc A n c x :=
 h.keep (fun _ hi=>Nat.lt_of_lt_of_le hi hb.size) (fun _ hp=>hb.cell hp)
theorem RdP.on (h:RdP w (Bl w) A n c l) (hb:Below w.heap.size w w'):RdP w' (Bl w') A n c l :=
 h.keep (fun _ hi=>Nat.lt_of_lt_of_le hi hb.size) (fun _ hp=>hb.cell hp)
theorem RdP.nil (w:World) (S:Nat→Prop):RdP w S none 0 0 []:=⟨rfl,Nat.le_refl _,by simp[maxLen],fun _=>[],fun h=>absurd h (by omega),fun i x hx=>by simp at hx⟩
theorem RdP.small (h:RdP w S A n c l):n≤9223372036854775807:=by have h1:=h.cap;have h2:=h.capm;unfold maxLen at h2;omega
theorem RdP.got (h:RdP w S A n c l){i:Nat}(hi:i<n):∃ (b off:Nat) (x:Pt) (sA' : Option Addr) (sn' sc' : Nat) (gA' : Option Addr) (gn' gc' : Nat) (A' : Option Addr) (n' c' : Nat),A=some ⟨b,off,none⟩∧S b∧l[i]?=some x∧PtIn w S sA' sn' sc' gA' gn' gc' A' n' c' x ∧
  w.cell? ⟨b,off+i*4,none⟩=some (.int .i64 x.kind)∧w.cell? ⟨b,off+i*4+1,none⟩=some (.slice sA' sn' sc')∧w.cell? ⟨b,off+i*4+2,none⟩=some (.slice gA' gn' gc')∧w.cell? ⟨b,off+i*4+3,none⟩=some (.slice A' n' c'):=by
 obtain ⟨h1,h2,h3,cs,h4,h5⟩:=h
 obtain ⟨b,off,e,hb,hcc⟩:=h4 (by omega)
 have hx:=List.getElem?_eq_getElem (l:=l) (i:=i) (by omega)
 obtain ⟨sA', sn', sc', gA', gn', gc', A', n', c', e5,hr⟩:=(h5 i _ hx).inv
 have hc:=hcc i hi
 rw[e5] at hc
 refine ⟨b,off,l[i]'(by omega),sA', sn', sc', gA', gn', gc', A', n', c', e,hb,hx,hr,?_,?_,?_,?_⟩
 ·exact hc 0 _ rfl
 ·have:=hc 1 _ rfl;rwa [← Nat.add_assoc] at this
 ·have:=hc 2 _ rfl;rwa [← Nat.add_assoc] at this
 ·have:=hc 3 _ rfl;rwa [← Nat.add_assoc] at this
end
def OwnP (w:World) (B:Nat) (v:Value) (l:List Pt):Prop:=∃ cs,w.ownsRow B 47 4 v l.length cs∧∀ i x,l[i]?=some x→PtAt w (fun b=>b<w.heap.size∧v.ownBlock≠some b) ((cs.drop (i*4)).take 4) x
theorem info_pt:(Tryz.prog.info? 47).map (fun i=>(i.zero,i.size,i.bytes))=some (some (.agg #[.int .i64 0,.slice none 0 0,.slice none 0 0,.slice none 0 0]),4,80):=by kernel_rfl
section
variable {w w' : World}{B:Nat}{v:Value}{l:List Pt}
theorem OwnP.block (h:OwnP w B v l):∀ i,v.ownBlock=some i→B≤i∧i<w.heap.size:=by
 obtain ⟨cs,ho,_⟩:=h
 exact World.ownsRow.lt ho
theorem prow_keep {e:TypeId}{k m:Nat}{cs:List Value}(h:w.ownsRow B e k v m cs) (hb:∀ i,B≤i→i<w.heap.size→v.ownBlock=some i→w'.heap[i]?=w.heap[i]?):w'.ownsRow B e k v m cs:=by
 refine ⟨h.1,?_⟩
 rcases h.2 with h2|⟨g,cap,cur,h1,hB,hg,h3⟩
 ·exact .inl h2
 ·have hlt:g<w.heap.size:=by
   rcases Nat.lt_or_ge g w.heap.size with hlt|hge
   ·exact hlt
   ·rw[Array.getElem?_eq_none hge] at hg;cases hg
  exact .inr ⟨g,cap,cur,h1,hB,(hb g hB hlt (by subst h1;rfl)).trans hg,h3⟩
end

structure Rdr (α:Type) where
 k:Nat
 at_:World→(Nat→Prop)→List Value→α→Prop
 len:∀ {w S cs x},at_ w S cs x→cs.length=k
 one:∀ {w S cs x},at_ w S cs x→∀ u∈cs,u.oneCell' = true
 keep:∀ {w w' : World} {S S' : Nat→Prop} {cs x},at_ w S cs x→(∀ b,S b→S' b)→(∀ p:Addr,S p.block→w'.cell? p=w.cell? p)→at_ w' S' cs x
structure RdG {α:Type}(D:Rdr α) (w:World) (S:Nat→Prop) (A:Option Addr) (n c:Nat) (l:List α):Prop where
 len:l.length=n
 cap:n≤c
 capm:c≤maxLen
 at_:∃ cs:Nat→List Value,(0<n→∃ b off,A=some ⟨b,off,none⟩∧S b∧∀ i,i<n→∀ j u,(cs i)[j]?=some u→w.cell? ⟨b,off+(i*D.k+j),none⟩=some u)∧∀ i x,l[i]?=some x→D.at_ w S (cs i) x
def OwnG {α:Type}(D:Rdr α) (e:TypeId) (w:World) (B:Nat) (v:Value) (l:List α):Prop:=∃ cs,w.ownsRow B e D.k v l.length cs∧∀ i x,l[i]?=some x→D.at_ w (fun b=>b<w.heap.size∧v.ownBlock≠some b) ((cs.drop (i*D.k)).take D.k) x
section
variable {α:Type}{D:Rdr α}{w w' : World}{S S' : Nat→Prop}{A:Option Addr}{n c:Nat}{l:List α}{B:Nat}{v:Value}{e:TypeId}
theorem RdG.keep (h:RdG D w S A n c l) (hS:∀ b,S b→S' b) (hk:∀ p:Addr,S p.block→w'.cell? p=w.cell? p):RdG D w' S' A n c l:=by
 obtain ⟨h1,h2,h3,cs,h4,h5⟩:=h
 refine ⟨h1,h2,h3,cs,fun hn=>?_,fun i x hx=>D.keep (h5 i x hx) hS hk⟩
 obtain ⟨b,off,e,hb,hcc⟩:=h4 hn
 exact ⟨b,off,e,hS b hb,fun i hi j u hu=>(hk ⟨b,_,none⟩ hb).trans (hcc i hi j u hu)⟩
theorem RdG.on (h:RdG D w (Bl w) A n c l) (hb:Below w.heap.size w w'):RdG D w' (Bl w') A n c l :=
 h.keep (fun _ hi=>Nat.lt_of_lt_of_le hi hb.size) (fun _ hp=>hb.cell hp)
theorem RdG.nil (D:Rdr α) (w:World) (S:Nat→Prop):RdG D w S none 0 0 []:=⟨rfl,Nat.le_refl _,by simp[maxLen],fun _=>[],fun h=>absurd h (by omega),fun i x hx=>by simp at hx⟩
theorem RdG.small (h:RdG D w S A n c l):n≤9223372036854775807:=by have h1:=h.cap;have h2:=h.capm;unfold maxLen at h2;omega
theorem RdG.got (h:RdG D w S A n c l){i:Nat}(hi:i<n):∃ (b off:Nat) (x:α) (cs:List Value),A=some ⟨b,off,none⟩∧S b∧l[i]?=some x∧D.at_ w S cs x∧∀ j u,cs[j]?=some u→w.cell? ⟨b,off+i*D.k+j,none⟩=some u:=by
 obtain ⟨h1,h2,h3,cs,h4,h5⟩:=h
 obtain ⟨b,off,e,hb,hcc⟩:=h4 (by omega)
 have hx:=List.getElem?_eq_getElem (l:=l) (i:=i) (by omega)
 exact ⟨b,off,l[i]'(by omega),cs i,e,hb,hx,h5 i _ hx,fun j u hu=>by rw[Nat.add_assoc];exact hcc i hi j u hu⟩
theorem RdG.take (h:RdG D w S A n c l){m:Nat}(hm:m≤n):RdG D w S A m c (l.take m):=by
 obtain ⟨h1,h2,h3,cs,h4,h5⟩:=h
 refine ⟨by rw[List.length_take];omega,by omega,h3,cs,fun hm0=>?_,fun i x hx=>h5 i x ?_⟩
 ·obtain ⟨b,off,e,hb,hcc⟩:=h4 (by omega)
  exact ⟨b,off,e,hb,fun i hi=>hcc i (by omega)⟩
 ·have hi:i<m:=by have:=(List.getElem?_eq_some_iff.1 hx).1;rw[List.length_take] at this;omega
  rwa [List.getElem?_take_of_lt hi] at hx
theorem OwnG.nil (D:Rdr α) (e:TypeId) (w:World) (B:Nat):OwnG D e w B (.slice none 0 0) []:=⟨[],World.ownsRow_nil w B e D.k,fun i x hx=>by simp at hx⟩
theorem OwnG.rd (h:OwnG D e w B v l):∃ A c,v=.slice A l.length c∧RdG D w (Bl w) A l.length c l:=by
 obtain ⟨cs,ho,hk⟩:=h
 have hs:∀ i x,l[i]?=some x→D.at_ w (Bl w) ((cs.drop (i*D.k)).take D.k) x:=fun i x hx=>D.keep (hk i x hx) (fun b hb=>hb.1) (fun _ _=>rfl)
 rcases ho.2 with ⟨h1,h2⟩|⟨g,cap,cur,h1,hB,hg,h3,h4,_,_⟩
 ·subst h1
  have:l=[]:=List.eq_nil_of_length_eq_zero h2
  subst this
  exact ⟨none,0,rfl,RdG.nil _ _ _⟩
 ·subst h1
  have hlt:g<w.heap.size:=by
   rcases Nat.lt_or_ge g w.heap.size with hlt|hge
   ·exact hlt
   ·rw[Array.getElem?_eq_none hge] at hg;cases hg
  refine ⟨_,cap,rfl,rfl,h3,h4,fun i=>(cs.drop (i*D.k)).take D.k,fun _=>⟨g,0,rfl,hlt,fun i hi j u hu=>?_⟩,hs⟩
  rw[← qo_]
  have hj:j<D.k:=by
   have:=(List.getElem?_eq_some_iff.1 hu).1;rw[List.length_take] at this;omega
  rw[List.getElem?_take_of_lt hj,List.getElem?_drop] at hu
  exact World.ownsRow.cells ho (g:=g) rfl _ _ hu
theorem OwnG.block (h:OwnG D e w B v l):∀ i,v.ownBlock=some i→B≤i∧i<w.heap.size:=by
 obtain ⟨cs,ho,_⟩:=h
 exact World.ownsRow.lt ho
theorem OwnG.on (h:OwnG D e w B v l) (hb:Below w.heap.size w w'):OwnG D e w' B v l:=by
 obtain ⟨cs,ho,hk⟩:=h
 exact ⟨cs,prow_keep ho fun i _ h2 _=>hb.block i h2,fun i x hx=>D.keep (hk i x hx) (fun b hb2=>⟨Nat.lt_of_lt_of_le hb2.1 hb.size,hb2.2⟩) (fun p hp=>hb.cell hp.1)⟩
theorem OwnG.push {v' : Value}{ns cs:List Value}{x:α}(hk:∀ i x,l[i]?=some x→D.at_ w (fun b=>b<w.heap.size∧v.ownBlock≠some b) ((cs.drop (i*D.k)).take D.k) x) (hcl:cs.length=l.length*D.k)
  (hx:D.at_ w (fun b=>b<w.heap.size∧v.ownBlock≠some b) ns x) (ho:w'.ownsRow B e D.k v' (l.length+1) (cs++ns)) (hg:w.grownBy w' v.ownBlock) (hat:v'.ownBlock=v.ownBlock∨v'.ownBlock=some w.heap.size):OwnG D e w' B v' (l++[x]):=by
 have hn:=D.len hx
 have hS:∀ b,(b<w.heap.size∧v.ownBlock≠some b)→b<w'.heap.size∧v'.ownBlock≠some b:=fun b ⟨h2,h3⟩=>⟨Nat.lt_of_lt_of_le h2 hg.size,by
  rcases hat with e|e
  ·rw[e];exact h3
  ·rw[e];intro e2;injection e2 with e2;omega⟩
 have hc:∀ p:Addr,(p.block<w.heap.size∧v.ownBlock≠some p.block)→w'.cell? p=w.cell? p:=fun p ⟨h2,h3⟩=>World.cell?_of_block (hg.block p.block h2 (fun e=>h3 e.symm))
 refine ⟨cs++ns,by simpa using ho,fun i y hy=>?_⟩
 rcases Nat.lt_or_ge i l.length with hi|hi
 ·rw[List.getElem?_append_left hi] at hy
  have:=D.keep (hk i y hy) hS hc
  have hle:i*D.k+D.k≤cs.length:=by rw[hcl,← Nat.succ_mul];exact Nat.mul_le_mul_right _ hi
  rw[List.drop_append_of_le_length (by omega),List.take_append_of_le_length (by rw[List.length_drop];omega)]
  exact this
 ·have hil:i=l.length:=by
   have:=(List.getElem?_eq_some_iff.1 hy).1;simp at this;omega
  subst hil
  rw[List.getElem?_append_right (Nat.le_refl _),Nat.sub_self] at hy
  simp at hy
  subst hy
  rw[List.drop_append,List.drop_eq_nil_of_le (by omega),List.nil_append,hcl,Nat.sub_self,List.drop_zero,List.take_of_length_le (by omega)]
  exact D.keep hx hS hc
theorem app_g {P:Program}{ops:Array Oper}{rest:List Oper}{o:Oper}{a:Act}{Q:Exit→Act→World→Prop}(hgd:o.guard=none) (s x:Operand) (t:TypeId)
  (ho:o.op=.call { callee:=.builtin .append,args:=#[s,x],argTypes:=#[t,t] }) (ht:P.underlying t=some (.slice e)) {z:Value} {bytes:Nat} (hi:(P.info? e).map (fun i=>(i.zero,i.size,i.bytes))=some (some z,D.k,bytes)) (hzs:z.cells.size=D.k) (hk0:0<D.k) (hby:bytes≤1000)
  (hs:a.eval s=v) (hown:OwnG D e w B v l) (N:Nat) (y:α) (ns:Array Value) (te:TypeId)
  (hx:a.eval x=.slice (some ⟨N,0,none⟩) 1 1) (hrow:w.heap[N]?=some (.cells ns te (0,0))) (hy:D.at_ w (fun b=>b<w.heap.size∧v.ownBlock≠some b) ns.toList y)
  (h63:l.length≤1000000) (hbase:B≤w.heap.size)
  (h:∀ v' w', OwnG D e w' B v' (l++[y])→w.grownBy w' v.ownBlock→wpList P ops Q rest (a.put o.dst v') w'):wpList P ops Q (o :: rest) a w:=by
 obtain ⟨i0,hi0,hz0,hz1,hz2⟩:=info_k hi
 obtain ⟨cs,hc,hk⟩:=hown
 refine wpList_append_own_at w hgd s x t ho B e i0 z D.k bytes ht hi0 hz0 hz1 hz2 hzs hk0 v l.length cs hs hc ⟨N,0,none⟩ 1 1 ns.toList hx (by rw[D.len hy];omega) ?_ (D.one hy) (by unfold maxLen;omega) (Nat.le_trans (Nat.mul_le_mul (Nat.succ_le_succ h63) hby) (by decide)) hbase ?_
 ·intro j u hu
  rw[qo_,cell_of_row _ _ _ _ _ _ hrow,Nat.zero_add]
  simpa using hu
 ·intro v' w' h2 h3 _ h4
  exact h v' w' (OwnG.push hk hc.1 hy h2 h3 h4) h3
end
theorem PtAt.len {w:World}{S:Nat→Prop}{cs:List Value}{x:Pt}(h:PtAt w S cs x):cs.length=4:=by
 obtain ⟨_,_,_,_,_,_,_,_,_,rfl,_⟩:=h.inv;rfl
theorem PtAt.one {w:World}{S:Nat→Prop}{cs:List Value}{x:Pt}(h:PtAt w S cs x):∀ u∈cs,u.oneCell' = true:=by
 obtain ⟨_,_,_,_,_,_,_,_,_,rfl,_⟩:=h.inv
 intro u hu
 simp only[List.mem_cons,List.not_mem_nil,or_false] at hu
 rcases hu with rfl|rfl|rfl|rfl <;> rfl
def ptD:Rdr Pt:=⟨4,PtAt,PtAt.len,PtAt.one,PtAt.keep⟩
theorem RdG.p {w:World}{S:Nat→Prop}{A:Option Addr}{n c:Nat}{l:List Pt}(h:RdG ptD w S A n c l):RdP w S A n c l:=⟨h.len,h.cap,h.capm,h.at_⟩
def setD:Rdr (List (Int × Int)) where
 k:=1
 at_:=fun w S cs x=>∃ A n c,cs=[.slice A n c]∧RgAt w S A n c x
 len:=fun ⟨_,_,_,e,_⟩=>by rw[e];rfl
 one:=fun ⟨_,_,_,e,_⟩ u hu=>by rw[e] at hu;simp at hu;subst hu;rfl
 keep:=fun ⟨A,n,c,e,h⟩ hS hk=>⟨A,n,c,e,h.keep hS hk⟩
def strD:Rdr ByteArray where
 k:=1
 at_:=fun _ _ cs x=>cs=[.string x]
 len:=fun e=>by rw[e];rfl
 one:=fun e u hu=>by rw[e] at hu;simp at hu;subst hu;rfl
 keep:=fun e _ _=>e
structure Vr where
 name:ByteArray
 pat:Pt
 set:Bool
 pos:Int
def varD:Rdr Vr where
 k:=7
 at_:=fun w S cs x=>∃ ps,cs=.string x.name :: (ps++[.bool x.set,.int .i64 x.pos])∧PtAt w S ps x.pat
 len:=fun ⟨ps,e,h⟩=>by rw[e];simp[h.len]
 one:=fun ⟨ps,e,h⟩ u hu=>by
  rw[e] at hu
  simp only[List.mem_cons,List.mem_append,List.not_mem_nil,or_false] at hu
  rcases hu with rfl|hu|rfl|rfl
  ·rfl
  ·exact h.one u hu
  ·rfl
  ·rfl
 keep:=fun ⟨ps,e,h⟩ hS hk=>⟨ps,e,h.keep hS hk⟩
structure Rl where
 number:Int
 cut:Bool
 before:Pt
 after:Pt
 pos:Int
def ruleD:Rdr Rl where
 k:=11
 at_:=fun w S cs x=>∃ ps qs,cs=.int .i64 x.number :: .bool x.cut :: (ps++qs++[.int .i64 x.pos])∧PtAt w S ps x.before∧PtAt w S qs x.after
 len:=fun ⟨ps,qs,e,h,k⟩=>by rw[e];simp[h.len,k.len]
 one:=fun ⟨ps,qs,e,h,k⟩ u hu=>by
  rw[e] at hu
  simp only[List.mem_cons,List.mem_append,List.not_mem_nil,or_false] at hu
  rcases hu with rfl|rfl|(hu|hu)|rfl
  ·rfl
  ·rfl
  ·exact h.one u hu
  ·exact k.one u hu
  ·rfl
 keep:=fun ⟨ps,qs,e,h,k⟩ hS hk=>⟨ps,qs,e,h.keep hS hk,k.keep hS hk⟩

def OwnX {α:Type}(D:Rdr α) (X:Nat→Prop) (e:TypeId) (w:World) (B:Nat) (v:Value) (l:List α):Prop:=∃ cs,w.ownsRow B e D.k v l.length cs∧∀ i x,l[i]?=some x→D.at_ w (fun b=>b<w.heap.size∧X b∧v.ownBlock≠some b) ((cs.drop (i*D.k)).take D.k) x
section
variable {α:Type}{D:Rdr α}{X:Nat→Prop}{w w' : World}{S S' : Nat→Prop}{A:Option Addr}{n c:Nat}{l:List α}{B:Nat}{v:Value}{e:TypeId}
theorem OwnX.nil (D:Rdr α) (X:Nat→Prop) (e:TypeId) (w:World) (B:Nat):OwnX D X e w B (.slice none 0 0) []:=⟨[],World.ownsRow_nil w B e D.k,fun i x hx=>by simp at hx⟩
theorem OwnX.rd (h:OwnX D X e w B v l):∃ A c,v=.slice A l.length c∧RdG D w (fun b=>b<w.heap.size∧(X b∨B≤b)) A l.length c l:=by
 obtain ⟨cs,ho,hk⟩:=h
 have hs:∀ i x,l[i]?=some x→D.at_ w (fun b=>b<w.heap.size∧(X b∨B≤b)) ((cs.drop (i*D.k)).take D.k) x:=fun i x hx=>D.keep (hk i x hx) (fun b hb=>⟨hb.1,.inl hb.2.1⟩) (fun _ _=>rfl)
 rcases ho.2 with ⟨h1,h2⟩|⟨g,cap,cur,h1,hB,hg,h3,h4,_,_⟩
 ·subst h1
  have:l=[]:=List.eq_nil_of_length_eq_zero h2
  subst this
  exact ⟨none,0,rfl,RdG.nil _ _ _⟩
 ·subst h1
  have hlt:g<w.heap.size:=by
   rcases Nat.lt_or_ge g w.heap.size with hlt|hge
   ·exact hlt
   ·rw[Array.getElem?_eq_none hge] at hg;cases hg
  refine ⟨_,cap,rfl,rfl,h3,h4,fun i=>(cs.drop (i*D.k)).take D.k,fun _=>⟨g,0,rfl,⟨hlt,.inr hB⟩,fun i hi j u hu=>?_⟩,hs⟩
  rw[← qo_]
  have hj:j<D.k:=by
   have:=(List.getElem?_eq_some_iff.1 hu).1;rw[List.length_take] at this;omega
  rw[List.getElem?_take_of_lt hj,List.getElem?_drop] at hu
  exact World.ownsRow.cells ho (g:=g) rfl _ _ hu
theorem OwnX.block (h:OwnX D X e w B v l):∀ i,v.ownBlock=some i→B≤i∧i<w.heap.size:=by
 obtain ⟨cs,ho,_⟩:=h
 exact World.ownsRow.lt ho
theorem OwnX.on (h:OwnX D X e w B v l) (hb:Below w.heap.size w w'):OwnX D X e w' B v l:=by
 obtain ⟨cs,ho,hk⟩:=h
 exact ⟨cs,prow_keep ho fun i _ h2 _=>hb.block i h2,fun i x hx=>D.keep (hk i x hx) (fun b hb2=>⟨Nat.lt_of_lt_of_le hb2.1 hb.size,hb2.2⟩) (fun p hp=>hb.cell hp.1)⟩
theorem OwnX.push {v' : Value}{ns cs:List Value}{x:α}(hk:∀ i x,l[i]?=some x→D.at_ w (fun b=>b<w.heap.size∧X b∧v.ownBlock≠some b) ((cs.drop (i*D.k)).take D.k) x) (hcl:cs.length=l.length*D.k)
  (hx:D.at_ w (fun b=>b<w.heap.size∧X b∧v.ownBlock≠some b) ns x) (ho:w'.ownsRow B e D.k v' (l.length+1) (cs++ns)) (hg:w.grownBy w' v.ownBlock) (hat:v'.ownBlock=v.ownBlock∨v'.ownBlock=some w.heap.size):OwnX D X e w' B v' (l++[x]):=by
 have hn:=D.len hx
 have hS:∀ b,(b<w.heap.size∧X b∧v.ownBlock≠some b)→b<w'.heap.size∧X b∧v'.ownBlock≠some b:=fun b ⟨h2,hx2,h3⟩=>⟨Nat.lt_of_lt_of_le h2 hg.size,hx2,by
  rcases hat with e|e
  ·rw[e];exact h3
  ·rw[e];intro e2;injection e2 with e2;omega⟩
 have hc:∀ p:Addr,(p.block<w.heap.size∧X p.block∧v.ownBlock≠some p.block)→w'.cell? p=w.cell? p:=fun p ⟨h2,_,h3⟩=>World.cell?_of_block (hg.block p.block h2 (fun e=>h3 e.symm))
 refine ⟨cs++ns,by simpa using ho,fun i y hy=>?_⟩
 rcases Nat.lt_or_ge i l.length with hi|hi
 ·rw[List.getElem?_append_left hi] at hy
  have:=D.keep (hk i y hy) hS hc
  have hle:i*D.k+D.k≤cs.length:=by rw[hcl,← Nat.succ_mul];exact Nat.mul_le_mul_right _ hi
  rw[List.drop_append_of_le_length (by omega),List.take_append_of_le_length (by rw[List.length_drop];omega)]
  exact this
 ·have hil:i=l.length:=by
   have:=(List.getElem?_eq_some_iff.1 hy).1;simp at this;omega
  subst hil
  rw[List.getElem?_append_right (Nat.le_refl _),Nat.sub_self] at hy
  simp at hy
  subst hy
  rw[List.drop_append,List.drop_eq_nil_of_le (by omega),List.nil_append,hcl,Nat.sub_self,List.drop_zero,List.take_of_length_le (by omega)]
  exact D.keep hx hS hc
theorem app_x {P:Program}{ops:Array Oper}{rest:List Oper}{o:Oper}{a:Act}{Q:Exit→Act→World→Prop}(hgd:o.guard=none) (s x:Operand) (t:TypeId)
  (ho:o.op=.call { callee:=.builtin .append,args:=#[s,x],argTypes:=#[t,t] }) (ht:P.underlying t=some (.slice e)) {z:Value} {bytes:Nat} (hi:(P.info? e).map (fun i=>(i.zero,i.size,i.bytes))=some (some z,D.k,bytes)) (hzs:z.cells.size=D.k) (hk0:0<D.k) (hby:bytes≤1000)
  (hs:a.eval s=v) (hown:OwnX D X e w B v l) (N:Nat) (y:α) (ns:Array Value) (te:TypeId)
  (hx:a.eval x=.slice (some ⟨N,0,none⟩) 1 1) (hrow:w.heap[N]?=some (.cells ns te (0,0))) (hy:D.at_ w (fun b=>b<w.heap.size∧X b∧v.ownBlock≠some b) ns.toList y)
  (h63:l.length≤1000000) (hbase:B≤w.heap.size)
  (h:∀ v' w', OwnX D X e w' B v' (l++[y])→w.grownBy w' v.ownBlock→wpList P ops Q rest (a.put o.dst v') w'):wpList P ops Q (o :: rest) a w:=by
 obtain ⟨i0,hi0,hz0,hz1,hz2⟩:=info_k hi
 obtain ⟨cs,hc,hk⟩:=hown
 refine wpList_append_own_at w hgd s x t ho B e i0 z D.k bytes ht hi0 hz0 hz1 hz2 hzs hk0 v l.length cs hs hc ⟨N,0,none⟩ 1 1 ns.toList hx (by rw[D.len hy];omega) ?_ (D.one hy) (by unfold maxLen;omega) (Nat.le_trans (Nat.mul_le_mul (Nat.succ_le_succ h63) hby) (by decide)) hbase ?_
 ·intro j u hu
  rw[qo_,cell_of_row _ _ _ _ _ _ hrow,Nat.zero_add]
  simpa using hu
 ·intro v' w' h2 h3 _ h4
  exact h v' w' (OwnX.push hk hc.1 hy h2 h3 h4) h3
theorem OwnX.setCell (h:OwnX D X e w B v l){N:Nat}(hN:N<B) (hX:¬ X N) (o:Nat) (u:Value):OwnX D X e (w.setCell ⟨N,o,none⟩ u) B v l:=by
 obtain ⟨cs,ho,hk⟩:=h
 have hh:∀ i,i≠N→(w.setCell ⟨N,o,none⟩ u).heap[i]?=w.heap[i]? := fun i hi=>Below.heap_setCell _ _ _ _ hi
 refine ⟨cs,prow_keep ho fun i h1 _ _=>hh i (by omega),fun i x hx=>D.keep (hk i x hx) (fun b hb=>⟨by simpa using hb.1,hb.2⟩) (fun p hp=>World.cell?_of_block (hh p.block (fun e=>hX (e ▸ hp.2.1))))⟩
end

theorem flat_at {C:Nat→List Value}{k:Nat}:∀ (m:Nat),(∀ i,i<m→(C i).length=k)→((List.range m).flatMap C).length=m*k∧∀ i,i<m→(((List.range m).flatMap C).drop (i*k)).take k=C i
 | 0,_=>⟨by simp,fun i hi=>absurd hi (by omega)⟩
 | m+1,h=>by
  obtain ⟨h1,h2⟩:=flat_at m fun i hi=>h i (by omega)
  have hm:=h m (by omega)
  rw[List.range_succ,List.flatMap_append]
  have e1:List.flatMap C [m]=C m:=by simp
  rw[e1]
  refine ⟨by rw[List.length_append,h1,hm,Nat.succ_mul],fun i hi=>?_⟩
  by_cases hin:i<m
  ·have hle:i*k+k≤m*k:=by rw[← Nat.succ_mul];exact Nat.mul_le_mul_right _ hin
   rw[List.drop_append_of_le_length (by omega),List.take_append_of_le_length (by rw[List.length_drop];omega)]
   exact h2 i hin
  ·obtain rfl:i=m:=by omega
   rw[List.drop_append,List.drop_eq_nil_of_le (by omega),List.nil_append,h1,Nat.sub_self,List.drop_zero,List.take_of_length_le (by omega)]
theorem flat_get {C:Nat→List Value}{k m:Nat}(h:∀ i,i<m→(C i).length=k){j:Nat}{u:Value}(hu:((List.range m).flatMap C)[j]?=some u):∃ i r,i<m∧(C i)[r]?=some u∧j=i*k+r:=by
 obtain ⟨h1,h2⟩:=flat_at m h
 have hj:j<m*k:=by have:=(List.getElem?_eq_some_iff.1 hu).1;omega
 have hk:0<k:=by
  rcases Nat.eq_zero_or_pos k with e|e
  ·rw[e] at hj;omega
  ·exact e
 have hi:j / k<m:=(Nat.div_lt_iff_lt_mul hk).2 hj
 have hmod:j % k<k:=Nat.mod_lt _ hk
 have e:j=j / k*k+j % k:=by have:=Nat.div_add_mod j k;rw[Nat.mul_comm] at this;omega
 refine ⟨j / k,j % k,hi,?_,e⟩
 rw[← h2 _ hi,List.getElem?_take_of_lt hmod,List.getElem?_drop,← e]
 exact hu
section
variable {α:Type}{D:Rdr α}{X:Nat→Prop}{w:World}{l news:List α}{B:Nat}{v:Value}{e:TypeId}{A:Option Addr}{m c:Nat}
theorem run_app_x {P:Program}(t ty:TypeId) (ht:P.underlying t=some (.slice e)){z:Value}{bytes:Nat}(hi:(P.info? e).map (fun i=>(i.zero,i.size,i.bytes))=some (some z,D.k,bytes)) (hzs:z.cells.size=D.k) (hk0:0<D.k) (hby:bytes≤1000)
  (hown:OwnX D X e w B v l) (hr:RdG D w (fun b=>b<w.heap.size∧X b∧v.ownBlock≠some b) A m c news) (h63:l.length+m≤1000000) (hbase:B≤w.heap.size) :
  ∃ v' w', (Builtin.append_ #[t,t] ty #[v,.slice A m c]).run P w=.ok v' w' ∧ OwnX D X e w' B v' (l++news)∧w.grownBy w' v.ownBlock∧(v'.ownBlock=v.ownBlock∨v'.ownBlock=some w.heap.size):=by
 obtain ⟨i0,hi0,hz0,hz1,hz2⟩:=info_k hi
 obtain ⟨hl,hcap,hcm,C,hC1,hC2⟩:=hr
 have hlen:∀ i,i<m→(C i).length=D.k:=fun i hi=>D.len (hC2 i _ (List.getElem?_eq_getElem (by omega)))
 obtain ⟨f1,f2⟩:=flat_at m hlen
 cases A with
 | none =>
  have hm:m=0:=by
   rcases Nat.eq_zero_or_pos m with h0|h0
   ·exact h0
   ·obtain ⟨_,_,h,_⟩:=hC1 h0;cases h
  subst hm
  obtain rfl:news=[]:=List.eq_nil_of_length_eq_zero hl
  refine ⟨v,w,?_,by simpa using hown,grown_refl w _,Or.inl rfl⟩
  obtain ⟨cs,ho,_⟩:=hown
  rcases ho.2 with ⟨rfl,h2⟩|⟨g,cap,cur,rfl,_,_,hnc,_⟩
  ·simp[Builtin.append_,run_underlying ht,sizeOf,typeInfo,hi0,Builtin.lenOf,Builtin.firstCells]
  ·simp[Builtin.append_,run_underlying ht,sizeOf,typeInfo,hi0,Builtin.lenOf,Builtin.firstCells,hnc,storeCells]
 | some ad =>
  have hc:∀ j u,((List.range m).flatMap C)[j]?=some u→w.cell? (ad.add j)=some u:=by
   intro j u hu
   obtain ⟨i,r,hi,hu2,rfl⟩:=flat_get hlen hu
   obtain ⟨b,off,h,_,hcc⟩:=hC1 (by omega)
   injection h with h
   subst h
   rw[qo_]
   exact hcc i hi r u hu2
  have h1:∀ u∈(List.range m).flatMap C,u.oneCell' = true:=by
   intro u hu
   obtain ⟨i,hi,hu⟩:=List.mem_flatMap.1 hu
   exact D.one (hC2 i _ (List.getElem?_eq_getElem (by have:=List.mem_range.1 hi;omega))) u hu
  obtain ⟨cs,ho,hk⟩:=hown
  obtain ⟨v', w', hrun,h2,h3,_,h5⟩:=run_append_own_at (P:=P) w B t ty e i0 z D.k bytes ht hi0 hz0 hz1 hz2 hzs hk0 v l.length cs ho ad m c _ f1 hc h1 (by unfold maxLen;omega) (Nat.le_trans (Nat.mul_le_mul h63 hby) (by decide)) hbase
  refine ⟨v', w', hrun,⟨cs++(List.range m).flatMap C,by simpa [hl] using h2,fun i x hx=>?_⟩,h3,h5⟩
  have hcl:cs.length=l.length*D.k:=ho.1
  have hS:∀ b,(b<w.heap.size∧X b∧v.ownBlock≠some b)→b<w'.heap.size∧X b∧v'.ownBlock≠some b:=fun b ⟨g1,g2,g3⟩=>⟨Nat.lt_of_lt_of_le g1 h3.size,g2,by
   rcases h5 with e|e
   ·rw[e];exact g3
   ·rw[e];intro e2;injection e2 with e2;omega⟩
  have hcell:∀ p:Addr,(p.block<w.heap.size∧X p.block∧v.ownBlock≠some p.block)→w'.cell? p=w.cell? p:=fun p ⟨g1,_,g3⟩=>World.cell?_of_block (h3.block p.block g1 (fun e=>g3 e.symm))
  rcases Nat.lt_or_ge i l.length with hi|hi
  ·rw[List.getElem?_append_left hi] at hx
   have:=D.keep (hk i x hx) hS hcell
   have hle:i*D.k+D.k≤cs.length:=by rw[hcl,← Nat.succ_mul];exact Nat.mul_le_mul_right _ hi
   rw[List.drop_append_of_le_length (by omega),List.take_append_of_le_length (by rw[List.length_drop];omega)]
   exact this
  ·rw[List.getElem?_append_right hi] at hx
   have him:i - l.length<m:=by have:=(List.getElem?_eq_some_iff.1 hx).1;omega
   have e1:i*D.k - cs.length=(i - l.length)*D.k:=by rw[hcl,← Nat.sub_mul]
   have hle:cs.length≤i*D.k:=by rw[hcl];exact Nat.mul_le_mul_right _ hi
   rw[List.drop_append,List.drop_eq_nil_of_le hle,List.nil_append,e1,f2 _ him]
   exact D.keep (hC2 _ x hx) hS hcell
theorem wp_app_x {P:Program}{o:Oper}{a:Act}{K:Act→World→Prop}{Q:Exit→Act→World→Prop}(s x:Operand) (t:TypeId)
  (ho:o.op=.call { callee:=.builtin .append,args:=#[s,x],argTypes:=#[t,t] }) (ht:P.underlying t=some (.slice e)) {z:Value} {bytes:Nat} (hi:(P.info? e).map (fun i=>(i.zero,i.size,i.bytes))=some (some z,D.k,bytes)) (hzs:z.cells.size=D.k) (hk0:0<D.k) (hby:bytes≤1000)
  (hs:a.eval s=v) (hown:OwnX D X e w B v l) (hx:a.eval x=.slice A m c) (hr:RdG D w (fun b=>b<w.heap.size∧X b∧v.ownBlock≠some b) A m c news) (h63:l.length+m≤1000000) (hbase:B≤w.heap.size)
  (h:∀ v' w', OwnX D X e w' B v' (l++news)→w.grownBy w' v.ownBlock→(v'.ownBlock=v.ownBlock∨v'.ownBlock=some w.heap.size)→K (a.put o.dst v') w'):o.wp P a w K Q:=by
 obtain ⟨v', w', hrun,h2,h3,h4⟩:=run_app_x (P:=P) t o.type ht hi hzs hk0 hby hown hr h63 hbase
 unfold Oper.wp execOp
 simp only[ho,resolve,invoke,builtin,Sem.run_bind,Sem.run_pure,Result.andThen_ok,List.map_toArray,List.map_cons,List.map_nil,hs,hx,hrun]
 exact h v' w' h2 h3 h4
theorem apps_x {P:Program}{ops:Array Oper}{rest:List Oper}{o:Oper}{a:Act}{Q:Exit→Act→World→Prop}(hgd:o.guard=none) (s x:Operand) (t:TypeId)
  (ho:o.op=.call { callee:=.builtin .append,args:=#[s,x],argTypes:=#[t,t] }) (ht:P.underlying t=some (.slice e)) {z:Value} {bytes:Nat} (hi:(P.info? e).map (fun i=>(i.zero,i.size,i.bytes))=some (some z,D.k,bytes)) (hzs:z.cells.size=D.k) (hk0:0<D.k) (hby:bytes≤1000)
  (hs:a.eval s=v) (hown:OwnX D X e w B v l) (hx:a.eval x=.slice A m c) (hr:RdG D w (fun b=>b<w.heap.size∧X b∧v.ownBlock≠some b) A m c news) (h63:l.length+m≤1000000) (hbase:B≤w.heap.size)
  (h:∀ v' w', OwnX D X e w' B v' (l++news)→w.grownBy w' v.ownBlock→(v'.ownBlock=v.ownBlock∨v'.ownBlock=some w.heap.size)→wpList P ops Q rest (a.put o.dst v') w'):wpList P ops Q (o :: rest) a w :=
 wpList_plain hgd fun _ hK=>wp_app_x s x t ho ht hi hzs hk0 hby hs hown hx hr h63 hbase fun v' w' h2 h3 h4=>hK _ _ (h v' w' h2 h3 h4)
theorem qh_ {P:Program}{ops:Array Oper}{o:Oper}{a:Act}{K:Act→World→Prop}{Q:Exit→Act→World→Prop}{E:Prop}(hw:Region.wanted o (yielded ops a.tmps)=true) (s x:Operand) (d:Tmp) (t:TypeId)
  (hd:o.dst=some d) (ho:o.op=.call { callee:=.builtin .append,args:=#[s,x],argTypes:=#[t,t] }) (ht:P.underlying t=some (.slice e)) {z:Value} {bytes:Nat} (hi:(P.info? e).map (fun i=>(i.zero,i.size,i.bytes))=some (some z,D.k,bytes)) (hzs:z.cells.size=D.k) (hk0:0<D.k) (hby:bytes≤1000)
  (hs:a.eval s=v) (hown:OwnX D X e w B v l) (hx:a.eval x=.slice A m c) (hr:RdG D w (fun b=>b<w.heap.size∧X b∧v.ownBlock≠some b) A m c news) (h63:l.length+m≤1000000) (hbase:B≤w.heap.size)
  (h:∀ v' w', OwnX D X e w' B v' (l++news)→w.grownBy w' v.ownBlock→(v'.ownBlock=v.ownBlock∨v'.ownBlock=some w.heap.size)→K { a with tmps:=a.tmps.setIfInBounds d v' } w') :
  if Region.wanted o (yielded ops a.tmps)=true then Oper.wp P o a w K Q else E:=by
 rw[if_pos hw]
 refine wp_app_x s x t ho ht hi hzs hk0 hby hs hown hx hr h63 hbase fun v' w' h1 h2 h3=>?_
 rw[hd]
 exact h v' w' h1 h2 h3
theorem qz_ (D:Rdr α) (X:Nat→Prop) (w:World) (B:Nat) (e:TypeId) (hB:B≤w.heap.size) (hk0:0<D.k):OwnX D X e (w.alloc (.cells #[] e)) B (.slice (some ⟨w.heap.size,0,none⟩) 0 0) [] :=
 ⟨[],World.ownsRow_lit w #[] 0 hB (by unfold maxLen;omega) (by simp),fun i x hx=>by simp at hx⟩
end

structure Fx (X:Nat→Prop) (w w' : World):Prop where
 os:w'.os=w.os
 tape:w'.tape=w.tape
 output:w'.output=w.output
 size:w.heap.size≤w'.heap.size
 block:∀ i,i<w.heap.size→¬ X i→w'.heap[i]?=w.heap[i]?
section
variable {X Y:Nat→Prop}{w w' w2:World}
theorem Fx.refl (X:Nat→Prop) (w:World):Fx X w w:=⟨rfl,rfl,rfl,Nat.le_refl _,fun _ _ _=>rfl⟩
theorem Fx.trans (h:Fx X w w') (k:Fx Y w' w2) (hY:∀ i,i<w.heap.size→Y i→X i):Fx X w w2 :=
 ⟨k.os.trans h.os,k.tape.trans h.tape,k.output.trans h.output,Nat.le_trans h.size k.size,fun i hi hn=>(k.block i (Nat.lt_of_lt_of_le hi h.size) (fun e=>hn (hY i hi e))).trans (h.block i hi hn)⟩
theorem Fx.mono (h:Fx X w w') (hX:∀ i,i<w.heap.size→X i→Y i):Fx Y w w' := ⟨h.os,h.tape,h.output,h.size,fun i hi hn=>h.block i hi (fun e=>hn (hX i hi e))⟩
theorem Fx.of (h:Below w.heap.size w w') (X:Nat→Prop):Fx X w w' := ⟨h.os,h.tape,h.output,h.size,fun i hi _=>h.block i hi⟩
theorem Fx.below (h:Fx X w w') (k:Below w'.heap.size w' w2):Fx X w w2:=h.trans (Fx.of k X) (fun _ _ h=>h)
theorem Fx.cell (h:Fx X w w'){p:Addr}(hp:p.block<w.heap.size) (hx:¬ X p.block):w'.cell? p=w.cell? p:=World.cell?_of_block (h.block _ hp hx)
theorem Fx.setCell {N:Nat}(h:X N) (o:Nat) (v:Value):Fx X w (w.setCell ⟨N,o,none⟩ v):=⟨rfl,rfl,rfl,by simp,fun i _ hn=>Below.heap_setCell _ _ _ _ (fun e=>hn (e ▸ h))⟩
theorem Fx.put (w:World){m:Nat}(h:X m) (o:Obj):Fx X w { w with heap:=w.heap.setIfInBounds m o }:=⟨rfl,rfl,rfl,by simp,fun i _ hn=>by
 show (w.heap.setIfInBounds m _)[i]?=_
 rw[Array.getElem?_setIfInBounds_ne (fun e:m=i=>hn (e ▸ h))]⟩
theorem Fx.grown {row:Option Nat}(h:w.grownBy w' row) (hr:∀ i,i<w.heap.size→row=some i→X i):Fx X w w' := ⟨h.os,h.tape,h.output,h.size,fun i hi hn=>h.block i hi (fun e=>hn (hr i hi e.symm))⟩
end
section
variable {κ:Type}{enc:κ→Value}{w w' : World}{L:List (κ × Value)}{m:Nat}
def EMap (enc:κ→Value) (w:World) (L:List (κ × Value)) (m:Nat):Prop:=∃ es clock,w.heap[m]?=some (.map es clock)∧es.toList.map (fun e=>(e.key,e.val))=L.map fun p=>(enc p.1,p.2)
theorem EMap.keep (h:EMap enc w L m) (hb:w'.heap[m]?=w.heap[m]?):EMap enc w' L m:=by
 obtain ⟨es,c,h1,h2⟩:=h
 exact ⟨es,c,hb.trans h1,h2⟩
theorem EMap.lt (h:EMap enc w L m):m<w.heap.size:=by
 obtain ⟨es,c,h1,_⟩:=h
 rcases Nat.lt_or_ge m w.heap.size with hlt|hge
 ·exact hlt
 ·rw[Array.getElem?_eq_none hge] at h1;cases h1
theorem EMap.on (h:EMap enc w L m) (hb:Below w.heap.size w w'):EMap enc w' L m:=h.keep (hb.block m h.lt)
theorem emap_len (hm:EMap enc w L m):∃ es clock,w.heap[m]?=some (.map es clock)∧es.size=L.length:=by
 obtain ⟨es,clock,hb,he⟩:=hm
 refine ⟨es,clock,hb,?_⟩
 have:=congrArg List.length he
 simpa using this
end
section
variable {κ:Type} [DecidableEq κ] {P:Program}{kt mt et:TypeId}{enc:κ→Value}{w w' : World}{L:List (κ × Value)}{m:Nat}
def idxv {κ:Type} [DecidableEq κ] (k:κ):List (κ × Value)→Nat→Option (Nat × Value)
 | [],_=>none
 | p :: t,i=>if k=p.1 then some (i,p.2) else idxv k t (i+1)
structure KeyX {κ:Type} [DecidableEq κ] (P:Program) (kt:TypeId) (enc:κ→Value):Prop where
 find:∀ (w:World) (k:κ) (es:List MapEntry) (L:List (κ × Value)),es.map (fun e=>(e.key,e.val))=L.map (fun p=>(enc p.1,p.2))→(Instr.findKey kt (enc k) es).run P w=.ok (idxv k L 0) w
 check:∀ (w:World) (k:κ) (em:Bool),(Instr.checkKey em 10000 kt (enc k)).run P w=.ok () w
theorem elookup (K:KeyX P kt enc) (hm:EMap enc w L m) (hmt:P.underlying mt=some (.map kt et)){z:Value}(hz:(zeroValue et).run P w=.ok z w) (k:κ){r:Value}(hr:(match idxv k L 0 with|some p=>Value.tuple #[p.2,.bool true]|none=>.tuple #[z,.bool false])=r) :
  (Instr.lookup mt (.map (some m)) (enc k) true).run P w=.ok r w:=by
 obtain ⟨es,clock,hb,he⟩:=hm
 have hf:=K.find w k es.toList L he
 subst hr
 cases e:idxv k L 0 with
 | none=>rw[e] at hf;simp[Instr.lookup,run_underlying hmt,MapKept.run_getObj_map hb,K.check w k,hf,hz,Result.andThen]
 | some p=>rw[e] at hf;simp[Instr.lookup,run_underlying hmt,MapKept.run_getObj_map hb,K.check w k,hf,Result.andThen]
theorem eupdate (K:KeyX P kt enc) (hm:EMap enc w L m) (hmt:P.underlying mt=some (.map kt et)) (k:κ) (hn:idxv k L 0=none) (v:Value) :
  ∃ es clock,(Instr.mapUpdate mt (.map (some m)) (enc k) v).run P w=.ok () { w with heap:=w.heap.setIfInBounds m (.map es clock) }∧EMap enc { w with heap:=w.heap.setIfInBounds m (.map es clock) } (L++[(k,v)]) m:=by
 have hlt:=hm.lt
 obtain ⟨es,clock,hb,he⟩:=hm
 have hf:=K.find w k es.toList L he
 rw[hn] at hf
 refine ⟨es.push { key:=enc k,val:=v,born:=clock },clock+1,by simp[Instr.mapUpdate,run_underlying hmt,MapKept.run_getObj_map hb,K.check w k,hf,MapKept.run_setObj_map _ hb,Result.andThen],es.push { key:=enc k,val:=v,born:=clock },clock+1,?_,?_⟩
 ·show (w.heap.setIfInBounds m _)[m]?=_
  rw[Array.getElem?_setIfInBounds_self_of_lt hlt]
 ·rw[Array.toList_push,List.map_append,he,List.map_append]
  rfl
end
def encI (k:Int):Value:=.int .i64 k
theorem find_now (d:IntKind):∀ (k:Int) (es:List MapEntry) (L:List (Int × Value)) (i:Nat),es.map (fun e=>(e.key,e.val))=L.map (fun p=>(encI p.1,p.2))→Instr.findNow (.int d) (encI k) es i=some (idxv k L i)
 | k,[],[],i,_=>rfl
 | k,[],_ :: _,_,h=>by simp at h
 | k,_ :: _,[],_,h=>by simp at h
 | k,e :: es,p :: L,i,h=>by
  simp only[List.map_cons,List.cons.injEq,Prod.mk.injEq] at h
  obtain ⟨⟨h1,h2⟩,h3⟩:=h
  have ih:=find_now d k es L (i+1) h3
  unfold Instr.findNow
  rw[h1]
  unfold encI at ih ⊢
  by_cases hk:k=p.1
  ·simp[Instr.sameNow,idxv,hk,h2]
  ·have hk2:(k == p.1)=false:=beq_eq_false_iff_ne.2 hk
   simp[Instr.sameNow,idxv,hk,hk2,ih]
theorem keyI:KeyX Tryz.prog 3 encI where
 find:=fun w k es L h=>by
  unfold Instr.findKey
  simp only[Sem.run_bind,run_underlying Tryz.underlying3,Result.andThen]
  rw[find_now .i64 k es L 0 h]
  rfl
 check:=fun w k em=>by
  unfold encI
  rw[show (10000:Nat)=9999+1 from rfl]
  generalize 9999=d
  simp[Instr.checkKey,run_underlying Tryz.underlying3]
def encT (k:Int × Int × Int):Value:=.agg #[.int .i64 k.1,.int .i64 k.2.1,.int .i64 k.2.2]
theorem eq_range (w:World) (d:Nat) (a b c e:Int):(Op.equalIn (d+2) 108 (.agg #[.int .i64 a,.int .i64 b]) (.agg #[.int .i64 c,.int .i64 e])).run Tryz.prog w=.ok (decide (a=c) && decide (b=e)) w:=by
 have u3:=Tryz.underlying3
 have a3:=Tryz.isAgg3
 have z3:=Tryz.sizeOf3
 have hS:Tryz.prog.underlying 108=some (.struct (Tryz.prog.fieldsOf 108)):=by kernel_rfl
 have hp:Tryz.prog.stoodInHeld 108=false:=by kernel_rfl
 have e1:=equalIn_i64 (P:=Tryz.prog) (w:=w) Tryz.underlying3 a c d
 have e2:=equalIn_i64 (P:=Tryz.prog) (w:=w) Tryz.underlying3 b e d
 rw[run_equalIn_agg w (d+1) 108 _ _ hS hp]
 simp only[Program.fieldsOf,Tryz.underlying108]
 go_simp
 by_cases h1:a=c <;> by_cases h2:b=e <;> simp[h1,h2]
theorem eq_step (w:World) (k l:Int × Int × Int):(Op.equal 167 (encT k) (encT l)).run Tryz.prog w=.ok (decide (k=l)) w:=by
 have u3:=Tryz.underlying3
 have a3:=Tryz.isAgg3
 have z3:=Tryz.sizeOf3
 have a4:=Tryz.isAgg108
 have z4:=Tryz.sizeOf108
 have hS:Tryz.prog.underlying 167=some (.struct (Tryz.prog.fieldsOf 167)):=by kernel_rfl
 have hp:Tryz.prog.stoodInHeld 167=false:=by kernel_rfl
 have e1:=equalIn_i64 (P:=Tryz.prog) (w:=w) Tryz.underlying3 k.1 l.1 9998
 have e2:=eq_range w 9997 k.2.1 k.2.2 l.2.1 l.2.2
 unfold Op.equal Op.maxDepth encT
 rw[show (10000:Nat)=9999+1 from rfl,run_equalIn_agg w 9999 167 _ _ hS hp]
 simp only[Program.fieldsOf,Tryz.underlying167]
 go_simp
 obtain ⟨k1,k2,k3⟩:=k
 obtain ⟨l1,l2,l3⟩:=l
 by_cases h1:k1=l1 <;> by_cases h2:k2=l2 <;> by_cases h3:k3=l3 <;> simp[h1,h2,h3]
theorem check_step (w:World) (k:Int × Int × Int) (em:Bool):(Instr.checkKey em 10000 167 (encT k)).run Tryz.prog w=.ok () w:=by
 have c2:∀ d x,(Instr.checkKey em (d+1) 3 (.int .i64 x)).run Tryz.prog w=.ok () w:=fun d x=>by simp[Instr.checkKey,run_underlying Tryz.underlying3]
 have a3:=Tryz.isAgg3
 have z3:=Tryz.sizeOf3
 have a4:=Tryz.isAgg108
 have z4:=Tryz.sizeOf108
 have c3:∀ d a b,(Instr.checkKey em (d+2) 108 (.agg #[.int .i64 a,.int .i64 b])).run Tryz.prog w=.ok () w:=fun d a b=>by
  rw[Instr.checkKey]
  simp only[Sem.run_bind,run_underlying Tryz.underlying108,Result.andThen]
  go_simp
 unfold encT
 rw[show (10000:Nat)=9997+2+1 from rfl]
 generalize 9997=d
 rw[Instr.checkKey]
 simp only[Sem.run_bind,run_underlying Tryz.underlying167,Result.andThen]
 go_simp
theorem find_asking (w:World):∀ (k:Int × Int × Int) (es:List MapEntry) (L:List ((Int × Int × Int) × Value)) (i:Nat),es.map (fun e=>(e.key,e.val))=L.map (fun p=>(encT p.1,p.2))→(Instr.findAsking 167 (encT k) es i).run Tryz.prog w=.ok (idxv k L i) w
 | k,[],[],i,_=>by simp[Instr.findAsking,idxv]
 | k,[],_ :: _,_,h=>by simp at h
 | k,_ :: _,[],_,h=>by simp at h
 | k,e :: es,p :: L,i,h=>by
  simp only[List.map_cons,List.cons.injEq,Prod.mk.injEq] at h
  obtain ⟨⟨h1,h2⟩,h3⟩:=h
  have ih:=find_asking w k es L (i+1) h3
  have hq:=eq_step w k p.1
  by_cases hk:k=p.1
  ·rw[decide_eq_true hk] at hq
   subst hk
   simp[Instr.findAsking,h1,hq,idxv,h2]
  ·rw[decide_eq_false hk] at hq
   simp[Instr.findAsking,h1,hq,idxv,hk,ih]
theorem keyT:KeyX Tryz.prog 167 encT where
 find:=fun w k es L h=>by
  have hn:=find_asking w k es L 0 h
  unfold Instr.findKey
  simp only[Sem.run_bind,run_underlying Tryz.underlying167,Result.andThen]
  cases es with
  | nil =>
   cases L with
   | nil=>simp[Instr.findNow,idxv]
   | cons p L=>simp at h
  | cons e es =>
   have:Instr.findNow (.struct (Tryz.prog.fieldsOf 167)) (encT k) (e :: es) 0=none:=rfl
   simp only[Program.fieldsOf,Tryz.underlying167] at this
   rw[this]
   exact hn
 check:=check_step

structure Tok where
 kind:Int
 text:List Int
 low:Int
 high:Int
 pos:Int
deriving DecidableEq
def Tok.cells (t:Tok):List Value:=[.int .i64 t.kind,.string (strOfNums t.text),.int .i64 t.low,.int .i64 t.high,.int .i64 t.pos]
def cellsP (l:List Tok):List Value:=l.flatMap Tok.cells
theorem cellsP_app (l m:List Tok):cellsP (l++m)=cellsP l++cellsP m:=by simp[cellsP]
theorem cellsP_one (l:List Tok):∀ u∈cellsP l,u.oneCell' = true:=fun u hu=>by
 simp only[cellsP,List.mem_flatMap] at hu
 obtain ⟨t,_,hu⟩:=hu
 simp only[Tok.cells,List.mem_cons,List.not_mem_nil,or_false] at hu
 rcases hu with rfl|rfl|rfl|rfl|rfl <;> rfl
theorem cellsP_at {l:List Tok}{i:Nat}{t:Tok}(h:l[i]?=some t){j:Nat}(hj:j<5):(cellsP l)[i*5+j]?=t.cells[j]? := by
 induction l generalizing i with
 | nil=>simp at h
 | cons x u ih =>
  rw[show cellsP (x :: u)=x.cells++cellsP u by simp[cellsP]]
  have hx:x.cells.length=5:=rfl
  cases i with
  | zero=>simp at h;subst h;rw[Nat.zero_mul,Nat.zero_add,List.getElem?_append_left (by omega)]
  | succ i =>
   rw[List.getElem?_append_right (by omega),hx,show (i+1)*5+j - 5=i*5+j by omega]
   exact ih (by simpa using h)
structure RdT (w:World) (B:Nat) (A:Option Addr) (n c:Nat) (l:List Tok):Prop where
 len:l.length=n
 cap:n≤c
 capm:c≤maxLen
 at_:0<n→∃ b off,A=some ⟨b,off,none⟩∧b<B∧∀ (j:Nat) (u:Value),(cellsP l)[j]?=some u→w.cell? ⟨b,off+j,none⟩=some u
def OwnT (w:World) (B:Nat) (v:Value) (l:List Tok):Prop:=w.ownsRow B 129 5 v l.length (cellsP l)
section
variable {w w' : World}{B n c:Nat}{A:Option Addr}{l:List Tok}{v:Value}
theorem RdT.keep (h:RdT w B A n c l) (hk:∀ p:Addr,p.block<B→w'.cell? p=w.cell? p):RdT w' B A n c l :=
 ⟨h.len,h.cap,h.capm,fun hn=>by
  obtain ⟨b,off,e,hb,hc⟩:=h.at_ hn
  exact ⟨b,off,e,hb,fun j x hx=>(hk _ hb).trans (hc j x hx)⟩⟩
theorem RdT.drewN (h:RdT w B A n c l) (q:Nat):RdT (w.drewN q) B A n c l:=⟨h.len,h.cap,h.capm,h.at_⟩
theorem RdT.nil (w:World) (B:Nat):RdT w B none 0 0 []:=⟨rfl,Nat.le_refl _,by simp[maxLen],fun h=>absurd h (by omega)⟩
theorem OwnT.nil (w:World) (B:Nat):OwnT w B (.slice none 0 0) []:=World.ownsRow_nil w B _ 5
theorem OwnT.rd (h:OwnT w B v l):∃ A c,v=.slice A l.length c∧RdT w w.heap.size A l.length c l:=by
 rcases h.2 with ⟨h1,h2⟩|⟨g,cap,cur,h1,_,hg,h3,h4,_,_⟩
 ·subst h1
  have:l=[]:=List.eq_nil_of_length_eq_zero h2
  subst this
  exact ⟨none,0,rfl,RdT.nil _ _⟩
 ·subst h1
  have hlt:g<w.heap.size:=by
   rcases Nat.lt_or_ge g w.heap.size with hlt|hge
   ·exact hlt
   ·rw[Array.getElem?_eq_none hge] at hg;cases hg
  exact ⟨_,cap,rfl,rfl,h3,h4,fun _=>⟨g,0,rfl,hlt,fun j x hx=>by rw[← qo_];exact World.ownsRow.cells h (g:=g) rfl j _ hx⟩⟩
theorem OwnT.below (h:OwnT w B v l) (hb:Below w.heap.size w w'):OwnT w' B v l:=by
 refine ⟨h.1,?_⟩
 rcases h.2 with h2|⟨g,cap,cur,h1,hB,hg,h3⟩
 ·exact .inl h2
 ·have hlt:g<w.heap.size:=by
   rcases Nat.lt_or_ge g w.heap.size with hlt|hge
   ·exact hlt
   ·rw[Array.getElem?_eq_none hge] at hg;cases hg
  exact .inr ⟨g,cap,cur,h1,hB,(hb.block g hlt).trans hg,h3⟩
theorem OwnT.set (h:OwnT w B v l){b o:Nat}(hb:b<B) (x:Value):OwnT (w.setCell ⟨b,o,none⟩ x) B v l:=by
 refine ⟨h.1,?_⟩
 rcases h.2 with h2|⟨g,cap,cur,h1,hB,hg,h3⟩
 ·exact .inl h2
 ·exact .inr ⟨g,cap,cur,h1,hB,(Below.heap_setCell _ _ _ _ (by show g≠b;omega)).trans hg,h3⟩
theorem OwnT.block (h:OwnT w B v l):∀ i,v.ownBlock=some i→B≤i∧i<w.heap.size:=World.ownsRow.lt h
end
end Go.Proofs.YtbbmjdddemahfaaGreat
