/- Part of the proof. -/
import Derived.Test.YtbbmjdddemahfaaGreatSW03
import Derived.Test.YtbbmjdddemahfaaGreatSW02
import Derived.Laws.StructEq
import Derived.Shelf.SlicesE.Equal
import Derived.Deep.QuietTactic
import Derived.BigQuiet
import Derived.RegionTactic
import Derived.Deep.DeepCutAuto
import Derived.Deep.RegionLaw
import Derived.Maps.AppendAt
namespace Go.Proofs.YtbbmjdddemahfaaGreat
theorem ha_ {p:Prop}(h:p):Go.RowKit.Hid p:=Go.Lib.hid h
open Go.RowKit
open M (Rg)

theorem info_R:(Tryz.prog.info? 108).map (fun i=>(i.zero,i.size,i.bytes))=some (some (.agg #[.int .i64 0,.int .i64 0]),2,16):=by kernel_rfl
theorem zf_ {w:World}{B:Nat}{e:TypeId}{k n:Nat}{v:Value}{xs:List Value}(h:w.ownsRow B e k v n xs) (q:Nat):(w.drewN q).ownsRow B e k v n xs:=h
def Own (w:World) (B:Nat) (A:Option Addr) (n c:Nat) (L:List Rg):Prop:=w.ownsRow B 108 2 (.slice A n c) n (cellsR L)
theorem Own.len {w:World}{B:Nat}{A:Option Addr}{n c:Nat}{L:List Rg}(h:Own w B A n c L):L.length=n:=by
 have:=h.1;rw[zu_] at this;omega
theorem Own.rd {w:World}{B:Nat}{A:Option Addr}{n c:Nat}{L:List Rg}(h:Own w B A n c L):Rd w w.heap.size A n c L:=Rd.of_own h
def Left1 (B:Nat) (w:World) (L:List Rg) (e:Ending) (w' : World):Prop:=∃ A n c,e=.returned (.slice A n c)∧Own w' B A n c L∧Below B w w'
theorem left_of {B:Nat}{w w' : World}{L:List Rg}{v:Value}{n:Nat}(h:w'.ownsRow B 108 2 v n (cellsR L)) (hb:Below B w w'):Left1 B w L (.returned v) w' := by
 rcases h.2 with ⟨rfl,rfl⟩|⟨g,cap,cur,rfl,_⟩
 ·exact ⟨none,0,0,rfl,h,hb⟩
 ·exact ⟨_,n,cap,rfl,h,hb⟩
theorem news_at (w:World) (N:Nat) (hN:N=w.heap.size) (lo hi:Int) (t:TypeId):∀ j u,[Value.int .i64 lo,Value.int .i64 hi][j]?=some u→(w.alloc (.cells #[.int .i64 lo,.int .i64 hi] t)).cell? ((⟨N,0,none⟩:Addr).add j)=some u:=by
 subst hN
 intro j u hj
 match j,hj with
 | 0,hj=>simp at hj;subst hj;simp[Addr.add]
 | 1,hj=>simp at hj;subst hj;simp[Addr.add]
theorem news_one (lo hi:Int):∀ u∈[Value.int .i64 lo,Value.int .i64 hi],u.oneCell' = true:=by
 intro u hu;simp at hu;rcases hu with rfl|rfl <;> rfl
theorem set_snoc (I:List Rg) (s:Rg) (m:Int):(cellsR (I++[s])).set (I.length*2+1) (.int .i64 m)=cellsR (I++[(s.1,m)]):=by
 rw[zi_,zi_,List.set_append_right _ _ (by rw[zu_];omega),zu_]
 have:I.length*2+1 - I.length*2=1:=by omega
 rw[this];rfl
def Fresh (w:World) (P:List Rg→Prop) (e:Ending) (w' : World):Prop:=∃ A n c L,e=.returned (.slice A n c)∧P L∧Rd w' w'.heap.size A n c L∧Below w.heap.size w w'
def IsTold (tl:Bool→Bool→Bool) (a b L:List Rg):Prop:=M.LF 0 L∧∀ c,M.covb L c=(M.isch c && tl (M.hasB a c) (M.hasB b c))
def encR (x:Rg):List Value:=[.int .i64 x.1,.int .i64 x.2]
theorem encR_len (x:Rg):(encR x).length=2:=rfl
theorem encR_one (x:Rg):∀ v∈encR x,v.oneCell' = true:=fun v hv=>by simp[encR] at hv;rcases hv with rfl|rfl <;> rfl
def firstF:List Rg→Int
 | []=>-1
 | r :: _=>r.1
def Num (w:World) (x:Int) (e:Ending) (w' : World):Prop:=e=.returned (.int .i64 x)∧Below w.heap.size w w'
def Boo (w:World) (x:Bool) (e:Ending) (w' : World):Prop:=e=.returned (.bool x)∧Below w.heap.size w w'
section
variable {w w' : World}{B n c:Nat}{A:Option Addr}{L:List Rg}
theorem Rd.on (h:Rd w w.heap.size A n c L) (hb:Below w.heap.size w w'):Rd w' w'.heap.size A n c L:=(h.below hb).more hb.size
theorem Rd.push (h:Rd w w.heap.size A n c L) (o:Obj):Rd (w.alloc o) (w.alloc o).heap.size A n c L:=h.on ((Below.refl _ _).alloc (Nat.le_refl _) o)
end
theorem qd_ (w:World) (o:Obj):Below w.heap.size w (w.alloc o):=(Below.refl _ _).alloc (Nat.le_refl _) o
theorem rd_lit (w:World) (N:Nat) (hN:N=w.heap.size) (L:List Rg) (t:TypeId) (cs:Array Value) (hc:cs.toList=cellsR L) (hm:L.length≤400) :
  Rd (w.alloc (.cells cs t)) (w.alloc (.cells cs t)).heap.size (some ⟨N,0,none⟩) L.length L.length L:=by
 subst hN
 refine ⟨rfl,Nat.le_refl _,by unfold maxLen;omega,fun _=>⟨w.heap.size,0,rfl,by simp,fun j u hu=>?_⟩⟩
 rw[cell_of_row (w.alloc (.cells cs t)) w.heap.size (0+j) cs t (0,0) (heap_alloc_new w _),Nat.zero_add,← hu,← hc]
 simp
theorem told_is {tl:Bool→Bool→Bool}{a b L R:List Rg}(h:IsTold tl a b L) (hR:M.LF 0 R) (hc:∀ c,M.covb R c=(M.isch c && tl (M.hasB a c) (M.hasB b c))):L=R :=
 M.LF_ext h.1 hR fun c=>by rw[h.2,hc]
theorem rd_one (w:World) (x y:Int) (t:TypeId):Rd (w.alloc (.cells #[.int .i64 x,.int .i64 y] t)) (w.alloc (.cells #[.int .i64 x,.int .i64 y] t)).heap.size (some ⟨w.heap.size,0,none⟩) 1 1 [(x,y)] :=
 rd_lit w _ rfl [(x,y)] t _ rfl (by simp)
section
variable {a b L:List Rg}
theorem or_cov (h:IsTold (fun x y=>x || y) a b L) (c:Int):M.covb L c=(M.hasB a c || M.hasB b c):=by
 rw[h.2,M.hasB_isch a,M.hasB_isch b];cases M.isch c <;> simp
theorem less_cov (h:IsTold (fun x y=>x && !y) a b L) (c:Int):M.covb L c=(M.hasB a c && !M.hasB b c):=by
 rw[h.2,M.hasB_isch a];cases M.isch c <;> simp
end
theorem any_cov (a:List Rg) (x:Int):(a.any fun r=>M.inR r x)=M.covb a x:=by
 induction a with
 | nil=>rfl
 | cons r t ih=>simp[M.covb,ih]
theorem cov_take {a:List Rg}{k:Nat}{lo hi:Int}(h:a[k]?=some (lo,hi)) (x:Int):M.covb (a.take (k+1)) x=(M.covb (a.take k) x || (decide (lo≤x) && decide (x≤hi))):=by
 obtain ⟨hk,hx⟩:=List.getElem?_eq_some_iff.1 h
 rw[List.take_succ_eq_append_getElem hk,hx,M.covb_append];simp[M.covb,M.inR]
structure RdI (w:World) (B:Nat) (A:Option Addr) (n c:Nat) (L:List Int):Prop where
 len:L.length=n
 cap:n≤c
 capm:c≤maxLen
 at_:0<n→∃ b off,A=some ⟨b,off,none⟩∧b<B∧∀ (j:Nat) (x:Int),L[j]?=some x→w.cell? ⟨b,off+j,none⟩=some (.int .i64 x)
section
variable {w w' : World}{B n c:Nat}{A:Option Addr}{L:List Int}
theorem RdI.keep (h:RdI w B A n c L) (hk:∀ p:Addr,p.block<B→w'.cell? p=w.cell? p):RdI w' B A n c L :=
 ⟨h.len,h.cap,h.capm,fun hn=>by
  obtain ⟨b,off,e,hb,hc⟩:=h.at_ hn
  exact ⟨b,off,e,hb,fun j x hx=>(hk _ hb).trans (hc j x hx)⟩⟩
theorem RdI.on (h:RdI w w.heap.size A n c L) (hb:Below w.heap.size w w'):RdI w' w'.heap.size A n c L:=by
 have h1:=h.keep (w' := w') fun _ hp=>hb.cell hp
 exact ⟨h1.len,h1.cap,h1.capm,fun hn=>by
  obtain ⟨b,off,e,hb', hc⟩:=h1.at_ hn
  exact ⟨b,off,e,Nat.lt_of_lt_of_le hb' hb.size,hc⟩⟩
theorem RdI.drewN (h:RdI w B A n c L) (k:Nat):RdI (w.drewN k) B A n c L:=⟨h.len,h.cap,h.capm,h.at_⟩
def cellsI (L:List Int):List Value:=L.map (Value.int .i64)
theorem RdI.of_own {base:Nat}{e:TypeId}(h:w.ownsRow base e 1 (.slice A n c) n (cellsI L)):RdI w w.heap.size A n c L:=by
 have hl:L.length=n:=by have:=h.1;simp[cellsI] at this;omega
 rcases h.2 with ⟨h1,h2⟩|⟨g,cap,cur,h1,_,hg,h3,h4,_,_⟩
 ·injection h1 with a1 a2 a3;subst a1 a3;exact ⟨hl,by omega,by simp[maxLen],fun h=>absurd h (by omega)⟩
 ·injection h1 with a1 a2 a3;subst a1 a3
  have hlt:g<w.heap.size:=by
   rcases Nat.lt_or_ge g w.heap.size with hlt|hge
   ·exact hlt
   ·rw[Array.getElem?_eq_none hge] at hg;cases hg
  exact ⟨hl,h3,h4,fun _=>⟨g,0,rfl,hlt,fun j x hx=>by rw[← add_none];exact h.cells (g:=g) rfl j _ (by simp[cellsI,hx])⟩⟩
theorem RdI.got (h:RdI w B A n c L){k:Nat}(hk:k<n):∃ (b off:Nat) (x:Int),A=some ⟨b,off,none⟩∧b<B∧L[k]?=some x∧w.cell? ⟨b,off+k,none⟩=some (.int .i64 x):=by
 have hl:k<L.length:=by have:=h.len;omega
 obtain ⟨b,off,e,hb,hc⟩:=h.at_ (by omega)
 exact ⟨b,off,_,e,hb,List.getElem?_eq_getElem hl,hc _ _ (List.getElem?_eq_getElem hl)⟩
end
theorem step_app {P:Program}(w:World){ops:Array Oper}{o:Oper}{a:Act}{K:Act→World→Prop}{Q:Exit→Act→World→Prop}{E:Prop}(hgd:o.guard=none) (s x:Operand) (t:TypeId)
  (ho:o.op=.call { callee:=.builtin .append,args:=#[s,x],argTypes:=#[t,t] })
  (base:Nat) (e:TypeId) (i:TypeInfo) (z:Value) (size bytes:Nat) (ht:P.underlying t=some (.slice e)) (hi:P.info? e=some i) (hz:i.zero=some z)
  (hsize:i.size=size) (hby:i.bytes=bytes) (hzs:z.cells.size=size) (hsz:0<size)
  (v:Value) (n:Nat) (xs:List Value) (hs:a.eval s=v) (hown:w.ownsRow base e size v n xs)
  (ad:Addr) (m c:Nat) (news:List Value) (hx:a.eval x=.slice (some ad) m c) (hl:news.length=m*size) (hnews:∀ j u,news[j]?=some u→w.cell? (ad.add j)=some u) (h1:∀ u∈news,u.oneCell' = true)
  (h63:n+m≤maxLen) (hbytes:(n+m)*bytes≤140737488355328) (hbase:base≤w.heap.size)
  (h:∀ v' w', w'.ownsRow base e size v' (n+m) (xs++news)→w.grownBy w' v.ownBlock→K (a.put o.dst v') w') :
  if Region.wanted o (yielded ops a.tmps)=true then Oper.wp P o a w K Q else E:=by
 rw[if_pos (show Region.wanted o (yielded ops a.tmps)=true by simp[Region.wanted,hgd])]
 exact wp_append_own w s x t ho base e i z size bytes ht hi hz hsize hby hzs hsz v n xs hs hown ad m c news hx hl hnews h1 h63 hbytes hbase fun v' w' h2 h3 _=>h v' w' h2 h3
theorem far_x {W w1:World}{row:Option Nat}{N:Nat}{v:Value}(hg:W.grownBy w1 row) (hc:W.cell? ⟨N,0,none⟩=some v) (hne:some N≠row):w1.cell? ⟨N,0,none⟩=some v:=by
 have hlt:N<W.heap.size:=by
  rcases Nat.lt_or_ge N W.heap.size with hlt|hge
  ·exact hlt
  ·unfold World.cell? at hc;rw[Array.getElem?_eq_none hge] at hc;cases hc
 exact (hg.cell_far ⟨N,0,none⟩ hlt hne).trans hc
theorem one_x (x:Int):∀ u∈[Value.int .i64 x],u.oneCell' = true:=fun u hu=>by simp at hu;subst hu;rfl
theorem ze_ (L:List Int):∀ u∈cellsI L,u.oneCell' = true:=fun u hu=>by
 simp[cellsI] at hu;obtain ⟨x,_,rfl⟩:=hu;rfl
theorem news_old {w W:World}{b off n c k:Nat}{L:List Int}(hL:RdI w w.heap.size (some ⟨b,off,none⟩) n c L) (hn:0<n) (hb:Below w.heap.size w W) (l:List Int) (hl:∀ j x,l[j]?=some x→L[k+j]?=some x) :
  ∀ j u,(cellsI l)[j]?=some u→W.cell? ((⟨b,off+k,none⟩:Addr).add j)=some u:=by
 intro j u hu
 obtain ⟨b', off', e,hb', hc⟩:=hL.at_ hn
 injection e with e;injection e with e1 e2 _;subst e1 e2
 simp[cellsI] at hu
 obtain ⟨x,hx,rfl⟩:=hu
 rw[add_none,Nat.add_assoc]
 exact (hb.cell (p:=⟨b,off+(k+j),none⟩) hb').trans (hc _ _ (hl j x hx))
theorem news_x (W:World) (N:Nat) (x:Int) (h:W.cell? ⟨N,0,none⟩=some (.int .i64 x)):∀ j u,[Value.int .i64 x][j]?=some u→W.cell? ((⟨N,0,none⟩:Addr).add j)=some u:=by
 intro j u hu
 match j,hu with
 | 0,hu=>simp at hu;subst hu;simpa [Addr.add] using h
def isPlain (l L:List Rg):Prop:=L=M.plainL l
theorem has_nil (c:Int):M.hasB [] c=false:=by simp[M.hasB,M.covb]
theorem has_all (c:Int):M.hasB [(0,1114111)] c=M.isch c:=by
 rw[Bool.eq_iff_iff];simp[M.hasB,M.isch,M.covb,M.inR]
theorem own_mono {w:World}{B B' : Nat}{A:Option Addr}{n c:Nat}{L:List Rg}(h:Own w B A n c L) (hB:B' ≤ B):Own w B' A n c L:=by
 refine ⟨h.1,?_⟩
 rcases h.2 with h2|⟨g,cap,cur,h1,hb,h3⟩
 ·exact .inl h2
 ·exact .inr ⟨g,cap,cur,h1,by omega,h3⟩
theorem info_I:(Tryz.prog.info? 3).map (fun i=>(i.zero,i.size,i.bytes))=some (some (.int .i64 0),1,8):=by kernel_rfl
theorem zg_ {w w' : World}{B:Nat}{e:TypeId}{k n:Nat}{v:Value}{xs:List Value}(h:w.ownsRow B e k v n xs) (hb:Below w.heap.size w w'):w'.ownsRow B e k v n xs:=by
 refine ⟨h.1,?_⟩
 rcases h.2 with h2|⟨g,cap,cur,h1,hB,hg,h3⟩
 ·exact .inl h2
 ·have hlt:g<w.heap.size:=by
   rcases Nat.lt_or_ge g w.heap.size with hlt|hge
   ·exact hlt
   ·rw[Array.getElem?_eq_none hge] at hg;cases hg
  exact .inr ⟨g,cap,cur,h1,hB,(hb.block g hlt).trans hg,h3⟩
structure Given where
 A:Option Addr
 n:Nat
 c:Nat
 l:List Rg
structure RdS (w:World) (B:Nat) (A:Option Addr) (n c:Nat) (gs:List Given):Prop where
 len:gs.length=n
 cap:n≤c
 capm:c≤maxLen
 at_:0<n→∃ b off,A=some ⟨b,off,none⟩∧b<B∧∀ (i:Nat) (g:Given),gs[i]?=some g→w.cell? ⟨b,off+i,none⟩=some (.slice g.A g.n g.c)
 each:∀ g∈gs,Rd w B g.A g.n g.c g.l
section
variable {w w' : World}{B n c:Nat}{A:Option Addr}{gs:List Given}
theorem RdS.on (h:RdS w w.heap.size A n c gs) (hb:Below w.heap.size w w'):RdS w' w'.heap.size A n c gs :=
 ⟨h.len,h.cap,h.capm,fun hn=>by
  obtain ⟨b,off,e,hlt,hc⟩:=h.at_ hn
  exact ⟨b,off,e,Nat.lt_of_lt_of_le hlt hb.size,fun i g hg=>(hb.cell (p:=⟨b,off+i,none⟩) hlt).trans (hc i g hg)⟩,fun g hg=>(h.each g hg).on hb⟩
theorem RdS.got (h:RdS w B A n c gs){k:Nat}(hk:k<n):∃ (b off:Nat) (g:Given),A=some ⟨b,off,none⟩∧b<B∧gs[k]?=some g∧w.cell? ⟨b,off+k,none⟩=some (.slice g.A g.n g.c)∧Rd w B g.A g.n g.c g.l:=by
 have hl:k<gs.length:=by have:=h.len;omega
 obtain ⟨b,off,e,hb,hc⟩:=h.at_ (by omega)
 exact ⟨b,off,gs[k],e,hb,List.getElem?_eq_getElem hl,hc k _ (List.getElem?_eq_getElem hl),h.each _ (List.getElem_mem hl)⟩
end

theorem own_empty {W:World}{B N:Nat}(hB:B≤W.heap.size) (hN:N=W.heap.size):(W.alloc (.cells #[] 3)).ownsRow B 3 1 (.slice (some ⟨N,0,none⟩) 0 0) 0 []:=by
 subst hN;exact World.ownsRow_lit W #[] 0 hB (by simp[maxLen]) rfl
def Put (w:World) (L:List Int) (x:Int) (e:Ending) (w' : World):Prop:=∃ A' n' c' R,e=.returned (.slice A' n' c')∧RdI w' w'.heap.size A' n' c' R∧M.IsPut L x R∧Below w.heap.size w w'
structure S1 (w W:World) (v0:Value) (x:Int) (nx:Option Nat):Prop where
 own:W.ownsRow w.heap.size 3 1 v0 0 []
 bel:Below w.heap.size w W
 cell:∀ N,nx=some N→W.cell? ⟨N,0,none⟩=some (.int .i64 x)∧some N≠v0.ownBlock
structure S2 (w W:World) (v1:Value) (k:Nat) (xs:List Value) (x:Int) (nx:Option Nat):Prop where
 own:W.ownsRow w.heap.size 3 1 v1 (0+k) ([]++xs)
 bel:Below w.heap.size w W
 cell:∀ N,nx=some N→W.cell? ⟨N,0,none⟩=some (.int .i64 x)
theorem s1_a (w:World) (x:Int) (q:Nat):S1 w ((w.alloc (.cells #[] 3)).drewN q) (.slice (some ⟨w.heap.size,0,none⟩) 0 0) x none :=
 ⟨zf_ (own_empty (Nat.le_refl _) rfl) q,qt_ (qd_ w _) q,fun N h=>by cases h⟩
theorem s1_b (w:World) (x:Int) (q:Nat):S1 w (((w.alloc (.cells #[] 3)).alloc (.cells #[.int .i64 x] 3)).drewN q) (.slice (some ⟨w.heap.size,0,none⟩) 0 0) x (some (w.heap.size+1)) :=
 ⟨zf_ ((own_empty (Nat.le_refl _) rfl).alloc _) q,qt_ ((qd_ w _).alloc (by simp) _) q,fun N h=>by
  injection h with h;subst h
  refine ⟨?_,by simp[Value.ownBlock]⟩
  have e:w.heap.size+1=(w.alloc (.cells #[] 3)).heap.size:=by simp
  rw[e];simp⟩
theorem s1_c (w:World) (x:Int) (q:Nat):S1 w (((w.alloc (.cells #[.int .i64 x] 3)).alloc (.cells #[] 3)).drewN q) (.slice (some ⟨w.heap.size+1,0,none⟩) 0 0) x (some w.heap.size) :=
 ⟨zf_ (own_empty (by simp) (by simp)) q,qt_ ((qd_ w _).alloc (by simp) _) q,fun N h=>by
  injection h with h;subst h
  exact ⟨by simp,by simp[Value.ownBlock]⟩⟩
theorem s2_a {w w1:World}{v1:Value}{k:Nat}{xs:List Value}{x:Int}(h:S2 w w1 v1 k xs x none) (q:Nat):S2 w ((w1.alloc (.cells #[.int .i64 x] 3)).drewN q) v1 k xs x (some w1.heap.size) :=
 ⟨zf_ (h.own.alloc _) q,qt_ (h.bel.alloc h.bel.size _) q,fun N e=>by injection e with e;subst e;simp⟩
theorem s2_q {w w1:World}{v1:Value}{k:Nat}{xs:List Value}{x:Int}{nx:Option Nat}(h:S2 w w1 v1 k xs x nx) (q:Nat):S2 w (w1.drewN q) v1 k xs x nx :=
 ⟨zf_ h.own q,qt_ h.bel q,h.cell⟩
structure S3 (w W:World) (v2:Value) (m:Nat) (ys:List Value):Prop where
 own:W.ownsRow w.heap.size 3 1 v2 m ys
 bel:Below w.heap.size w W
theorem s3_q {w w2:World}{v2:Value}{m:Nat}{ys:List Value}(h:S3 w w2 v2 m ys) (q:Nat):S3 w (w2.drewN q) v2 m ys:=⟨zf_ h.own q,qt_ h.bel q⟩
section
variable {w W:World}{ops:Array Oper}{o:Oper}{a:Act}{K:Act→World→Prop}{Q:Exit→Act→World→Prop}{E:Prop}
theorem step_1 (s y:Operand) (hgd:o.guard=none) (ho:o.op=.call { callee:=.builtin .append,args:=#[s,y],argTypes:=#[23,23] }) (v0:Value) (x:Int) (nx:Option Nat) (h:S1 w W v0 x nx)
  (b off k c:Nat) (xs:List Value) (hs:a.eval s=v0) (hy:a.eval y=.slice (some ⟨b,off,none⟩) k c) (hl:xs.length=k*1) (hnews:∀ W,Below w.heap.size w W→∀ j u,xs[j]?=some u→W.cell? ((⟨b,off,none⟩:Addr).add j)=some u)
  (h1:∀ u∈xs,u.oneCell' = true) (hk:k≤1000000) (hK:∀ v1 w1,S2 w w1 v1 k xs x nx→K (a.put o.dst v1) w1) :
  if Region.wanted o (yielded ops a.tmps)=true then Oper.wp Tryz.prog o a W K Q else E:=by
 obtain ⟨i0,hi0,hz0,hz1,hz2⟩:=info_parts info_I
 refine step_app W hgd s y 23 ho w.heap.size 3 i0 (.int .i64 0) 1 8 Tryz.underlying23 hi0 hz0 hz1 hz2 rfl (by decide) v0 0 [] hs h.own ⟨b,off,none⟩ k c xs hy hl (hnews W h.bel) h1 (by simp only[maxLen];omega) (by omega) h.bel.size ?_
 intro v1 w1 ho1 hg1
 exact hK v1 w1 ⟨ho1,h.bel.grown hg1 h.bel.size (fun i hi=>(h.own.lt i hi).1),fun N e=>far_x hg1 (h.cell N e).1 (h.cell N e).2⟩
theorem step_2 (s y:Operand) (hgd:o.guard=none) (ho:o.op=.call { callee:=.builtin .append,args:=#[s,y],argTypes:=#[23,23] }) (v1:Value) (x:Int) (N k:Nat) (xs:List Value) (h:S2 w W v1 k xs x (some N))
  (hs:a.eval s=v1) (hy:a.eval y=.slice (some ⟨N,0,none⟩) 1 1) (hk:k≤1000000) (hK:∀ v2 w2,S3 w w2 v2 (0+k+1) ([]++xs++[.int .i64 x])→K (a.put o.dst v2) w2) :
  if Region.wanted o (yielded ops a.tmps)=true then Oper.wp Tryz.prog o a W K Q else E:=by
 obtain ⟨i0,hi0,hz0,hz1,hz2⟩:=info_parts info_I
 refine step_app W hgd s y 23 ho w.heap.size 3 i0 (.int .i64 0) 1 8 Tryz.underlying23 hi0 hz0 hz1 hz2 rfl (by decide) v1 (0+k) ([]++xs) hs h.own ⟨N,0,none⟩ 1 1 [.int .i64 x] hy rfl (news_x _ _ x (h.cell N rfl)) (one_x x) (by simp only[maxLen];omega) (by omega) h.bel.size ?_
 intro v2 w2 ho2 hg2
 exact hK v2 w2 ⟨ho2,h.bel.grown hg2 h.bel.size (fun i hi=>(h.own.lt i hi).1)⟩
theorem step_3 (s y:Operand) (hgd:o.guard=none) (ho:o.op=.call { callee:=.builtin .append,args:=#[s,y],argTypes:=#[23,23] }) (v2:Value) (m:Nat) (ys:List Value) (h:S3 w W v2 m ys)
  (b off k c:Nat) (xs:List Value) (hs:a.eval s=v2) (hy:a.eval y=.slice (some ⟨b,off,none⟩) k c) (hl:xs.length=k*1) (hnews:∀ W,Below w.heap.size w W→∀ j u,xs[j]?=some u→W.cell? ((⟨b,off,none⟩:Addr).add j)=some u)
  (h1:∀ u∈xs,u.oneCell' = true) (hk:m+k≤1000000) (hK:∀ v3 w3,S3 w w3 v3 (m+k) (ys++xs)→K (a.put o.dst v3) w3) :
  if Region.wanted o (yielded ops a.tmps)=true then Oper.wp Tryz.prog o a W K Q else E:=by
 obtain ⟨i0,hi0,hz0,hz1,hz2⟩:=info_parts info_I
 refine step_app W hgd s y 23 ho w.heap.size 3 i0 (.int .i64 0) 1 8 Tryz.underlying23 hi0 hz0 hz1 hz2 rfl (by decide) v2 m ys hs h.own ⟨b,off,none⟩ k c xs hy hl (hnews W h.bel) h1 (by simp only[maxLen];omega) (by omega) h.bel.size ?_
 intro v3 w3 ho3 hg3
 exact hK v3 w3 ⟨ho3,h.bel.grown hg3 h.bel.size (fun i hi=>(h.own.lt i hi).1)⟩
end
theorem put_done {w w3:World}{L:List Int}{x:Int}{k m:Nat}{v3:Value}(hk:k≤L.length) (h1:∀ j y,j<k→L[j]?=some y→y<x) (h2:∀ y,L[k]?=some y→x<y)
  (ho:w3.ownsRow w.heap.size 3 1 v3 m ([]++cellsI (L.take k)++[.int .i64 x]++cellsI (L.drop k))) (hb:Below w.heap.size w w3):Put w L x (.returned v3) w3:=by
 have ho' : w3.ownsRow w.heap.size 3 1 v3 m (cellsI (L.take k++x :: L.drop k)):=by simpa [cellsI] using ho
 have hp:M.IsPut L x (L.take k++x :: L.drop k):=⟨k,hk,h1,fun y hy=>Int.le_of_lt (h2 y hy),fun e=>absurd (h2 x e) (by omega),fun _=>rfl⟩
 rcases ho'.2 with ⟨rfl,rfl⟩|⟨g,cap,cur,rfl,_⟩
 ·exact ⟨none,0,0,_,rfl,RdI.of_own ho', hp,hb⟩
 ·exact ⟨_,m,cap,_,rfl,RdI.of_own ho', hp,hb⟩
set_option maxHeartbeats 1000000 in
theorem put_any {w:World}{b off n c:Nat}{L:List Int}(hL:RdI w w.heap.size (some ⟨b,off,none⟩) n c L) (hn0:0<n) (hn:n≤100000) (x:Int) :
  Calls Tryz.prog 141 #[.slice (some ⟨b,off,none⟩) n c,.int .i64 x] w (Put w L x):=by
 obtain ⟨i0,hi0,hz0,hz1,hz2⟩:=info_parts info_I
 have hnc:=hL.cap
 have hcm:=hL.capm
 unfold maxLen at hcm
 have HL:=ha_ hL
 clear hL
 go_enter Tryz.func141,Tryz.ntmps141
 go_wp2_with fail
 go_loop [5] (fun i=>∃ k:Nat,k≤n∧i=.int .i64 k∧∀ j y,j<k→L[j]?=some y→y<x) (fun i=>n - (intOf i).toNat)
 case atStart=>exact ⟨0,Nat.zero_le _,rfl,fun j y h=>absurd h (by omega)⟩
 case round =>
  obtain ⟨k,hk,rfl,hg⟩:=hrel
  have HG:=ha_ hg
  clear hg
  by_cases hlt:k<n
  ·obtain ⟨b', off', y,hA,hb,hy,hc⟩:=HL.out.got hlt
   injection hA with hA;injection hA with h1 h2 _;subst h1 h2
   have HY:=ha_ hy
   clear hy
   by_cases h1:y<x
   ·have HF:Hid (∀ j z,j<k+1→L[j]?=some z→z<x):=fun j z hj hz=>by
     by_cases e:j=k
     ·subst e;rw[HY.out] at hz;injection hz with hz;omega
     ·exact HG.out j z (by omega) hz
    go_wp2
    go_round
    case rel=>exact ⟨k+1,by omega,by go_num,HF.out⟩
    case measure=>simp[intOf];omega
   ·by_cases h2:y=x
    ·have g2:((y:Int) == x)=true:=by simpa using h2
     have HF:Hid (M.IsPut L x L):=⟨k,by rw[HL.out.len];exact hk,HG.out,fun z hz=>by rw[HY.out] at hz;injection hz with hz;omega,fun _=>rfl,fun h=>absurd (by rw[HY.out,h2]) h⟩
     clear h2
     go_wp2
     go_ret
     exact ⟨_,_,_,L,rfl,HL.out,HF.out,Below.refl _ _⟩
    ·have g2:((y:Int) == x)=false:=by simpa using h2
     have HNE:Hid (x≤y∧¬ y=x):=⟨by omega,h2⟩
     clear h2
     have z1:(0:Int)≤(k:Int):=by omega
     have z2:(k:Int)≤(c:Int):=by omega
     have z3:(k:Int)≤(n:Int):=by omega
     have z4:(n:Int)≤(c:Int):=by omega
     have T1:Hid ((cellsI (L.take k)).length=k*1):=by show (cellsI (L.take k)).length=k*1;have:=HL.out.len;simp[cellsI];omega
     have T2:Hid ((cellsI (L.drop k)).length=(n - k)*1):=by show (cellsI (L.drop k)).length=(n - k)*1;have:=HL.out.len;simp[cellsI];omega
     have T3:Hid (∀ W,Below w.heap.size w W→∀ j u,(cellsI (L.take k))[j]?=some u→W.cell? ((⟨b,off,none⟩:Addr).add j)=some u):=fun W hW=>news_old (k:=0) HL.out hn0 hW _ fun j y hy=>by
      rw[List.getElem?_take] at hy;rw[Nat.zero_add];split at hy <;> simp_all
     have T4:Hid (∀ W,Below w.heap.size w W→∀ j u,(cellsI (L.drop k))[j]?=some u→W.cell? ((⟨b,off+k,none⟩:Addr).add j)=some u):=fun W hW=>news_old (k:=k) HL.out hn0 hW _ fun j y hy=>by
      rwa [List.getElem?_drop] at hy
     have hck:¬ c=k:=by omega
     go_wp2
     have HU:Hid (∀ z,L[k]?=some z→x<z):=fun z hz=>by rw[HY.out] at hz;injection hz with hz;have:=HNE.out;omega
     have T5:Hid (k≤1000000∧0+k+1+(n - k)≤1000000):=by show _∧_;omega
     go_region_law (first
      | (refine step_1 (w:=w) (.tmp 33) (.tmp 36) rfl rfl (.slice (some ⟨w.heap.size,0,none⟩) 0 0) x none ?_ b off k c (cellsI (L.take k)) ?_ ?_ T1.out T3.out (ze_ _) T5.out.1 ?_;(first|exact s1_a w x 0|exact s1_a w x 1|exact s1_a w x 2|exact s1_a w x 3|exact s1_a w x 4|exact s1_a w x 5);rfl;rfl;intro v1 w1 h1s;have HS2:=ha_ h1s;clear h1s)
      | (refine step_1 (w:=w) (.tmp 33) (.tmp 36) rfl rfl (.slice (some ⟨w.heap.size,0,none⟩) 0 0) x (some (w.heap.size+1)) ?_ b off k c (cellsI (L.take k)) ?_ ?_ T1.out T3.out (ze_ _) T5.out.1 ?_;(first|exact s1_b w x 0|exact s1_b w x 1|exact s1_b w x 2|exact s1_b w x 3|exact s1_b w x 4|exact s1_b w x 5);rfl;rfl;intro v1 w1 h1s;have HS2:=ha_ h1s;clear h1s)
      | (refine step_1 (w:=w) (.tmp 33) (.tmp 36) rfl rfl (.slice (some ⟨w.heap.size+1,0,none⟩) 0 0) x (some w.heap.size) ?_ b off k c (cellsI (L.take k)) ?_ ?_ T1.out T3.out (ze_ _) T5.out.1 ?_;(first|exact s1_c w x 0|exact s1_c w x 1|exact s1_c w x 2|exact s1_c w x 3|exact s1_c w x 4|exact s1_c w x 5);rfl;rfl;intro v1 w1 h1s;have HS2:=ha_ h1s;clear h1s)
      | (refine step_2 (w:=w) (.tmp 37) (.tmp 39) rfl rfl v1 x w1.heap.size k (cellsI (L.take k)) ?_ ?_ ?_ T5.out.1 ?_;(first|exact s2_a HS2.out 0|exact s2_a HS2.out 1|exact s2_a HS2.out 2|exact s2_a HS2.out 3|exact s2_a HS2.out 4|exact s2_a HS2.out 5);rfl;rfl;intro v2 w2 h2s;have HS3:=ha_ h2s;clear h2s)
      | (refine step_2 (w:=w) (.tmp 37) (.tmp 39) rfl rfl v1 x (w.heap.size+1) k (cellsI (L.take k)) ?_ ?_ ?_ T5.out.1 ?_;(first|exact s2_q HS2.out 0|exact s2_q HS2.out 1|exact s2_q HS2.out 2|exact s2_q HS2.out 3|exact s2_q HS2.out 4|exact s2_q HS2.out 5);rfl;rfl;intro v2 w2 h2s;have HS3:=ha_ h2s;clear h2s)
      | (refine step_2 (w:=w) (.tmp 37) (.tmp 39) rfl rfl v1 x w.heap.size k (cellsI (L.take k)) ?_ ?_ ?_ T5.out.1 ?_;(first|exact s2_q HS2.out 0|exact s2_q HS2.out 1|exact s2_q HS2.out 2|exact s2_q HS2.out 3|exact s2_q HS2.out 4|exact s2_q HS2.out 5);rfl;rfl;intro v2 w2 h2s;have HS3:=ha_ h2s;clear h2s)
      | (refine step_3 (w:=w) (.tmp 40) (.tmp 43) rfl rfl v2 (0+k+1) ([]++cellsI (L.take k)++[.int .i64 x]) ?_ b (off+k) (n - k) (c - k) (cellsI (L.drop k)) ?_ ?_ T2.out T4.out (ze_ _) T5.out.2 ?_;(first|exact s3_q HS3.out 0|exact s3_q HS3.out 1|exact s3_q HS3.out 2|exact s3_q HS3.out 3|exact s3_q HS3.out 4|exact s3_q HS3.out 5);rfl;rfl;intro v3 w3 h3s;have HS4:=ha_ h3s;clear h3s))
     all_goals go_wp2
     all_goals go_ret
     all_goals exact put_done (by rw[HL.out.len];exact hk) HG.out HU.out HS4.out.own HS4.out.bel
  ·have hkn:k=n:=by omega
   subst hkn
   by_cases hck:c=k
   ·have hck2:=hck.symm
    clear hck
    subst hck2
    have z1:(0:Int)≤(k:Int):=by omega
    have T1:Hid ((cellsI (L.take k)).length=k*1):=by show (cellsI (L.take k)).length=k*1;have:=HL.out.len;simp[cellsI];omega
    have T2:Hid ((cellsI (L.drop k)).length=0*1):=by show (cellsI (L.drop k)).length=0*1;have:=HL.out.len;simp[cellsI];omega
    have T3:Hid (∀ W,Below w.heap.size w W→∀ j u,(cellsI (L.take k))[j]?=some u→W.cell? ((⟨b,off,none⟩:Addr).add j)=some u):=fun W hW=>news_old (k:=0) HL.out hn0 hW _ fun j y hy=>by
     rw[List.getElem?_take] at hy;rw[Nat.zero_add];split at hy <;> simp_all
    have T4:Hid (∀ W,Below w.heap.size w W→∀ j u,(cellsI (L.drop k))[j]?=some u→W.cell? ((⟨b,off,none⟩:Addr).add j)=some u):=fun W hW j u hu=>by
     rw[List.drop_eq_nil_of_le (by rw[HL.out.len];exact Nat.le_refl _)] at hu;simp[cellsI] at hu
    go_wp2
    have HU:Hid (∀ z,L[k]?=some z→x<z):=fun z hz=>by rw[List.getElem?_eq_none (by rw[HL.out.len];exact Nat.le_refl _)] at hz;cases hz
    have T5:Hid (k≤1000000∧0+k+1+0≤1000000):=by show _∧_;omega
    go_region_law (first
     | (refine step_1 (w:=w) (.tmp 33) (.tmp 36) rfl rfl (.slice (some ⟨w.heap.size,0,none⟩) 0 0) x none ?_ b off k k (cellsI (L.take k)) ?_ ?_ T1.out T3.out (ze_ _) T5.out.1 ?_;(first|exact s1_a w x 0|exact s1_a w x 1|exact s1_a w x 2|exact s1_a w x 3|exact s1_a w x 4|exact s1_a w x 5);rfl;rfl;intro v1 w1 h1s;have HS2:=ha_ h1s;clear h1s)
     | (refine step_1 (w:=w) (.tmp 33) (.tmp 36) rfl rfl (.slice (some ⟨w.heap.size,0,none⟩) 0 0) x (some (w.heap.size+1)) ?_ b off k k (cellsI (L.take k)) ?_ ?_ T1.out T3.out (ze_ _) T5.out.1 ?_;(first|exact s1_b w x 0|exact s1_b w x 1|exact s1_b w x 2|exact s1_b w x 3|exact s1_b w x 4|exact s1_b w x 5);rfl;rfl;intro v1 w1 h1s;have HS2:=ha_ h1s;clear h1s)
     | (refine step_1 (w:=w) (.tmp 33) (.tmp 36) rfl rfl (.slice (some ⟨w.heap.size+1,0,none⟩) 0 0) x (some w.heap.size) ?_ b off k k (cellsI (L.take k)) ?_ ?_ T1.out T3.out (ze_ _) T5.out.1 ?_;(first|exact s1_c w x 0|exact s1_c w x 1|exact s1_c w x 2|exact s1_c w x 3|exact s1_c w x 4|exact s1_c w x 5);rfl;rfl;intro v1 w1 h1s;have HS2:=ha_ h1s;clear h1s)
     | (refine step_2 (w:=w) (.tmp 37) (.tmp 39) rfl rfl v1 x w1.heap.size k (cellsI (L.take k)) ?_ ?_ ?_ T5.out.1 ?_;(first|exact s2_a HS2.out 0|exact s2_a HS2.out 1|exact s2_a HS2.out 2|exact s2_a HS2.out 3|exact s2_a HS2.out 4|exact s2_a HS2.out 5);rfl;rfl;intro v2 w2 h2s;have HS3:=ha_ h2s;clear h2s)
     | (refine step_2 (w:=w) (.tmp 37) (.tmp 39) rfl rfl v1 x (w.heap.size+1) k (cellsI (L.take k)) ?_ ?_ ?_ T5.out.1 ?_;(first|exact s2_q HS2.out 0|exact s2_q HS2.out 1|exact s2_q HS2.out 2|exact s2_q HS2.out 3|exact s2_q HS2.out 4|exact s2_q HS2.out 5);rfl;rfl;intro v2 w2 h2s;have HS3:=ha_ h2s;clear h2s)
     | (refine step_2 (w:=w) (.tmp 37) (.tmp 39) rfl rfl v1 x w.heap.size k (cellsI (L.take k)) ?_ ?_ ?_ T5.out.1 ?_;(first|exact s2_q HS2.out 0|exact s2_q HS2.out 1|exact s2_q HS2.out 2|exact s2_q HS2.out 3|exact s2_q HS2.out 4|exact s2_q HS2.out 5);rfl;rfl;intro v2 w2 h2s;have HS3:=ha_ h2s;clear h2s)
     | (refine step_3 (w:=w) (.tmp 40) (.tmp 43) rfl rfl v2 (0+k+1) ([]++cellsI (L.take k)++[.int .i64 x]) ?_ b off 0 0 (cellsI (L.drop k)) ?_ ?_ T2.out T4.out (ze_ _) T5.out.2 ?_;(first|exact s3_q HS3.out 0|exact s3_q HS3.out 1|exact s3_q HS3.out 2|exact s3_q HS3.out 3|exact s3_q HS3.out 4|exact s3_q HS3.out 5);rfl;rfl;intro v3 w3 h3s;have HS4:=ha_ h3s;clear h3s))
    all_goals go_wp2
    all_goals go_ret
    all_goals exact put_done (by rw[HL.out.len];exact hk) HG.out HU.out HS4.out.own HS4.out.bel
   ·skip
    have z1:(0:Int)≤(k:Int):=by omega
    have z2:(k:Int)≤(c:Int):=by omega
    have T1:Hid ((cellsI (L.take k)).length=k*1):=by show (cellsI (L.take k)).length=k*1;have:=HL.out.len;simp[cellsI];omega
    have T2:Hid ((cellsI (L.drop k)).length=0*1):=by show (cellsI (L.drop k)).length=0*1;have:=HL.out.len;simp[cellsI];omega
    have T3:Hid (∀ W,Below w.heap.size w W→∀ j u,(cellsI (L.take k))[j]?=some u→W.cell? ((⟨b,off,none⟩:Addr).add j)=some u):=fun W hW=>news_old (k:=0) HL.out hn0 hW _ fun j y hy=>by
     rw[List.getElem?_take] at hy;rw[Nat.zero_add];split at hy <;> simp_all
    have T4:Hid (∀ W,Below w.heap.size w W→∀ j u,(cellsI (L.drop k))[j]?=some u→W.cell? ((⟨b,off+k,none⟩:Addr).add j)=some u):=fun W hW=>news_old (k:=k) HL.out hn0 hW _ fun j y hy=>by
     rwa [List.getElem?_drop] at hy
    go_wp2
    have HU:Hid (∀ z,L[k]?=some z→x<z):=fun z hz=>by rw[List.getElem?_eq_none (by rw[HL.out.len];exact Nat.le_refl _)] at hz;cases hz
    have T5:Hid (k≤1000000∧0+k+1+0≤1000000):=by show _∧_;omega
    go_region_law (first
     | (refine step_1 (w:=w) (.tmp 33) (.tmp 36) rfl rfl (.slice (some ⟨w.heap.size,0,none⟩) 0 0) x none ?_ b off k c (cellsI (L.take k)) ?_ ?_ T1.out T3.out (ze_ _) T5.out.1 ?_;(first|exact s1_a w x 0|exact s1_a w x 1|exact s1_a w x 2|exact s1_a w x 3|exact s1_a w x 4|exact s1_a w x 5);rfl;rfl;intro v1 w1 h1s;have HS2:=ha_ h1s;clear h1s)
     | (refine step_1 (w:=w) (.tmp 33) (.tmp 36) rfl rfl (.slice (some ⟨w.heap.size,0,none⟩) 0 0) x (some (w.heap.size+1)) ?_ b off k c (cellsI (L.take k)) ?_ ?_ T1.out T3.out (ze_ _) T5.out.1 ?_;(first|exact s1_b w x 0|exact s1_b w x 1|exact s1_b w x 2|exact s1_b w x 3|exact s1_b w x 4|exact s1_b w x 5);rfl;rfl;intro v1 w1 h1s;have HS2:=ha_ h1s;clear h1s)
     | (refine step_1 (w:=w) (.tmp 33) (.tmp 36) rfl rfl (.slice (some ⟨w.heap.size+1,0,none⟩) 0 0) x (some w.heap.size) ?_ b off k c (cellsI (L.take k)) ?_ ?_ T1.out T3.out (ze_ _) T5.out.1 ?_;(first|exact s1_c w x 0|exact s1_c w x 1|exact s1_c w x 2|exact s1_c w x 3|exact s1_c w x 4|exact s1_c w x 5);rfl;rfl;intro v1 w1 h1s;have HS2:=ha_ h1s;clear h1s)
     | (refine step_2 (w:=w) (.tmp 37) (.tmp 39) rfl rfl v1 x w1.heap.size k (cellsI (L.take k)) ?_ ?_ ?_ T5.out.1 ?_;(first|exact s2_a HS2.out 0|exact s2_a HS2.out 1|exact s2_a HS2.out 2|exact s2_a HS2.out 3|exact s2_a HS2.out 4|exact s2_a HS2.out 5);rfl;rfl;intro v2 w2 h2s;have HS3:=ha_ h2s;clear h2s)
     | (refine step_2 (w:=w) (.tmp 37) (.tmp 39) rfl rfl v1 x (w.heap.size+1) k (cellsI (L.take k)) ?_ ?_ ?_ T5.out.1 ?_;(first|exact s2_q HS2.out 0|exact s2_q HS2.out 1|exact s2_q HS2.out 2|exact s2_q HS2.out 3|exact s2_q HS2.out 4|exact s2_q HS2.out 5);rfl;rfl;intro v2 w2 h2s;have HS3:=ha_ h2s;clear h2s)
     | (refine step_2 (w:=w) (.tmp 37) (.tmp 39) rfl rfl v1 x w.heap.size k (cellsI (L.take k)) ?_ ?_ ?_ T5.out.1 ?_;(first|exact s2_q HS2.out 0|exact s2_q HS2.out 1|exact s2_q HS2.out 2|exact s2_q HS2.out 3|exact s2_q HS2.out 4|exact s2_q HS2.out 5);rfl;rfl;intro v2 w2 h2s;have HS3:=ha_ h2s;clear h2s)
     | (refine step_3 (w:=w) (.tmp 40) (.tmp 43) rfl rfl v2 (0+k+1) ([]++cellsI (L.take k)++[.int .i64 x]) ?_ b (off+k) 0 (c - k) (cellsI (L.drop k)) ?_ ?_ T2.out T4.out (ze_ _) T5.out.2 ?_;(first|exact s3_q HS3.out 0|exact s3_q HS3.out 1|exact s3_q HS3.out 2|exact s3_q HS3.out 3|exact s3_q HS3.out 4|exact s3_q HS3.out 5);rfl;rfl;intro v3 w3 h3s;have HS4:=ha_ h3s;clear h3s))
    all_goals go_wp2
    all_goals go_ret
    all_goals exact put_done (by rw[HL.out.len];exact hk) HG.out HU.out HS4.out.own HS4.out.bel

def seen (gs:List Given) (i:Nat):List Rg:=(gs.take i).flatMap fun g=>M.usable g.l
theorem usable_len (l:List Rg):(M.usable l).length≤400:=by
 unfold M.usable;split
 ·assumption
 ·simp
theorem seen_succ {gs:List Given}{i:Nat}{g:Given}(h:gs[i]?=some g):seen gs (i+1)=seen gs i++M.usable g.l:=by
 obtain ⟨hi,hg⟩:=List.getElem?_eq_some_iff.1 h
 unfold seen
 rw[List.take_succ_eq_append_getElem hi,hg];simp
theorem seen_len (gs:List Given) (i:Nat):(seen gs i).length≤400*i:=by
 induction i with
 | zero=>simp[seen]
 | succ i ih =>
  cases h:gs[i]? with
  | none =>
   have:gs.length≤i:=List.getElem?_eq_none_iff.1 h
   have e:seen gs (i+1)=seen gs i:=by unfold seen;rw[List.take_of_length_le (by omega),List.take_of_length_le this]
   rw[e];omega
  | some g=>rw[seen_succ h,List.length_append];have:=usable_len g.l;omega
theorem seen_le (gs:List Given){i k:Nat}(h:i<k):(seen gs (i+1)).length≤(seen gs k).length:=by
 obtain ⟨m,rfl⟩:∃ m,k=i+1+m:=⟨k - (i+1),by omega⟩
 clear h
 induction m with
 | zero=>simp
 | succ m ih =>
  refine Nat.le_trans ih ?_
  show _≤(seen gs (i+1+m+1)).length
  cases hg:gs[i+1+m]? with
  | none =>
   have hl:gs.length≤i+1+m:=List.getElem?_eq_none_iff.1 hg
   have e:seen gs (i+1+m+1)=seen gs (i+1+m):=by unfold seen;rw[List.take_of_length_le (by omega),List.take_of_length_le hl]
   rw[e];exact Nat.le_refl _
  | some g=>rw[seen_succ hg,List.length_append];omega
def Out (w:World) (S:List Rg) (v:Value) (wr:World):Prop:=∃ b off n c E,v=.slice (some ⟨b,off,none⟩) n c∧RdI wr wr.heap.size (some ⟨b,off,none⟩) n c E∧M.EdgeOf S E∧0<n∧Below w.heap.size w wr
theorem out_of {w wr:World}{S:List Rg}{A:Option Addr}{n c:Nat}{E:List Int}(h:RdI wr wr.heap.size A n c E) (hE:M.EdgeOf S E) (hb:Below w.heap.size w wr):Out w S (.slice A n c) wr:=by
 have h0:0<n:=by
  rw[← h.len]
  cases E with
  | nil=>exact absurd hE.zero (by simp)
  | cons x t=>simp
 obtain ⟨b,off,rfl,_⟩:=h.at_ h0
 exact ⟨b,off,n,c,E,rfl,h,hE,h0,hb⟩
theorem put_two {w:World}{v:Value}{wr:World}{S:List Rg}(h:Out w S v wr) (hS:S.length≤20000):∃ b off n c E,v=.slice (some ⟨b,off,none⟩) n c∧RdI wr wr.heap.size (some ⟨b,off,none⟩) n c E∧M.EdgeOf S E∧0<n∧n≤100000∧Below w.heap.size w wr:=by
 obtain ⟨b,off,n,c,E,e,h1,h2,h3,h4⟩:=h
 exact ⟨b,off,n,c,E,e,h1,h2,h3,by have:=h2.len;have:=h1.len;omega,h4⟩
theorem put_rise {E R:List Int}{S:List Rg}{x:Int}(hE:M.EdgeOf S E) (h:M.IsPut E x R) (hl:E.length≤50000):0<R.length∧R.length≤50001:=by
 have:=h.len
 refine ⟨?_,by omega⟩
 have:=(h.mem 0).2 (.inl hE.zero)
 cases R with
 | nil=>simp at this
 | cons y t=>simp
set_option maxHeartbeats 2000000 in
theorem edges_any {w:World}{AS:Option Addr}{ns cs:Nat}{gs:List Given}(hg:RdS w w.heap.size AS ns cs gs) (hsz:(seen gs ns).length≤20000) :
  Calls Tryz.prog 120 #[.slice AS ns cs] w fun e w' => ∃ v,e=.returned v∧Out w (seen gs ns) v w' := by
 have hns:ns≤maxLen:=Nat.le_trans hg.cap hg.capm
 unfold maxLen at hns
 have HSZ:=ha_ hsz
 clear hsz
 have HG:=ha_ hg
 clear hg
 have H0:Hid (Out w (seen gs 0) (.slice (some ⟨w.heap.size,0,none⟩) 1 1) (w.alloc (.cells #[.int .i64 0] 3))):=by
  have ho:(w.alloc (.cells #[.int .i64 0] 3)).ownsRow w.heap.size 3 1 (.slice (some ⟨w.heap.size,0,none⟩) 1 1) 1 (cellsI [0]):=World.ownsRow_lit w #[.int .i64 0] 1 (Nat.le_refl _) (by simp[maxLen]) rfl
  exact out_of (RdI.of_own ho) M.EdgeOf.start (qd_ w _)
 go_enter Tryz.func120,Tryz.ntmps120
 go_wp2_with fail
 go_loopw [3,4] (fun v i wr=>∃ k:Nat,k≤ns∧i=.int .i64 k∧Out w (seen gs k) v wr) (fun _ i _=>ns - (intOf i).toNat)
 case atStart=>exact ⟨0,Nat.zero_le _,rfl,H0.out⟩
 case round =>
  obtain ⟨i,hi,rfl,hout⟩:=hrel
  have HO:=ha_ hout
  clear hout H0
  by_cases hlt:i<ns
  ·obtain ⟨N,oS,g,rfl,hN,hgi,ci,hrd⟩:=HG.out.got hlt
   have HGI:=ha_ hgi
   have HCI:=ha_ ci
   have HRD:=ha_ hrd
   clear hgi ci hrd
   obtain ⟨A,n,c,l⟩:=g
   have hn:n≤maxLen:=Nat.le_trans HRD.out.cap HRD.out.capm
   unfold maxLen at hn
   have HS:Hid (Out w (seen gs i++(M.usable l).take 0) u3 wr):=by show Out w _ u3 wr;simpa using HO.out
   have HSL:Hid ((seen gs i++M.usable l).length≤20000):=by
    show (seen gs i++M.usable l).length≤20000
    rw[← seen_succ HGI.out];exact Nat.le_trans (seen_le gs hlt) HSZ.out
   clear HO
   go_wp2_with fail
   go_loopw [3,5] (fun v k wx=>∃ j:Nat,j≤n∧k=.int .i64 j∧Out w (seen gs i++(M.usable l).take j) v wx) (fun _ k _=>n - (intOf k).toNat)
   case atStart=>exact ⟨0,Nat.zero_le _,rfl,HS.out⟩
   case round =>
    obtain ⟨j,hj,rfl,hout⟩:=hrel
    have HO:=ha_ hout
    clear hout HS
    have HBW:Hid (Below w.heap.size w wr):=by obtain ⟨_,_,_,_,_,_,_,_,_,hb⟩:=HO.out;exact hb
    have ci:wr.cell? ⟨N,oS+i,none⟩=some (.slice A n c):=(HBW.out.cell (p:=⟨N,oS+i,none⟩) hN).trans HCI.out
    by_cases hin:j<n∧n≤400
    ·obtain ⟨hjn,hn4⟩:=hin
     obtain ⟨b,off,lo,hi', rfl,hb,hr,k1,k2⟩:=HRD.out.got hjn
     have d1:=(HBW.out.cell (p:=⟨b,off+j*2,none⟩) hb).trans k1
     have d2:=(HBW.out.cell (p:=⟨b,off+j*2+1,none⟩) hb).trans k2
     have hul:(M.usable l)=l:=by unfold M.usable;rw[if_pos (by rw[HRD.out.len];exact hn4)]
     obtain ⟨hjl,hrj⟩:=List.getElem?_eq_some_iff.1 hr
     have hst:seen gs i++(M.usable l).take (j+1)=(seen gs i++(M.usable l).take j)++[(lo,hi')]:=by
      rw[hul,List.take_succ_eq_append_getElem hjl,hrj,List.append_assoc]
     have HST:=ha_ hst
     have hSB:(seen gs i++(M.usable l).take j).length≤20000:=by
      have:=HSL.out;simp at *;omega
     obtain ⟨bo,oo,no,co,E,rfl,hRE,hE,hno,hno2,_⟩:=put_two HO.out hSB
     have RE:=ha_ hRE
     have HE:=ha_ hE
     have HEL:Hid (E.length≤50000):=by show E.length≤50000;have:=hE.len;omega
     clear hRE hE hSB hst hul hr hrj k1 k2 HO
     generalize seen gs i++(M.usable l).take j=S at *
     by_cases p1:0≤lo∧lo≤1114111 <;> by_cases p2:-1≤hi' ∧ hi' < 1114111
     ·obtain ⟨p1a,p1b⟩:=p1
      obtain ⟨p2a,p2b⟩:=p2
      go_wp2_with fail
      refine (put_any (RE.out.on (qd_ wr _)) hno hno2 lo).mono ?_
      rintro e w2 ⟨A2,n2,c2,R2,rfl,hR2,hp2,hb2⟩
      obtain ⟨l2a,l2b⟩:=put_rise HE.out hp2 HEL.out
      obtain ⟨b2,o2,rfl,_⟩:=hR2.at_ (by rw[← hR2.len];exact l2a)
      have hn2a:0<n2:=by rw[← hR2.len];exact l2a
      have hn2b:n2≤100000:=by rw[← hR2.len];omega
      have B2:=ha_ ((qd_ wr (.cells #[.int .i64 lo,.int .i64 hi'] 108)).trans (hb2.mono (qd_ wr _).size))
      have R2h:=ha_ hR2
      have PI1:Hid (M.putIf (0≤lo∧lo≤1114111) E lo R2):=⟨fun _=>hp2,fun h=>absurd ⟨p1a,p1b⟩ h⟩
      have e2:w2.cell? ⟨wr.heap.size,1,none⟩=some (.int .i64 hi'):=(hb2.cell (p:=⟨wr.heap.size,1,none⟩) (by simp)).trans (by simp)
      clear hR2 hp2 hb2 l2a l2b
      go_wp2_with fail
      refine (put_any R2h.out hn2a hn2b (hi' + 1)).mono ?_
      rintro e w3 ⟨A3,n3,c3,R3,rfl,hR3,hp3,hb3⟩
      have R3h:=ha_ hR3
      have PI2:Hid (M.putIf (-1≤hi' ∧ hi' < 1114111) R2 (hi' + 1) R3):=⟨fun _=>hp3,fun h=>absurd ⟨p2a,p2b⟩ h⟩
      have B3:=ha_ (B2.out.trans (hb3.mono B2.out.size))
      clear hR3 hp3 hb3
      go_wp2
      go_roundw
      case rel=>exact ⟨j+1,by omega,by go_num,by rw[HST.out];exact out_of R3h.out (HE.out.step PI1.out PI2.out) (HBW.out.trans (B3.out.mono HBW.out.size))⟩
      case measure=>simp[intOf];omega
     ·obtain ⟨p1a,p1b⟩:=p1
      have NP2:=ha_ p2
      rcases (show hi' < -1∨(-1≤hi' ∧ 1114111≤hi') by omega) with u2|⟨u2,u2'⟩
      ·go_wp2_with fail
       refine (put_any (RE.out.on (qd_ wr _)) hno hno2 lo).mono ?_
       rintro e w2 ⟨A2,n2,c2,R2,rfl,hR2,hp2,hb2⟩
       obtain ⟨l2a,l2b⟩:=put_rise HE.out hp2 HEL.out
       obtain ⟨b2,o2,rfl,_⟩:=hR2.at_ (by rw[← hR2.len];exact l2a)
       have hn2a:0<n2:=by rw[← hR2.len];exact l2a
       have hn2b:n2≤100000:=by rw[← hR2.len];omega
       have B2:=ha_ ((qd_ wr (.cells #[.int .i64 lo,.int .i64 hi'] 108)).trans (hb2.mono (qd_ wr _).size))
       have R2h:=ha_ hR2
       have PI1:Hid (M.putIf (0≤lo∧lo≤1114111) E lo R2):=⟨fun _=>hp2,fun h=>absurd ⟨p1a,p1b⟩ h⟩
       have e2:w2.cell? ⟨wr.heap.size,1,none⟩=some (.int .i64 hi'):=(hb2.cell (p:=⟨wr.heap.size,1,none⟩) (by simp)).trans (by simp)
       clear hR2 hp2 hb2 l2a l2b
       have PI2:Hid (M.putIf (-1≤hi' ∧ hi' < 1114111) R2 (hi' + 1) R2):=⟨fun h=>absurd h NP2.out,fun _=>rfl⟩
       go_wp2
       go_roundw
       case rel=>exact ⟨j+1,by omega,by go_num,by rw[HST.out];exact out_of R2h.out (HE.out.step PI1.out PI2.out) (HBW.out.trans (B2.out.mono HBW.out.size))⟩
       case measure=>simp[intOf];omega
      ·go_wp2_with fail
       refine (put_any (RE.out.on (qd_ wr _)) hno hno2 lo).mono ?_
       rintro e w2 ⟨A2,n2,c2,R2,rfl,hR2,hp2,hb2⟩
       obtain ⟨l2a,l2b⟩:=put_rise HE.out hp2 HEL.out
       obtain ⟨b2,o2,rfl,_⟩:=hR2.at_ (by rw[← hR2.len];exact l2a)
       have hn2a:0<n2:=by rw[← hR2.len];exact l2a
       have hn2b:n2≤100000:=by rw[← hR2.len];omega
       have B2:=ha_ ((qd_ wr (.cells #[.int .i64 lo,.int .i64 hi'] 108)).trans (hb2.mono (qd_ wr _).size))
       have R2h:=ha_ hR2
       have PI1:Hid (M.putIf (0≤lo∧lo≤1114111) E lo R2):=⟨fun _=>hp2,fun h=>absurd ⟨p1a,p1b⟩ h⟩
       have e2:w2.cell? ⟨wr.heap.size,1,none⟩=some (.int .i64 hi'):=(hb2.cell (p:=⟨wr.heap.size,1,none⟩) (by simp)).trans (by simp)
       clear hR2 hp2 hb2 l2a l2b
       have PI2:Hid (M.putIf (-1≤hi' ∧ hi' < 1114111) R2 (hi' + 1) R2):=⟨fun h=>absurd h NP2.out,fun _=>rfl⟩
       go_wp2
       go_roundw
       case rel=>exact ⟨j+1,by omega,by go_num,by rw[HST.out];exact out_of R2h.out (HE.out.step PI1.out PI2.out) (HBW.out.trans (B2.out.mono HBW.out.size))⟩
       case measure=>simp[intOf];omega
     ·obtain ⟨p2a,p2b⟩:=p2
      have NP1:=ha_ p1
      rcases (show lo<0∨(0≤lo∧1114111<lo) by omega) with u1|⟨u1,u1'⟩
      ·have PI1:Hid (M.putIf (0≤lo∧lo≤1114111) E lo E):=⟨fun h=>absurd h NP1.out,fun _=>rfl⟩
       go_wp2_with fail
       refine (put_any (RE.out.on (qd_ wr _)) hno hno2 (hi' + 1)).mono ?_
       rintro e w3 ⟨A3,n3,c3,R3,rfl,hR3,hp3,hb3⟩
       have R3h:=ha_ hR3
       have PI2:Hid (M.putIf (-1≤hi' ∧ hi' < 1114111) E (hi' + 1) R3):=⟨fun _=>hp3,fun h=>absurd ⟨p2a,p2b⟩ h⟩
       have B3:=ha_ ((qd_ wr (.cells #[.int .i64 lo,.int .i64 hi'] 108)).trans (hb3.mono (qd_ wr _).size))
       clear hR3 hp3 hb3
       go_wp2
       go_roundw
       case rel=>exact ⟨j+1,by omega,by go_num,by rw[HST.out];exact out_of R3h.out (HE.out.step PI1.out PI2.out) (HBW.out.trans (B3.out.mono HBW.out.size))⟩
       case measure=>simp[intOf];omega
      ·have PI1:Hid (M.putIf (0≤lo∧lo≤1114111) E lo E):=⟨fun h=>absurd h NP1.out,fun _=>rfl⟩
       go_wp2_with fail
       refine (put_any (RE.out.on (qd_ wr _)) hno hno2 (hi' + 1)).mono ?_
       rintro e w3 ⟨A3,n3,c3,R3,rfl,hR3,hp3,hb3⟩
       have R3h:=ha_ hR3
       have PI2:Hid (M.putIf (-1≤hi' ∧ hi' < 1114111) E (hi' + 1) R3):=⟨fun _=>hp3,fun h=>absurd ⟨p2a,p2b⟩ h⟩
       have B3:=ha_ ((qd_ wr (.cells #[.int .i64 lo,.int .i64 hi'] 108)).trans (hb3.mono (qd_ wr _).size))
       clear hR3 hp3 hb3
       go_wp2
       go_roundw
       case rel=>exact ⟨j+1,by omega,by go_num,by rw[HST.out];exact out_of R3h.out (HE.out.step PI1.out PI2.out) (HBW.out.trans (B3.out.mono HBW.out.size))⟩
       case measure=>simp[intOf];omega
     ·have NP1:=ha_ p1
      have NP2:=ha_ p2
      rcases (show lo<0∨(0≤lo∧1114111<lo) by omega) with u1|⟨u1,u1'⟩
      ·rcases (show hi' < -1∨(-1≤hi' ∧ 1114111≤hi') by omega) with u2|⟨u2,u2'⟩
       ·have PI1:Hid (M.putIf (0≤lo∧lo≤1114111) E lo E):=⟨fun h=>absurd h NP1.out,fun _=>rfl⟩
        have PI2:Hid (M.putIf (-1≤hi' ∧ hi' < 1114111) E (hi' + 1) E):=⟨fun h=>absurd h NP2.out,fun _=>rfl⟩
        go_wp2
        go_roundw
        case rel=>exact ⟨j+1,by omega,by go_num,by rw[HST.out];exact out_of (RE.out.on (qd_ wr (.cells #[.int .i64 lo,.int .i64 hi'] 108))) (HE.out.step PI1.out PI2.out) (HBW.out.trans ((qd_ wr (.cells #[.int .i64 lo,.int .i64 hi'] 108)).mono HBW.out.size))⟩
        case measure=>simp[intOf];omega
       ·have PI1:Hid (M.putIf (0≤lo∧lo≤1114111) E lo E):=⟨fun h=>absurd h NP1.out,fun _=>rfl⟩
        have PI2:Hid (M.putIf (-1≤hi' ∧ hi' < 1114111) E (hi' + 1) E):=⟨fun h=>absurd h NP2.out,fun _=>rfl⟩
        go_wp2
        go_roundw
        case rel=>exact ⟨j+1,by omega,by go_num,by rw[HST.out];exact out_of (RE.out.on (qd_ wr (.cells #[.int .i64 lo,.int .i64 hi'] 108))) (HE.out.step PI1.out PI2.out) (HBW.out.trans ((qd_ wr (.cells #[.int .i64 lo,.int .i64 hi'] 108)).mono HBW.out.size))⟩
        case measure=>simp[intOf];omega
      ·rcases (show hi' < -1∨(-1≤hi' ∧ 1114111≤hi') by omega) with u2|⟨u2,u2'⟩
       ·have PI1:Hid (M.putIf (0≤lo∧lo≤1114111) E lo E):=⟨fun h=>absurd h NP1.out,fun _=>rfl⟩
        have PI2:Hid (M.putIf (-1≤hi' ∧ hi' < 1114111) E (hi' + 1) E):=⟨fun h=>absurd h NP2.out,fun _=>rfl⟩
        go_wp2
        go_roundw
        case rel=>exact ⟨j+1,by omega,by go_num,by rw[HST.out];exact out_of (RE.out.on (qd_ wr (.cells #[.int .i64 lo,.int .i64 hi'] 108))) (HE.out.step PI1.out PI2.out) (HBW.out.trans ((qd_ wr (.cells #[.int .i64 lo,.int .i64 hi'] 108)).mono HBW.out.size))⟩
        case measure=>simp[intOf];omega
       ·have PI1:Hid (M.putIf (0≤lo∧lo≤1114111) E lo E):=⟨fun h=>absurd h NP1.out,fun _=>rfl⟩
        have PI2:Hid (M.putIf (-1≤hi' ∧ hi' < 1114111) E (hi' + 1) E):=⟨fun h=>absurd h NP2.out,fun _=>rfl⟩
        go_wp2
        go_roundw
        case rel=>exact ⟨j+1,by omega,by go_num,by rw[HST.out];exact out_of (RE.out.on (qd_ wr (.cells #[.int .i64 lo,.int .i64 hi'] 108))) (HE.out.step PI1.out PI2.out) (HBW.out.trans ((qd_ wr (.cells #[.int .i64 lo,.int .i64 hi'] 108)).mono HBW.out.size))⟩
        case measure=>simp[intOf];omega
    ·have HFIN:Hid (Out w (seen gs (i+1)) u3 wr):=by
      show Out w (seen gs (i+1)) u3 wr
      rw[seen_succ HGI.out]
      have:(M.usable l).take j=M.usable l:=by
       unfold M.usable
       by_cases h4:l.length≤400
       ·rw[if_pos h4];exact List.take_of_length_le (by have:=HRD.out.len;omega)
       ·rw[if_neg h4];simp
      have h:=HO.out
      rw[this] at h
      exact h
     clear HO
     by_cases h4:j<n
     ·have h5:400<n:=by omega
      go_wp2
      go_roundw
      case rel=>exact ⟨i+1,by omega,by go_num,HFIN.out⟩
      case measure=>simp[intOf];omega
     ·go_wp2
      go_roundw
      case rel=>exact ⟨i+1,by omega,by go_num,HFIN.out⟩
      case measure=>simp[intOf];omega
  ·have hi2:i=ns:=by omega
   have hi3:=hi2.symm
   clear hi2
   subst hi3
   obtain ⟨b,off,n,c,E,rfl,h1,h2,h3,h4⟩:=HO.out
   have HF:=ha_ HO.out
   clear h1 h2 h3 h4 HO
   go_wp2
   go_ret
   exact ⟨_,rfl,HF.out⟩

set_option maxHeartbeats 1000000 in
theorem rhas_any {w:World}{B:Nat}{A:Option Addr}{n c:Nat}{a:List Rg}(ha:Rd w B A n c a) (x:Int) :
  Calls Tryz.prog 36 #[.slice A n c,.int .i64 x] w fun e w' => e=.returned (.bool (M.hasB a x))∧w=w' := by
 have hn:n≤maxLen:=Nat.le_trans ha.cap ha.capm
 unfold maxLen at hn
 have hl:=ha.len
 have HR:=ha_ ha
 clear ha
 by_cases hbad:x<0∨1114111<x∨400<n
 ·have HQ:Hid (M.hasB a x=false):=by
   show M.hasB a x=false
   unfold M.hasB M.isch
   rcases hbad with g|g|g
   ·rw[decide_eq_false (show ¬ 0≤x by omega)];simp
   ·rw[decide_eq_false (show ¬ x≤1114111 by omega)];simp
   ·rw[decide_eq_false (show ¬ a.length≤400 by omega)];rfl
  clear hl HR
  by_cases g1:x<0
  ·go_enter Tryz.func36,Tryz.ntmps36
   go_wp2
   go_ret
   exact ⟨by rw[HQ.out];rfl,rfl⟩
  ·by_cases g2:1114111<x
   ·go_enter Tryz.func36,Tryz.ntmps36
    go_wp2
    go_ret
    exact ⟨by rw[HQ.out];rfl,rfl⟩
   ·have g3:400<n:=by omega
    go_enter Tryz.func36,Tryz.ntmps36
    go_wp2
    go_ret
    exact ⟨by rw[HQ.out];rfl,rfl⟩
 ·have g1:¬ x<0:=by omega
  have g2:¬ 1114111<x:=by omega
  have g3:¬ 400<n:=by omega
  have HQ:Hid (M.hasB a x=M.covb a x):=by show M.hasB a x=M.covb a x;unfold M.hasB M.isch;rw[decide_eq_true (show a.length≤400 by omega),decide_eq_true (show 0≤x by omega),decide_eq_true (show x≤1114111 by omega)];simp
  clear hl hbad
  go_enter Tryz.func36,Tryz.ntmps36
  go_wp2_with fail
  go_loop [5] (fun i=>∃ k:Nat,k≤n∧i=.int .i64 k∧M.covb (a.take k) x=false) (fun i=>n - (intOf i).toNat)
  case atStart=>exact ⟨0,Nat.zero_le _,rfl,rfl⟩
  case round =>
   obtain ⟨k,hk,rfl,hg⟩:=hrel
   have HG:=ha_ hg
   clear hg
   by_cases hlt:k<n
   ·obtain ⟨b,off,lo,hi,rfl,_,hr,k1,k2⟩:=HR.out.got hlt
    have HK:=ha_ hr
    clear hr
    by_cases h1:lo≤x
    ·by_cases h2:x≤hi
     ·have HF:Hid (M.covb a x=true):=by
       show M.covb a x=true
       rw[M.covb_iff];exact ⟨(lo,hi),List.mem_of_getElem? HK.out,h1,h2⟩
      go_wp2
      go_ret
      exact ⟨by rw[HQ.out,HF.out];rfl,rfl⟩
     ·have HF:Hid (M.covb (a.take (k+1)) x=false):=by
       show M.covb (a.take (k+1)) x=false
       rw[cov_take HK.out,HG.out,decide_eq_false h2];simp
      go_wp2
      go_round
      case rel=>exact ⟨k+1,by omega,by go_num,HF.out⟩
      case measure=>simp[intOf];omega
    ·have HF:Hid (M.covb (a.take (k+1)) x=false):=by
      show M.covb (a.take (k+1)) x=false
      rw[cov_take HK.out,HG.out,decide_eq_false h1];simp
     go_wp2
     go_round
     case rel=>exact ⟨k+1,by omega,by go_num,HF.out⟩
     case measure=>simp[intOf];omega
   ·have HF:Hid (M.covb a x=false):=by
     show M.covb a x=false
     have:=HG.out
     rwa [List.take_of_length_le (by rw[HR.out.len];omega)] at this
    go_wp2
    go_ret
    exact ⟨by rw[HQ.out,HF.out];rfl,rfl⟩
theorem rhas_quiet {w:World}{B:Nat}{A:Option Addr}{n c:Nat}{a:List Rg}(ha:Rd w B A n c a) (x:Int) (q:Nat) :
  Calls Tryz.prog 36 #[.slice A n c,.int .i64 x] (w.drewN q) fun e w'' => e=.returned (.bool (M.hasB a x))∧∃ m,w'' = w.drewN m :=
 (rhas_any (ha.drewN q) x).mono fun _ _ ⟨he,hw⟩=>⟨he,q,hw.symm⟩

def kindTl (kind:Int) (tl:Bool→Bool→Bool):Prop:=(kind=0∧tl=fun x y=>x || y)∨(kind=1∧tl=fun x y=>x && y)∨(kind=2∧tl=fun x y=>x && !y)
def fAt (E:List Int) (i:Nat):Int:=match E[i]? with|some y=>y|none=>1114112
theorem fAt_next (E:List Int) (i:Nat):M.nextE E i=fAt E (i+1):=rfl
def Gath (w2:World) (tl:Bool→Bool→Bool) (a b:List Rg) (f:Int) (v:Value) (wr:World):Prop :=
 ∃ A n c L,v=.slice A n c∧Own wr w2.heap.size A n c L∧M.Swept f L (fun c=>tl (M.hasB a c) (M.hasB b c))∧Below w2.heap.size w2 wr
theorem gath_of {w2 w3:World}{tl:Bool→Bool→Bool}{a b L:List Rg}{g:Int}{v:Value}{k:Nat}(h:w3.ownsRow w2.heap.size 108 2 v k (cellsR L)) (hs:M.Swept g L (fun c=>tl (M.hasB a c) (M.hasB b c))) (hb:Below w2.heap.size w2 w3):Gath w2 tl a b g v w3:=by
 obtain ⟨A,n,c,he,ho,hb'⟩:=left_of h hb
 injection he with he
 exact ⟨A,n,c,L,he,ho,hs,hb'⟩
theorem store_own {wr:World}{B g n1 c:Nat}{I:List Rg}{s:Rg}(ho:Own wr B (some ⟨g,0,none⟩) n1 c (I++[s])) (hl:n1 - 1=I.length) (q:Nat) (t:Int) :
  ((wr.drewN q).setCell ⟨g,(n1 - 1)*2+1,none⟩ (.int .i64 t)).ownsRow B 108 2 (.slice (some ⟨g,0,none⟩) n1 c) n1 (cellsR (I++[(s.1,t)])):=by
 have:=((zf_ ho q).stored ((n1 - 1)*2+1) (.int .i64 t)).1
 rw[hl] at this ⊢
 rwa [set_snoc] at this
theorem swept_last {f:Int}{I:List Rg}{s:Rg}{S:Int→Bool}(h:M.Swept f (I++[s]) S):s.2+1≤f∧0≤s.2∧s.2≤1114111:=by
 have hm:=M.LF_mem h.least s (by simp)
 have hc:M.covb (I++[s]) s.2=true:=by rw[M.covb_append];simp[M.covb,M.inR];omega
 rw[h.cov] at hc
 simp only[Bool.and_eq_true,decide_eq_true_eq] at hc
 omega
theorem join_touch {f t:Int}{I:List Rg}{s:Rg}(h1:s.2+1=f) (h2:f≤t):M.joinL (I++[s]) (f,t)=I++[(s.1,t)]:=by
 rw[M.joinL_snoc,if_pos (by show f≤s.2+1;omega)]
 have:max s.2 t=t:=by omega
 show I++[(s.1,max s.2 t)]=_
 rw[this]
theorem join_apart {f t:Int}{I:List Rg}{s:Rg}(h1:s.2+1<f):M.joinL (I++[s]) (f,t)=I++[s]++[(f,t)]:=by
 rw[M.joinL_snoc,if_neg (by show ¬ f≤s.2+1;omega)]
def FreshO (w:World) (P:List Rg→Prop) (e:Ending) (w' : World):Prop:=∃ A n c L,e=.returned (.slice A n c)∧P L∧Own w' w.heap.size A n c L∧Below w.heap.size w w'
theorem own_from {w' : World}{B B' : Nat}{A:Option Addr}{n c:Nat}{L:List Rg}(h:Own w' B A n c L) (hb:B' ≤ B):Own w' B' A n c L:=by
 refine ⟨h.1,?_⟩
 rcases h.2 with h1|⟨g,cap,cur,h1,h2,h3⟩
 ·exact .inl h1
 ·exact .inr ⟨g,cap,cur,h1,Nat.le_trans hb h2,h3⟩
set_option maxHeartbeats 4000000 in
set_option maxRecDepth 100000 in
theorem made_own {w:World}{A B:Option Addr}{n m c d:Nat}{a b:List Rg}(ha:Rd w w.heap.size A n c a) (hb:Rd w w.heap.size B m d b) (kind:Int) (tl:Bool→Bool→Bool) (hk:kindTl kind tl) :
  Calls Tryz.prog 99 #[.slice A n c,.slice B m d,.int .i64 kind] w (FreshO w (IsTold tl a b)):=by
 obtain ⟨i0,hi0,hz0,hz1,hz2⟩:=info_parts info_R
 have hn:n≤maxLen:=Nat.le_trans ha.cap ha.capm
 have hm:m≤maxLen:=Nat.le_trans hb.cap hb.capm
 unfold maxLen at hn hm
 have HA:=ha_ ha
 have HB:=ha_ hb
 have HK:=ha_ hk
 clear ha hb hk
 have HG:Hid (RdS (w.alloc (.cells #[.slice A n c,.slice B m d] 44)) (w.alloc (.cells #[.slice A n c,.slice B m d] 44)).heap.size (some ⟨w.heap.size,0,none⟩) 2 2 [⟨A,n,c,a⟩,⟨B,m,d,b⟩]):=by
  refine ⟨rfl,Nat.le_refl _,by simp[maxLen],fun _=>⟨w.heap.size,0,rfl,by simp,fun i g hg=>?_⟩,fun g hg=>?_⟩
  ·match i,hg with
   | 0,hg=>simp at hg;subst hg;simp
   | 1,hg=>simp at hg;subst hg;simp
   | i+2,hg=>simp at hg
  ·simp at hg
   rcases hg with rfl|rfl
   ·exact HA.out.push _
   ·exact HB.out.push _
 go_enter Tryz.func99,Tryz.ntmps99
 go_wp2_with fail
 refine (edges_any HG.out (by have:=seen_len [⟨A,n,c,a⟩,⟨B,m,d,b⟩] 2;omega)).mono ?_
 rintro e w2 ⟨v,rfl,bE,oE,nE,cE,E,rfl,hRE,hE,hnE,hbE⟩
 have hnE2:nE≤100000:=by
  have h1:=hE.len
  have h2:=seen_len [⟨A,n,c,a⟩,⟨B,m,d,b⟩] 2
  have h3:=hRE.len
  omega
 have RE:=ha_ hRE
 have HE:Hid (M.EdgeOf (M.usable a++M.usable b) E):=by
  have:seen [⟨A,n,c,a⟩,⟨B,m,d,b⟩] 2=M.usable a++M.usable b:=by simp[seen]
  rw[this] at hE;exact hE
 have B2:=ha_ ((qd_ w _).trans (hbE.mono (qd_ w (.cells #[.slice A n c,.slice B m d] 44)).size))
 have RA:=ha_ ((HA.out.push _).on hbE)
 have RB:=ha_ ((HB.out.push _).on hbE)
 clear hRE hE hbE HG HA HB
 have HS:Hid (Gath w2 tl a b (fAt E 0) (.slice none 0 0) w2):=by
  have e0:fAt E 0=0:=by unfold fAt;rw[M.edge_first HE.out]
  show Gath w2 tl a b (fAt E 0) _ w2
  rw[e0]
  exact ⟨none,0,0,[],rfl,World.ownsRow_nil _ _ _ _,M.Swept.start _,Below.refl _ _⟩
 go_wp2_with fail
 go_loopw [7,9] (fun v i wr=>∃ k:Nat,k≤nE∧i=.int .i64 k∧Gath w2 tl a b (fAt E k) v wr) (fun _ i _=>nE - (intOf i).toNat)
 case atStart=>exact ⟨0,Nat.zero_le _,rfl,HS.out⟩
 case round =>
  obtain ⟨i,hi,rfl,A1,n1,c1,L,rfl,hown,hsw,hbel⟩:=hrel
  by_cases hlt:i<nE
  ·obtain ⟨b', o', f,hA', hbb,hf,hcf⟩:=RE.out.got hlt
   injection hA' with hA'; injection hA' with e1 e2 _;subst e1 e2
   have hfe:fAt E i=f:=by unfold fAt;rw[hf]
   rw[hfe] at hsw
   obtain ⟨t1,t2,t3,t4⟩:=M.next_gt HE.out hf
   have HF:=ha_ hf
   have HX:Hid (∀ c,f≤c→c<M.nextE E i→tl (M.hasB a c) (M.hasB b c)=tl (M.hasB a f) (M.hasB b f)):=fun c h1 h2=>by
    rw[M.edge_has HE.out (fun r hr=>List.mem_append_left _ hr) HF.out h1 h2,M.edge_has HE.out (fun r hr=>List.mem_append_right _ hr) HF.out h1 h2]
   have RA' := ha_ (RA.out.below hbel)
   have RB' := ha_ (RB.out.below hbel)
   have hcf' := (hbel.cell (p:=⟨bE,oE+i,none⟩) hbb).trans hcf
   have hnx:i+1<nE→wr.cell? ⟨bE,oE+(i+1),none⟩=some (.int .i64 (M.nextE E i)):=fun h=>by
    obtain ⟨b', o', y,hA', hbb,hy,hcy⟩:=RE.out.got h
    injection hA' with hA'; injection hA' with e1 e2 _;subst e1 e2
    have:M.nextE E i=y:=by unfold M.nextE;rw[hy]
    rw[this]
    exact (hbel.cell (p:=⟨bE,oE+(i+1),none⟩) hbb).trans hcy
   have hnx2:¬ i+1<nE→M.nextE E i=1114112:=fun h=>by
    unfold M.nextE;rw[List.getElem?_eq_none (by rw[RE.out.len];omega)]
   have HNX:=ha_ hnx
   have HNX2:=ha_ hnx2
   have HO:=ha_ hown
   have HW:=ha_ hsw
   have HBL:=ha_ hbel
   have hml:n1≤1114112:=by have:=hown.len;have:=hsw.len;omega
   clear hf hfe hown hsw hbel hnx hnx2 hcf HS
   go_wp2
   go_quiet (first|(go_at_call_of 36 (Value.slice A n c);exact rhas_quiet RA'.out f _)|(go_at_call_of 36 (Value.slice B m d);exact rhas_quiet RB'.out f _))
   generalize M.hasB a f=x at *
   generalize M.hasB b f=y at *
   go_upto_region 7 with fail
   go_cut [68] (fun s68 wx=>s68=.bool (!(tl x y))∧wx=wr.drewN nq)
   case first =>
    rcases HK.out with ⟨rfl,rfl⟩|⟨rfl,rfl⟩|⟨rfl,rfl⟩ <;> cases x <;> cases y <;> (go_wp2_with fail;go_meet;exact ⟨rfl,rfl⟩)
   case rest =>
    obtain ⟨rfl,rfl⟩:=hcut
    cases htl:tl x y
    ·have R:Gath w2 tl a b (fAt E (i+1)) (.slice A1 n1 c1) (wr.drewN nq) :=
      ⟨_,_,_,L,rfl,zf_ HO.out _,by rw[← fAt_next];exact HW.out.skip (by omega) fun c h1 h2=>(HX.out c h1 h2).trans htl,qt_ HBL.out _⟩
     have RR:=ha_ R
     clear R htl
     go_wp2
     go_roundw
     case rel=>exact ⟨i+1,by omega,by go_num,RR.out⟩
     case measure=>simp[intOf];omega
    ·have HT:Hid (M.Swept (M.nextE E i) (M.joinL L (f,M.nextE E i - 1)) (fun c=>tl (M.hasB a c) (M.hasB b c))):=HW.out.take t3 t1 t2 fun c h1 h2=>(HX.out c h1 h2).trans htl
     clear htl
     go_upto_if 73 with fail
     go_cut [12] (fun s12 wx=>s12=.int .i64 (M.nextE E i - 1)∧wx=wr.drewN nq)
     case first =>
      by_cases hl1:i+1<nE
      ·have hx1:=HNX.out hl1
       generalize M.nextE E i=g at *
       go_wp2_with fail
       go_meet
       exact ⟨rfl,rfl⟩
      ·have HX2:Hid (M.nextE E i - 1=1114111):=by show M.nextE E i - 1=1114111;have:=HNX2.out hl1;omega
       go_wp2_with fail
       go_meet
       exact ⟨by rw[HX2.out],rfl⟩
     case rest =>
      obtain ⟨rfl,rfl⟩:=hcut
      have hRel:∀ v wx,Gath w2 tl a b (M.nextE E i) v wx→Gath w2 tl a b (fAt E (i+1)) v wx:=fun v wx h=>h
      have HRel:=ha_ hRel
      clear HNX HNX2 hRel
      have t5:f≤M.nextE E i - 1:=by omega
      have t6:M.nextE E i - 1≤1114111:=by omega
      generalize hg1:M.nextE E i - 1=t at *
      have HG1:=ha_ hg1
      clear hg1
      rcases List.eq_nil_or_concat L with hL0|⟨I,s,hLs⟩
      ·subst hL0
       have hn0:n1=0:=by have:=HO.out.len;simpa using this.symm
       subst hn0
       go_wp2
       go_quiet (fail)
       go_wp2_with (at_builtin;refine wpList_append_own _ rfl _ _ 44 rfl w2.heap.size 108 i0 (.agg #[.int .i64 0,.int .i64 0]) 2 16 Tryz.underlying44 hi0 hz0 hz1 hz2 rfl (by decide) _ _ _ rfl ((zf_ HO.out _).alloc _) ⟨wr.heap.size,0,none⟩ 1 1 [.int .i64 f,.int .i64 t] rfl rfl ?c1 (news_one _ _) ?c3 ?c4 ?c5 ?_)
       case c1=>exact news_at _ _ (by simp) _ _ _
       case c3=>simp only[maxLen];omega
       case c4=>omega
       case c5=>have:=HBL.out.size;simp;omega
       intro v' w3 hown' hgrow _
       have hb3:Below w2.heap.size w2 w3:=((qt_ HBL.out _).alloc HBL.out.size _).grown hgrow (by have:=HBL.out.size;simp;omega) (fun k hk=>(HO.out.lt k hk).1)
       have R:=HRel.out v' w3 (gath_of (by rw[M.joinL_nil];simpa [cellsR] using hown') HT.out hb3)
       have RR:=ha_ R
       clear R hown' hgrow hb3
       go_wp2
       go_roundw
       case rel=>exact ⟨i+1,by omega,by go_num,RR.out⟩
       case measure=>simp[intOf];omega
      ·rw[List.concat_eq_append] at hLs
       subst hLs
       obtain ⟨u1,u2,u3⟩:=swept_last HW.out
       have hln:n1=I.length+1:=by have:=HO.out.len;simp at this;omega
       have hln1:n1 - 1=I.length:=by omega
       rcases HO.out.2 with ⟨_,h2⟩|⟨g,cap,cur,hv,hBg,hgh,h3,h4,_,_⟩
       ·omega
       injection hv with a1 a2 a3
       subst a1 a3
       have hg:=(World.ownsRow.lt HO.out g rfl).2
       have hcell:wr.cell? ⟨g,(n1 - 1)*2+1,none⟩=some (.int .i64 s.2):=by
        rw[World.ownsRow.cellAt HO.out ((n1 - 1)*2+1) (by omega),hln1,cellsR_hi (I++[s]) I.length (by simp)];simp
       have hfz:wr.frozen? ⟨g,(n1 - 1)*2+1,none⟩=false:=World.ownsRow.frozenAt HO.out _
       have hn0:0<n1:=by omega
       have d1:decide (0<(n1:Int))=true:=by simp;omega
       have HLN:=ha_ hln1
       clear hln hln1 hgh
       by_cases htch:s.2+1=f
       ·have d2:((s.2+1:Int) == f)=true:=by simpa using htch
        have HJ:=ha_ (join_touch (I:=I) htch t5)
        clear htch
        go_wp2
        go_quiet (fail)
        go_wp2
        go_roundw
        case rel=>exact ⟨i+1,by omega,by go_num,HRel.out _ _ (gath_of (k:=n1) (by rw[HJ.out];exact store_own HO.out HLN.out _ t) HT.out ((qt_ HBL.out _).setCell hBg _))⟩
        case measure=>simp[intOf];omega
       ·have d2:((s.2+1:Int) == f)=false:=by simpa using htch
        have HJ:=ha_ (join_apart (I:=I) (t:=t) (show s.2+1<f by omega))
        clear htch
        go_wp2
        go_quiet (fail)
        go_wp2_with (at_builtin;refine wpList_append_own _ rfl _ _ 44 rfl w2.heap.size 108 i0 (.agg #[.int .i64 0,.int .i64 0]) 2 16 Tryz.underlying44 hi0 hz0 hz1 hz2 rfl (by decide) _ _ _ rfl ((zf_ HO.out _).alloc _) ⟨wr.heap.size,0,none⟩ 1 1 [.int .i64 f,.int .i64 t] rfl rfl ?d1 (news_one _ _) ?d3 ?d4 ?d5 ?_)
        case d1=>exact news_at _ _ (by simp) _ _ _
        case d3=>simp only[maxLen];omega
        case d4=>omega
        case d5=>have:=HBL.out.size;simp;omega
        intro v' w3 hown' hgrow _
        have hb3:Below w2.heap.size w2 w3:=((qt_ HBL.out _).alloc HBL.out.size _).grown hgrow (by have:=HBL.out.size;simp;omega) (fun k hk=>(HO.out.lt k hk).1)
        have R:=HRel.out v' w3 (gath_of (by rw[HJ.out,zi_ (I++[s])];exact hown') HT.out hb3)
        have RR:=ha_ R
        clear R hown' hgrow hb3
        go_wp2
        go_roundw
        case rel=>exact ⟨i+1,by omega,by go_num,RR.out⟩
        case measure=>simp[intOf];omega
  ·have hfe:fAt E i=1114112:=by unfold fAt;rw[List.getElem?_eq_none (by rw[RE.out.len];omega)]
   rw[hfe] at hsw
   have R:FreshO w (IsTold tl a b) (.returned (.slice A1 n1 c1)) wr:=⟨A1,n1,c1,L,rfl,hsw.done rfl,own_from hown B2.out.size,B2.out.trans (hbel.mono B2.out.size)⟩
   have RR:=ha_ R
   clear R hsw hown hbel hfe
   go_wp2
   go_ret
   exact RR.out
theorem fresh_of {w:World}{P:List Rg→Prop}{e:Ending}{w' : World}(h:FreshO w P e w'):Fresh w P e w' := by
 obtain ⟨A,n,c,L,he,hP,ho,hb⟩:=h
 exact ⟨A,n,c,L,he,hP,ho.rd,hb⟩

set_option maxHeartbeats 400000 in
theorem ror_own {w:World}{A B:Option Addr}{n m c d:Nat}{a b:List Rg}(ha:Rd w w.heap.size A n c a) (hb:Rd w w.heap.size B m d b) :
  Calls Tryz.prog 79 #[.slice A n c,.slice B m d] w (FreshO w (IsTold (fun x y=>x || y) a b)):=by
 have hcon:=ha_ (made_own ha hb 0 _ (.inl ⟨rfl,rfl⟩))
 clear ha hb
 go_enter Tryz.func79,Tryz.ntmps79
 go_wp2_with fail
 refine hcon.out.mono ?_
 rintro e w1 ⟨A1,n1,c1,L,rfl,h⟩
 have H:=ha_ h
 clear h
 go_wp2
 go_ret
 exact ⟨A1,n1,c1,L,rfl,H.out⟩

set_option maxHeartbeats 400000 in
theorem rplain_own {w:World}{A:Option Addr}{n c:Nat}{a:List Rg}(ha:Rd w w.heap.size A n c a) :
  Calls Tryz.prog 60 #[.slice A n c] w (FreshO w (isPlain a)):=by
 have hcon:=ha_ (ror_own ha (Rd.nil w w.heap.size))
 clear ha
 go_enter Tryz.func60,Tryz.ntmps60
 go_wp2_with fail
 refine hcon.out.mono ?_
 rintro e w1 ⟨A1,n1,c1,L,rfl,hL,h⟩
 have H:=ha_ h
 have HL:Hid (isPlain a L):=(M.plainL_is hL.1 fun c=>by rw[or_cov hL,has_nil,Bool.or_false]).symm
 clear h hL
 go_wp2
 go_ret
 exact ⟨A1,n1,c1,L,rfl,HL.out,H.out⟩
theorem rplain_any {w:World}{A:Option Addr}{n c:Nat}{a:List Rg}(ha:Rd w w.heap.size A n c a) :
  Calls Tryz.prog 60 #[.slice A n c] w (Fresh w (isPlain a)) :=
 (rplain_own ha).mono fun _ _ h=>fresh_of h

set_option maxHeartbeats 400000 in
theorem rless_own {w:World}{A B:Option Addr}{n m c d:Nat}{a b:List Rg}(ha:Rd w w.heap.size A n c a) (hb:Rd w w.heap.size B m d b) :
  Calls Tryz.prog 127 #[.slice A n c,.slice B m d] w (FreshO w (IsTold (fun x y=>x && !y) a b)):=by
 have hcon:=ha_ (made_own ha hb 2 _ (.inr (.inr ⟨rfl,rfl⟩)))
 clear ha hb
 go_enter Tryz.func127,Tryz.ntmps127
 go_wp2_with fail
 refine hcon.out.mono ?_
 rintro e w1 ⟨A1,n1,c1,L,rfl,h⟩
 have H:=ha_ h
 clear h
 go_wp2
 go_ret
 exact ⟨A1,n1,c1,L,rfl,H.out⟩

set_option maxHeartbeats 400000 in
theorem rnot_own {w:World}{A:Option Addr}{n c:Nat}{a:List Rg}(ha:Rd w w.heap.size A n c a) :
  Calls Tryz.prog 125 #[.slice A n c] w (FreshO w (IsTold (fun x _=>!x) a [])):=by
 have hcon:=ha_ (rless_own (rd_one w 0 1114111 108) (ha.push _))
 clear ha
 go_enter Tryz.func125,Tryz.ntmps125
 go_wp2_with fail
 refine hcon.out.mono ?_
 rintro e w1 ⟨A1,n1,c1,L,rfl,hL,hr,hb⟩
 have H:=ha_ hr
 have HB:=ha_ ((qd_ w _).trans (hb.mono (qd_ w (.cells #[.int .i64 0,.int .i64 1114111] 108)).size))
 have HL:Hid (IsTold (fun x _=>!x) a [] L):=⟨hL.1,fun c=>by rw[less_cov hL,has_all]⟩
 clear hr hL hb
 go_wp2
 go_ret
 exact ⟨A1,n1,c1,L,rfl,HL.out,own_from H.out (by simp),HB.out⟩

set_option maxHeartbeats 400000 in
theorem rand_own {w:World}{A B:Option Addr}{n m c d:Nat}{a b:List Rg}(ha:Rd w w.heap.size A n c a) (hb:Rd w w.heap.size B m d b) :
  Calls Tryz.prog 126 #[.slice A n c,.slice B m d] w (FreshO w (IsTold (fun x y=>x && y) a b)):=by
 have hcon:=ha_ (made_own ha hb 1 _ (.inr (.inl ⟨rfl,rfl⟩)))
 clear ha hb
 go_enter Tryz.func126,Tryz.ntmps126
 go_wp2_with fail
 refine hcon.out.mono ?_
 rintro e w1 ⟨A1,n1,c1,L,rfl,h⟩
 have H:=ha_ h
 clear h
 go_wp2
 go_ret
 exact ⟨A1,n1,c1,L,rfl,H.out⟩

set_option maxHeartbeats 1000000 in
theorem join_push0 {w:World}{B:Nat}{A:Option Addr}{c:Nat}(hown:w.ownsRow B 108 2 (.slice A 0 c) 0 []) (hB:B≤w.heap.size) (lo hi:Int) :
  Calls Tryz.prog 78 #[.slice A 0 c,.agg #[.int .i64 lo,.int .i64 hi]] w (Left1 B w [(lo,hi)]):=by
 obtain ⟨i0,hi0,hz0,hz1,hz2⟩:=info_parts info_R
 have H:=ha_ hown;clear hown
 go_enter Tryz.func78,Tryz.ntmps78
 go_wp2
 go_quiet (fail)
 go_wp2_with (at_builtin;refine wpList_append_own _ rfl _ _ 44 rfl B 108 i0 (.agg #[.int .i64 0,.int .i64 0]) 2 16 Tryz.underlying44 hi0 hz0 hz1 hz2 rfl (by decide) _ _ _ rfl ((zf_ (H.out.alloc _) _).alloc _) ⟨w.heap.size+1,0,none⟩ 1 1 [.int .i64 lo,.int .i64 hi] rfl rfl ?c1 (news_one _ _) ?c3 ?c4 ?c5 ?_)
 case c1=>exact news_at _ _ (by simp) _ _ _
 case c3=>simp[maxLen]
 case c4=>omega
 case c5=>simp;omega
 intro v' w1 hown' hgrow _
 have hb:Below B w w1:=by
  refine (((qt_ ((Below.refl B w).alloc hB _) _).alloc ?_ _)).grown hgrow ?_ ?_
  ·simp;omega
  ·simp;omega
  ·intro k hk
   exact (H.out.lt k hk).1
 go_wp2
 go_ret
 exact left_of (L:=[(lo,hi)]) (by simpa [cellsR] using hown') hb
set_option maxHeartbeats 1000000 in
theorem join_push {w:World}{B g n c:Nat}{xs:List Value}(hown:w.ownsRow B 108 2 (.slice (some ⟨g,0,none⟩) n c) n xs) (hB:B≤w.heap.size) (lo hi h0:Int) (hn:0<n) (hm:n≤4000000) (hg:g<w.heap.size) (hc:w.cell? ⟨g,(n - 1)*2+1,none⟩=some (.int .i64 h0)) (hb0:-2≤h0) (hb1:h0≤1114111) (hlt:h0+1<lo) :
  Calls Tryz.prog 78 #[.slice (some ⟨g,0,none⟩) n c,.agg #[.int .i64 lo,.int .i64 hi]] w fun e w' => ∃ v,e=.returned v∧w'.ownsRow B 108 2 v (n+1) (xs++[.int .i64 lo,.int .i64 hi])∧Below B w w' := by
 obtain ⟨i0,hi0,hz0,hz1,hz2⟩:=info_parts info_R
 have H:=ha_ hown;clear hown
 have d1:decide (0<(n:Int))=true:=by simp;omega
 have hc' : (w.alloc (.cells #[.int .i64 lo,.int .i64 hi] 108)).cell? ⟨g,(n - 1)*2+1,none⟩=some (.int .i64 h0):=(World.cell?_alloc_lt w _ _ hg).trans hc
 have hd:decide (lo≤h0+1)=false:=by simp;omega
 go_enter Tryz.func78,Tryz.ntmps78
 go_wp2
 go_quiet (fail)
 go_wp2_with (at_builtin;refine wpList_append_own _ rfl _ _ 44 rfl B 108 i0 (.agg #[.int .i64 0,.int .i64 0]) 2 16 Tryz.underlying44 hi0 hz0 hz1 hz2 rfl (by decide) _ _ _ rfl ((zf_ (H.out.alloc _) _).alloc _) ⟨w.heap.size+1,0,none⟩ 1 1 [.int .i64 lo,.int .i64 hi] rfl rfl ?c1 (news_one _ _) ?c3 ?c4 ?c5 ?_)
 case c1=>exact news_at _ _ (by simp) _ _ _
 case c3=>simp only[maxLen];omega
 case c4=>omega
 case c5=>simp;omega
 intro v' w1 hown' hgrow _
 have hb:Below B w w1:=by
  refine (((qt_ ((Below.refl B w).alloc hB _) _).alloc ?_ _)).grown hgrow ?_ ?_
  ·simp;omega
  ·simp;omega
  ·intro k hk
   exact (H.out.lt k hk).1
 clear hc hc'
 go_wp2
 go_ret
 exact ⟨v', rfl,hown', hb⟩
def Into (w:World) (g n c:Nat) (lo hi m:Int) (e:Ending) (w' : World):Prop :=
 e=.returned (.slice (some ⟨g,0,none⟩) n c)∧∃ q,w' = ((w.alloc (.cells #[.int .i64 lo,.int .i64 hi] 108)).drewN q).setCell ⟨g,(n - 1)*2+1,none⟩ (.int .i64 m)
set_option maxHeartbeats 1000000 in
theorem join_into {w:World}{g n c:Nat}(lo hi h0:Int) (hn:0<n) (hm:n≤4000000) (hg:g<w.heap.size) (hc:w.cell? ⟨g,(n - 1)*2+1,none⟩=some (.int .i64 h0)) (hfz:w.frozen? ⟨g,(n - 1)*2+1,none⟩=false) (hb0:-2≤h0) (hb1:h0≤1114111) (hlt:lo≤h0+1) :
  Calls Tryz.prog 78 #[.slice (some ⟨g,0,none⟩) n c,.agg #[.int .i64 lo,.int .i64 hi]] w (Into w g n c lo hi (max h0 hi)):=by
 have d1:decide (0<(n:Int))=true:=by simp;omega
 have hc' : (w.alloc (.cells #[.int .i64 lo,.int .i64 hi] 108)).cell? ⟨g,(n - 1)*2+1,none⟩=some (.int .i64 h0):=(World.cell?_alloc_lt w _ _ hg).trans hc
 have hf' : (w.alloc (.cells #[.int .i64 lo,.int .i64 hi] 108)).frozen? ⟨g,(n - 1)*2+1,none⟩=false:=(((Below.refl w.heap.size w).alloc (Nat.le_refl _) _).frozen hg).trans hfz
 have hd:decide (lo≤h0+1)=true:=by simp;omega
 clear hc hfz
 go_enter Tryz.func78,Tryz.ntmps78
 go_wp2
 go_quiet (fail)
 go_wp2
 go_region
 all_goals go_wp2
 all_goals go_ret
 all_goals first|exact ⟨rfl,_,rfl⟩|exact ⟨rfl,_,by rw[show max h0 hi=hi by omega]⟩|exact ⟨rfl,_,by rw[show max h0 hi=h0 by omega]⟩
theorem join_any {w:World}{B:Nat}{A:Option Addr}{n c:Nat}{L:List Rg}(hown:Own w B A n c L) (hB:B≤w.heap.size) (hm:n≤4000000) (hL:M.LF 0 L) (r:Rg) :
  Calls Tryz.prog 78 #[.slice A n c,.agg #[.int .i64 r.1,.int .i64 r.2]] w (Left1 B w (M.joinL L r)):=by
 have hl:=hown.len
 rcases List.eq_nil_or_concat L with rfl|⟨I,s,rfl⟩
 ·simp at hl;subst hl
  rw[M.joinL_nil]
  exact join_push0 hown hB r.1 r.2
 ·rw[List.concat_eq_append] at *
  obtain ⟨hI,hs1,hs2,hs3,_⟩:=(M.LF_append 0 I [s]).1 hL
  have hs0:0≤s.2:=by
   have:=(M.LF_cov hL (c:=s.1) (by rw[M.covb_append];simp[M.covb,M.inR];omega)).1
   omega
  have hn:n=I.length+1:=by simp at hl;omega
  have hn1:n - 1=I.length:=by omega
  rcases hown.2 with ⟨_,h2⟩|⟨g,cap,cur,h1,hBg,hgh,h3,h4,_,_⟩
  ·omega
  ·injection h1 with a1 a2 a3;subst a1 a3
   have hg:=(hown.lt g rfl).2
   have hcell:w.cell? ⟨g,(n - 1)*2+1,none⟩=some (.int .i64 s.2):=by
    have:=hown.cellAt ((n - 1)*2+1) (by omega)
    rw[this,hn1,cellsR_hi (I++[s]) I.length (by simp)]
    simp
   rw[M.joinL_snoc]
   by_cases g1:r.1≤s.2+1
   ·rw[if_pos g1]
    refine (join_into r.1 r.2 s.2 (by omega) hm hg hcell (hown.frozenAt _) (by omega) hs3 g1).mono ?_
    rintro e w' ⟨rfl,q,rfl⟩
    refine left_of (n:=n) ?_ (((qt_ ((Below.refl B w).alloc hB _) q)).setCell hBg _)
    have:=((zf_ (World.ownsRow.alloc hown (.cells #[.int .i64 r.1,.int .i64 r.2] 108)) q).stored ((n - 1)*2+1) (.int .i64 (max s.2 r.2))).1
    rw[hn1] at this ⊢
    rw[set_snoc] at this
    exact this
   ·rw[if_neg g1]
    refine (join_push hown hB r.1 r.2 s.2 (by omega) hm hg hcell (by omega) hs3 (by omega)).mono ?_
    rintro e w' ⟨v,rfl,h,hb⟩
    refine left_of (n:=n+1) ?_ hb
    rw[zi_ (I++[s])]
    exact h

set_option maxHeartbeats 400000 in
theorem tooMany_any (A:Option Addr) (n c:Nat) (w:World) (hn:n≤maxLen) :
  Calls Tryz.prog 56 #[.slice A n c] w fun e w' => e=.returned (.bool (decide (400<n)))∧w=w' := by
 unfold maxLen at hn
 go_enter Tryz.func56,Tryz.ntmps56
 go_wp2
 go_ret
 exact ⟨by simp;omega,rfl⟩


def totalS (gs:List Given):Nat:=gs.length+(gs.map (·.n)).sum
theorem total_take {gs:List Given}{i:Nat}{g:Given}(h:gs[i]?=some g):((gs.take (i+1)).map (·.n)).sum=((gs.take i).map (·.n)).sum+g.n:=by
 obtain ⟨hi,hg⟩:=List.getElem?_eq_some_iff.1 h
 rw[List.take_succ_eq_append_getElem hi,hg];simp
theorem take_sum_le (gs:List Given) (i:Nat):((gs.take i).map (·.n)).sum≤(gs.map (·.n)).sum:=by
 have:=List.take_append_drop i gs
 conv=>rhs;rw[← this]
 rw[List.map_append,List.sum_append];omega
def SmallS (gs:List Given):Prop:=gs.length≤17592186044416∧∀ g∈gs,g.n≤17592186044416

set_option maxHeartbeats 1000000 in
theorem tgreat_any {w:World}{B:Nat}{A:Option Addr}{n c:Nat}{gs:List Given}(hg:RdS w B A n c gs) (hs:SmallS gs) (most:Int) (h0:0≤most) (h1:most≤100000) :
  Calls Tryz.prog 5 #[.slice A n c,.int .i64 most] w fun e w' => e=.returned (.bool (decide (most<(totalS gs:Int))))∧w=w' := by
 have HG:=ha_ hg
 have HS:=ha_ hs
 have hn:n≤17592186044416:=by rw[← hg.len];exact hs.1
 clear hg hs
 go_enter Tryz.func5,Tryz.ntmps5
 go_wp2_with fail
 go_loop [5,6] (fun s i=>∃ k m:Nat,k≤n∧i=.int .i64 k∧s=.int .i64 m∧m=n+((gs.take k).map (·.n)).sum∧m≤35184372188832) (fun _ i=>n - (intOf i).toNat)
 case atStart=>exact ⟨0,n,Nat.zero_le _,rfl,rfl,by simp,by omega⟩
 case round =>
  obtain ⟨k,m,hk,rfl,rfl,hm,hmb⟩:=hrel
  have HM:=ha_ hm
  clear hm
  by_cases hlt:k<n
  ·by_cases hmo:(m:Int)≤most
   ·obtain ⟨b,off,g,rfl,_,hgi,hc,_⟩:=HG.out.got hlt
    have HT:=ha_ (total_take hgi)
    have hgn:g.n≤17592186044416:=HS.out.2 g (List.mem_of_getElem? hgi)
    clear hgi
    obtain ⟨gA,gn,gc,gl⟩:=g
    have hgn2:gn≤17592186044416:=hgn
    clear hgn
    go_wp2
    go_round
    case rel=>exact ⟨k+1,m+gn,by omega,by go_num,by go_num,by rw[HT.out,HM.out,Nat.add_assoc],by omega⟩
    case measure=>simp[intOf];omega
   ·have HQ:Hid (decide (most<(totalS gs:Int))=true):=by
     show decide (most<(totalS gs:Int))=true
     have h2:=take_sum_le gs k
     have h3:=HM.out
     have h4:=HG.out.len
     unfold totalS
     simp;omega
    go_wp2
    go_ret
    exact ⟨by rw[HQ.out];rfl,rfl⟩
  ·have HQ:Hid ((totalS gs:Int)=m):=by
    show (totalS gs:Int)=m
    have h3:=HM.out
    have h4:=HG.out.len
    rw[List.take_of_length_le (by omega)] at h3
    unfold totalS;omega
   go_wp2
   go_ret
   exact ⟨by rw[HQ.out];rfl,rfl⟩

def listsOf (gs:List Given):List (List Rg):=gs.map (·.l)




def classF (ls:List (List Rg)) (x:Int):Int:=match ls.findIdx? (fun l=>M.hasB l x) with|some i=>(i:Int)|none=>-1
theorem class_found {gs:List Given}{k:Nat}{g:Given}{x:Int}(hn:∀ j h,j<k→gs[j]?=some h→M.hasB h.l x=false) (hg:gs[k]?=some g) (hx:M.hasB g.l x=true):classF (listsOf gs) x=k:=by
 obtain ⟨hk,hgk⟩:=List.getElem?_eq_some_iff.1 hg
 have:(listsOf gs).findIdx? (fun l=>M.hasB l x)=some k:=by
  rw[List.findIdx?_eq_some_iff_getElem]
  refine ⟨by simpa [listsOf] using hk,by simp[listsOf,hgk,hx],fun j hj=>?_⟩
  have hj' : j<gs.length:=by omega
  simp only[listsOf,List.getElem_map]
  rw[hn j gs[j] hj (List.getElem?_eq_getElem hj')];simp
 unfold classF;rw[this]
theorem class_none {gs:List Given}{x:Int}(hn:∀ j h,j<gs.length→gs[j]?=some h→M.hasB h.l x=false):classF (listsOf gs) x=-1:=by
 have:(listsOf gs).findIdx? (fun l=>M.hasB l x)=none:=by
  rw[List.findIdx?_eq_none_iff]
  intro l hl
  simp only[listsOf,List.mem_map] at hl
  obtain ⟨g,hg,rfl⟩:=hl
  obtain ⟨j,hj⟩:=List.getElem?_of_mem hg
  exact hn j g (List.getElem?_eq_some_iff.1 hj).1 hj
 unfold classF;rw[this]

set_option maxHeartbeats 1000000 in
theorem tclass_any {w:World}{B:Nat}{A:Option Addr}{n c:Nat}{gs:List Given}(hg:RdS w B A n c gs) (x:Int) :
  Calls Tryz.prog 18 #[.slice A n c,.int .i64 x] w fun e w' => e=.returned (.int .i64 (classF (listsOf gs) x))∧w=w' := by
 have hn:n≤maxLen:=Nat.le_trans hg.cap hg.capm
 unfold maxLen at hn
 have HG:=ha_ hg
 clear hg
 go_enter Tryz.func18,Tryz.ntmps18
 go_wp2_with fail
 go_loop [5] (fun i=>∃ k:Nat,k≤n∧i=.int .i64 k∧∀ j h,j<k→gs[j]?=some h→M.hasB h.l x=false) (fun i=>n - (intOf i).toNat)
 case atStart=>exact ⟨0,Nat.zero_le _,rfl,fun j h hj=>absurd hj (by omega)⟩
 case round =>
  obtain ⟨k,hk,rfl,hne⟩:=hrel
  have HN:=ha_ hne
  clear hne
  by_cases hlt:k<n
  ·obtain ⟨b1,o1,g,rfl,_,hr,k1,hrd⟩:=HG.out.got hlt
   have HR:=ha_ hr
   have RD:=ha_ hrd
   clear hr hrd
   cases hx:M.hasB g.l x
   ·have HF:Hid (∀ j h,j<k+1→gs[j]?=some h→M.hasB h.l x=false):=fun j h hj hh=>by
     by_cases e:j=k
     ·subst e;rw[HR.out] at hh;injection hh with hh;subst hh;exact hx
     ·exact HN.out j h (by omega) hh
    have HX:=ha_ hx
    clear hx
    go_wp2_with fail
    refine (rhas_any RD.out x).mono ?_
    rintro e w1 ⟨rfl,rfl⟩
    rw[HX.out]
    go_wp2
    go_round
    case rel=>exact ⟨k+1,by omega,by go_num,HF.out⟩
    case measure=>simp[intOf];omega
   ·have HF:=ha_ (class_found HN.out HR.out hx)
    have HX:=ha_ hx
    clear hx
    go_wp2_with fail
    refine (rhas_any RD.out x).mono ?_
    rintro e w1 ⟨rfl,rfl⟩
    rw[HX.out]
    go_wp2
    go_ret
    exact ⟨by rw[HF.out];rfl,rfl⟩
  ·have HF:Hid (classF (listsOf gs) x=-1):=class_none fun j h hj hh=>HN.out j h (by have:=HG.out.len;omega) hh
   go_wp2
   go_ret
   exact ⟨by rw[HF.out];rfl,rfl⟩



set_option maxHeartbeats 400000 in
theorem rfirst_any {w:World}{A:Option Addr}{n c:Nat}{a:List Rg}(ha:Rd w w.heap.size A n c a) :
  Calls Tryz.prog 38 #[.slice A n c] w (Num w (firstF (M.plainL a))):=by
 have hcon:=ha_ (rplain_any ha)
 clear ha
 go_enter Tryz.func38,Tryz.ntmps38
 go_wp2_with fail
 refine hcon.out.mono ?_
 rintro e w1 ⟨A1,n1,c1,L,rfl,hL,hr,hb⟩
 have hL' : L=M.plainL a:=hL
 subst hL'
 have HB:=ha_ hb
 have hm:n1≤maxLen:=Nat.le_trans hr.cap hr.capm
 unfold maxLen at hm
 clear hb hL
 by_cases h0:n1=0
 ·subst h0
  have hL:M.plainL a=[]:=List.eq_nil_of_length_eq_zero hr.len
  have HF:Hid (firstF (M.plainL a)=-1):=by rw[hL];rfl
  clear hr hL
  go_wp2
  go_ret
  exact ⟨by rw[HF.out];rfl,HB.out⟩
 ·obtain ⟨b,off,lo,hi,rfl,_,hk,k1,k2⟩:=hr.got (k:=0) (by omega)
  have hf:firstF (M.plainL a)=lo:=by
   cases hp:M.plainL a with
   | nil=>rw[hp] at hk;simp at hk
   | cons r t=>rw[hp] at hk;simp at hk;simp[firstF,hk]
  have HF:=ha_ hf
  have g0:((n1:Int) == 0)=false:=by simp;omega
  have k1' : w1.cell? ⟨b,off,none⟩=some (.int .i64 lo):=by simpa using k1
  clear hr hk hf k1 k2
  go_wp2
  go_ret
  exact ⟨by rw[HF.out];rfl,HB.out⟩

def FreshI (w:World) (L:List Int) (e:Ending) (w' : World):Prop:=∃ A n c,e=.returned (.slice A n c)∧RdI w' w'.heap.size A n c L∧Below w.heap.size w w'
theorem leftI_of {B:Nat}{w' : World}{L:List Int}{v:Value}{n:Nat}(h:w'.ownsRow B 3 1 v n (cellsI L)):∃ A m c,v=.slice A m c∧w'.ownsRow B 3 1 (.slice A m c) m (cellsI L):=by
 rcases h.2 with ⟨rfl,rfl⟩|⟨g,cap,cur,rfl,_⟩
 ·exact ⟨none,0,0,rfl,h⟩
 ·exact ⟨_,n,cap,rfl,h⟩
theorem newsI_at (w:World) (N:Nat) (hN:N=w.heap.size) (x:Int) (t:TypeId):∀ j u,[Value.int .i64 x][j]?=some u→(w.alloc (.cells #[.int .i64 x] t)).cell? ((⟨N,0,none⟩:Addr).add j)=some u:=by
 subst hN
 intro j u hj
 match j,hj with
 | 0,hj=>simp at hj;subst hj;simp[Addr.add]
def GathI (w:World) (L:List Int) (v:Value) (wr:World):Prop:=∃ A m c,v=.slice A m c∧wr.ownsRow w.heap.size 3 1 (.slice A m c) m (cellsI L)∧Below w.heap.size w wr
theorem gathI_of {w wx:World}{L:List Int}{v:Value}{n:Nat}(h:wx.ownsRow w.heap.size 3 1 v n (cellsI L)) (hb:Below w.heap.size w wx):GathI w L v wx:=by
 obtain ⟨A,m,c,e,h'⟩:=leftI_of h
 exact ⟨A,m,c,e,h', hb⟩

def firstsF (ls:List (List Rg)):List Int:=ls.map fun l=>firstF (M.plainL l)
theorem firsts_take {gs:List Given}{k:Nat}{g:Given}(h:gs[k]?=some g):firstsF (listsOf (gs.take (k+1)))=firstsF (listsOf (gs.take k))++[firstF (M.plainL g.l)]:=by
 obtain ⟨hk,hgk⟩:=List.getElem?_eq_some_iff.1 h
 rw[List.take_succ_eq_append_getElem hk,hgk]
 simp[firstsF,listsOf]

set_option maxHeartbeats 1000000 in
theorem tfirsts_any {w:World}{A:Option Addr}{n c:Nat}{gs:List Given}(hg:RdS w w.heap.size A n c gs) (hs:gs.length≤100000) :
  Calls Tryz.prog 20 #[.slice A n c] w (FreshI w (firstsF (listsOf gs))):=by
 obtain ⟨i0,hi0,hz0,hz1,hz2⟩:=info_parts info_I
 have hn:n≤100000:=by rw[← hg.len];exact hs
 have HG:=ha_ hg
 clear hg hs
 go_enter Tryz.func20,Tryz.ntmps20
 go_wp2_with fail
 go_loopw [3,4] (fun v i wr=>∃ k:Nat,k≤n∧i=.int .i64 k∧GathI w (firstsF (listsOf (gs.take k))) v wr) (fun _ i _=>n - (intOf i).toNat)
 case atStart=>exact ⟨0,Nat.zero_le _,rfl,none,0,0,rfl,World.ownsRow_nil _ _ _ _,Below.refl _ _⟩
 case round =>
  obtain ⟨k,hk,rfl,A1,m1,c1,rfl,hown,hbel⟩:=hrel
  by_cases hlt:k<n
  ·obtain ⟨b1,o1,g,rfl,hlt1,hr,k1,hrd⟩:=HG.out.got hlt
   have HT:=ha_ (firsts_take hr)
   have k1' := (hbel.cell (p:=⟨b1,o1+k,none⟩) hlt1).trans k1
   have RD:=ha_ (hrd.on hbel)
   have hm1:m1≤k:=by
    have h1:=hown.1
    simp[cellsI,firstsF,listsOf] at h1;omega
   have HO:=ha_ hown
   have HB:=ha_ hbel
   clear hr hrd k1 hown hbel
   obtain ⟨gA,gn,gc,gl⟩:=g
   go_wp2_with fail
   refine (rfirst_any RD.out).mono ?_
   rintro e w1 ⟨rfl,hb1⟩
   have HO1:Hid (w1.ownsRow w.heap.size 3 1 (.slice A1 m1 c1) m1 (cellsI (firstsF (listsOf (gs.take k))))):=zg_ HO.out hb1
   have HB1:=ha_ (HB.out.trans (hb1.mono HB.out.size))
   clear hb1 HO HB
   generalize hf:firstF (M.plainL gl)=f at *
   have HF:=ha_ hf
   clear hf
   go_wp2_with (at_builtin;refine wpList_append_own _ rfl _ _ 23 rfl w.heap.size 3 i0 (.int .i64 0) 1 8 Tryz.underlying23 hi0 hz0 hz1 hz2 rfl (by decide) _ _ _ rfl (World.ownsRow.alloc HO1.out _) ⟨w1.heap.size,0,none⟩ 1 1 [.int .i64 f] rfl rfl ?c1 (one_x _) ?c3 ?c4 ?c5 ?_)
   case c1=>exact newsI_at _ _ rfl _ _
   case c3=>simp only[maxLen];omega
   case c4=>omega
   case c5=>have:=HB1.out.size;simp;omega
   intro v' w2 hown' hgrow _
   have hb2:Below w.heap.size w w2:=(HB1.out.alloc HB1.out.size _).grown hgrow (by have:=HB1.out.size;simp;omega) (fun k hk=>(HO1.out.lt k hk).1)
   have R:GathI w (firstsF (listsOf (gs.take (k+1)))) v' w2:=gathI_of (n:=m1+1) (by rw[HT.out];simpa [cellsI] using hown') hb2
   have RR:=ha_ R
   clear R hown' hgrow hb2
   go_wp2
   go_roundw
   case rel=>exact ⟨k+1,by omega,by go_num,RR.out⟩
   case measure=>simp[intOf];omega
  ·have ht:gs.take k=gs:=List.take_of_length_le (by rw[HG.out.len];omega)
   rw[ht] at hown
   have R:FreshI w (firstsF (listsOf gs)) (.returned (.slice A1 m1 c1)) wr:=⟨A1,m1,c1,rfl,RdI.of_own hown,hbel⟩
   have RR:=ha_ R
   clear R hown hbel ht
   go_wp2
   go_ret
   exact RR.out

def withinFrom (l:List Rg):Nat→List Int→List Int
 | _,[]=>[]
 | i,f :: t=>if M.hasB l f then (i:Int) :: withinFrom l (i+1) t else withinFrom l (i+1) t
theorem within_snoc (l:List Rg) (i:Nat) (fs:List Int) (f:Int):withinFrom l i (fs++[f])=withinFrom l i fs++if M.hasB l f then [((i+fs.length:Nat):Int)] else []:=by
 induction fs generalizing i with
 | nil=>simp[withinFrom]
 | cons g t ih =>
  simp only[List.cons_append,withinFrom,ih]
  have:i+1+t.length=i+(g :: t).length:=by simp;omega
  rw[this]
  split <;> simp
theorem within_take {l:List Rg}{fs:List Int}{k:Nat}{f:Int}(h:fs[k]?=some f):withinFrom l 0 (fs.take (k+1))=withinFrom l 0 (fs.take k)++if M.hasB l f then [(k:Int)] else []:=by
 obtain ⟨hk,hf⟩:=List.getElem?_eq_some_iff.1 h
 rw[List.take_succ_eq_append_getElem hk,hf,within_snoc]
 have:(fs.take k).length=k:=by simp;omega
 rw[this,Nat.zero_add]
theorem within_len (l:List Rg) (i:Nat) (fs:List Int):(withinFrom l i fs).length≤fs.length:=by
 induction fs generalizing i with
 | nil=>simp[withinFrom]
 | cons f t ih=>simp only[withinFrom];split <;> simp <;> have:=ih (i+1) <;> omega
def withinF (ls:List (List Rg)) (l:List Rg):List Int:=withinFrom l 0 (firstsF ls)


def Pieces (a:List Rg):Prop:=(∀ r∈a,M.okR r)∧a.Pairwise fun x y=>x.2<y.1


theorem info_S:(Tryz.prog.info? 44).map (fun i=>(i.zero,i.size,i.bytes))=some (some (.slice none 0 0),1,24):=by kernel_rfl
def hdr (g:Given):Value:=.slice g.A g.n g.c
structure Rws (wr:World) (B:Nat) (A:Option Addr) (n c:Nat) (gs:List Given):Prop where
 out:wr.ownsRow B 44 1 (.slice A n c) n (gs.map hdr)
 each:∀ g∈gs,Own wr B g.A g.n g.c g.l
 apart:gs.Pairwise fun g h=>∀ b,(hdr g).ownBlock=some b→(hdr h).ownBlock≠some b

theorem Rws.start (w:World) (B:Nat):Rws w B none 0 0 []:=⟨World.ownsRow_nil _ _ _ _,by simp,List.Pairwise.nil⟩
section
variable {wr wx:World}{B:Nat}{A:Option Addr}{n c:Nat}{gs:List Given}
theorem Rws.len (h:Rws wr B A n c gs):gs.length=n:=by have:=h.out.1;simp at this;omega
theorem Rws.keep (h:Rws wr B A n c gs) (hb:Below wr.heap.size wr wx):Rws wx B A n c gs:=⟨zg_ h.out hb,fun g hg=>zg_ (h.each g hg) hb,h.apart⟩
theorem Rws.alloc (h:Rws wr B A n c gs) (o:Obj):Rws (wr.alloc o) B A n c gs:=h.keep (qd_ wr o)
theorem row_lt {e:TypeId}{k m:Nat}{v:Value}{xs:List Value}(h:wr.ownsRow B e k v m xs){b:Nat}(hb:v.ownBlock=some b):b<wr.heap.size:=(h.lt b hb).2
theorem row_type {e e' : TypeId}{k k' m m' : Nat}{v v' : Value}{xs xs' : List Value}(h:wr.ownsRow B e k v m xs) (h' : wr.ownsRow B e' k' v' m' xs') (hne:e≠e'){b:Nat}(hb:v.ownBlock=some b):v'.ownBlock≠some b:=by
 intro hb'
 rcases h.2 with ⟨rfl,_⟩|⟨g,cap,cur,rfl,_,hg,_⟩
 ·simp[Value.ownBlock] at hb
 ·rcases h'.2 with ⟨rfl,_⟩|⟨g', cap', cur', rfl,_,hg', _⟩
  ·simp[Value.ownBlock] at hb'
  ·simp[Value.ownBlock] at hb hb'
   subst hb hb'
   rw[hg] at hg'
   injection hg' with hg'
   injection hg' with _ e1
   exact hne e1
theorem Rws.rdS (h:Rws wr B A n c gs):RdS wr wr.heap.size A n c gs:=by
 have hl:=h.len
 rcases h.out.2 with ⟨h1,h2⟩|⟨g,cap,cur,h1,_,hg,h3,h4,_,_⟩
 ·injection h1 with a1 a2 a3;subst a1 a3
  exact ⟨hl,by omega,by simp[maxLen],fun h=>absurd h (by omega),fun g hg=>(h.each g hg).rd⟩
 ·injection h1 with a1 a2 a3;subst a1 a3
  refine ⟨hl,h3,h4,fun _=>⟨g,0,rfl,row_lt h.out rfl,fun i x hx=>?_⟩,fun x hx=>(h.each x hx).rd⟩
  rw[← add_none]
  exact h.out.cells (g:=g) rfl i _ (by simp[hx,hdr])
theorem Rws.setG {w1:World}{ob k A' m c'}{l' : List Rg}(h:Rws wr B (some ⟨ob,0,none⟩) n c gs) (hk:k<gs.length) (hO:w1.ownsRow B 44 1 (.slice (some ⟨ob,0,none⟩) n c) n (gs.map hdr))
  (hE:∀ j x,j≠k→gs[j]?=some x→Own w1 B x.A x.n x.c x.l) (hV:Own w1 B A' m c' l') (hA:∀ j x,j≠k→gs[j]?=some x→∀ b,(hdr x).ownBlock=some b→(Value.slice A' m c').ownBlock≠some b) :
  Rws (w1.setCell ⟨ob,k,none⟩ (.slice A' m c')) B (some ⟨ob,0,none⟩) n c (gs.set k ⟨A', m,c', l'⟩):=by
 have hob:(Value.slice (some ⟨ob,0,none⟩) n c).ownBlock=some ob:=rfl
 refine ⟨?_,fun x hx=>?_,?_⟩
 ·have:=(hO.stored k (.slice A' m c')).1
  rw[List.map_set];exact this
 ·obtain ⟨j,hj⟩:=List.getElem?_of_mem hx
  by_cases e:j=k
  ·subst e
   rw[List.getElem?_set_self hk] at hj
   injection hj with hj;subst hj
   exact ownsRow_setCell_other hV (row_type hO hV (by decide) hob) _
  ·rw[List.getElem?_set_ne (Ne.symm e)] at hj
   have hx:=hE j x e hj
   exact ownsRow_setCell_other hx (row_type hO hx (by decide) hob) _
 ·rw[List.pairwise_iff_getElem]
  intro i j hi hj hij b
  have hi' : i<gs.length:=by simpa using hi
  have hj' : j<gs.length:=by simpa using hj
  have hp:=List.pairwise_iff_getElem.1 h.apart i j hi' hj' hij
  simp only[List.getElem_set]
  by_cases e1:k=i
  ·subst e1
   rw[if_pos rfl,if_neg (by omega)]
   intro hb hb'
   exact hA j gs[j] (by omega) (List.getElem?_eq_getElem hj') b hb' hb
  ·rw[if_neg e1]
   by_cases e2:k=j
   ·subst e2
    rw[if_pos rfl]
    exact fun hb=>hA i gs[i] (by omega) (List.getElem?_eq_getElem hi') b hb
   ·rw[if_neg e2];exact hp b
theorem Rws.app {w1:World}{ob k:Nat}{g:Given}{v' : Value}{m:Nat}{l' : List Rg}(h:Rws wr B (some ⟨ob,0,none⟩) n c gs) (hk:gs[k]?=some g)
  (ho:w1.ownsRow B 108 2 v' m (cellsR l')) (hg:wr.grownBy w1 (hdr g).ownBlock) (hat:v'.ownBlock=(hdr g).ownBlock∨v'.ownBlock=some wr.heap.size) :
  ∃ A' c', v' = .slice A' m c' ∧ Rws (w1.setCell ⟨ob,k,none⟩ v') B (some ⟨ob,0,none⟩) n c (gs.set k ⟨A', m,c', l'⟩):=by
 obtain ⟨hkl,hkg⟩:=List.getElem?_eq_some_iff.1 hk
 have hgm:=List.mem_of_getElem? hk
 have hown:=h.each g hgm
 have hap:∀ j x,j≠k→gs[j]?=some x→∀ b,(hdr x).ownBlock=some b→(hdr g).ownBlock≠some b:=fun j x hj hx b hb=>by
  obtain ⟨hjl,hjx⟩:=List.getElem?_eq_some_iff.1 hx
  have hp:=List.pairwise_iff_getElem.1 h.apart
  rcases Nat.lt_or_gt_of_ne hj with e|e
  ·have:=hp j k hjl hkl e b;rw[hjx,hkg] at this;exact this hb
  ·intro hb2
   have:=hp k j hkl hjl e b;rw[hjx,hkg] at this;exact this hb2 hb
 have hsh:∃ A' c', v' = .slice A' m c' := by
  rcases ho.2 with ⟨rfl,rfl⟩|⟨g', cap,cur,rfl,_⟩
  ·exact ⟨none,0,rfl⟩
  ·exact ⟨_,cap,rfl⟩
 obtain ⟨A', c', rfl⟩:=hsh
 refine ⟨A', c', rfl,h.setG hkl ?_ ?_ ho ?_⟩
 ·exact h.out.kept hg (.inr fun e=>row_type h.out hown (by decide) rfl (e ▸ rfl))
 ·intro j x hj hx
  have hxo:=h.each x (List.mem_of_getElem? hx)
  refine World.ownsRow.kept hxo hg ?_
  cases hb:(hdr x).ownBlock with
  | none=>exact .inl hb
  | some b=>exact .inr fun e=>hap j x hj hx b hb (by rw[← e];exact hb)
 ·intro j x hj hx b hb hv
  rcases hat with e|e
  ·exact hap j x hj hx b hb (by rw[← e];exact hv)
  ·rw[e] at hv
   injection hv with hv
   have:=row_lt (h.each x (List.mem_of_getElem? hx)) hb
   omega
theorem Rws.push {w1:World}{v' : Value}(h:Rws wr B A n c gs) (ho:w1.ownsRow B 44 1 v' (n+1) (gs.map hdr++[.slice none 0 0])) (hg:wr.grownBy w1 (Value.slice A n c).ownBlock) :
  ∃ ob c', v' = .slice (some ⟨ob,0,none⟩) (n+1) c' ∧ Rws w1 B (some ⟨ob,0,none⟩) (n+1) c' (gs++[⟨none,0,0,[]⟩]):=by
 rcases ho.2 with ⟨_,h2⟩|⟨ob,cap,cur,rfl,_⟩
 ·omega
 ·refine ⟨ob,cap,rfl,by simpa [hdr] using ho,fun x hx=>?_,?_⟩
  ·rcases List.mem_append.1 hx with hx|hx
   ·have hxo:=h.each x hx
    refine World.ownsRow.kept hxo hg ?_
    cases hb:(hdr x).ownBlock with
    | none=>exact .inl hb
    | some b=>exact .inr fun e=>row_type hxo h.out (by decide) (v:=hdr x) hb (by rw[← e];exact hb)
   ·simp at hx;subst hx;exact World.ownsRow_nil _ _ _ _
  ·rw[List.pairwise_append]
   refine ⟨h.apart,List.pairwise_singleton _ _,fun x hx y hy b hb=>?_⟩
   simp at hy;subst hy
   simp[hdr,Value.ownBlock]
end



def OfPost (w:World) (ls:List (List Rg)) (e:Ending) (w' : World):Prop :=
 ∃ res,M.OfSpec ls res∧(res=none→e=.returned (.tuple #[.slice none 0 0,.int .i64 9])) ∧
  (∀ R,res=some R→∃ A n c gs,e=.returned (.tuple #[.slice A n c,.int .i64 0])∧RdS w' w'.heap.size A n c gs∧listsOf gs=R)∧Below w.heap.size w w'
theorem of_none {w w' : World}{ls:List (List Rg)}(h:M.OfSpec ls none) (hb:Below w.heap.size w w'):OfPost w ls (.returned (.tuple #[.slice none 0 0,.int .i64 9])) w' :=
 ⟨none,h,fun _=>rfl,(fun R h=>by cases h),hb⟩
theorem spec_sets {ls:List (List Rg)}(h:60<ls.length):M.OfSpec ls none:=⟨fun _=>rfl,fun _=>rfl,fun _=>rfl,fun h' => by omega⟩
theorem spec_long {ls:List (List Rg)}{l:List Rg}(hl:l∈ls) (h:400<l.length):M.OfSpec ls none:=⟨fun _=>rfl,fun _=>rfl,fun _=>rfl,fun _ h' => by have:=h' l hl;omega⟩
theorem spec_many {ls:List (List Rg)}(h:M.TooMany ls):M.OfSpec ls none:=⟨fun _=>rfl,fun _=>rfl,fun _=>rfl,fun _ _ h' => absurd h h'⟩
theorem spec_wide {ls R:List (List Rg)}{a:List Rg}(hR:M.IsAtoms ls R) (ha:a∈R) (h:400<a.length):M.OfSpec ls none :=
 ⟨fun _=>rfl,fun _=>rfl,fun _=>rfl,fun _ _ _=>⟨R,hR,fun _=>rfl,fun h' => by have:=h' a ha;omega⟩⟩
theorem spec_some {ls R:List (List Rg)}(h1:ls.length≤60) (h2:∀ l∈ls,l.length≤400) (hR:M.IsAtoms ls R) (h3:R.length≤200) (h4:∀ a∈R,a.length≤400):M.OfSpec ls (some R) :=
 ⟨fun h=>by omega,fun ⟨l,hl,h⟩=>by have:=h2 l hl;omega,fun h=>absurd h (M.few_atoms hR h3),fun _ _ _=>⟨R,hR,fun ⟨a,ha,h⟩=>by have:=h4 a ha;omega,fun _=>rfl⟩⟩
end Go.Proofs.YtbbmjdddemahfaaGreat
