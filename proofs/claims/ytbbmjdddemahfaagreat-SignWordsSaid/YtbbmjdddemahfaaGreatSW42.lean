/- Part of the proof. -/
import Derived.Test.YtbbmjdddemahfaaGreatSW41
import Derived.Test.YtbbmjdddemahfaaGreatSW04
import Derived.SizedLaws
namespace Go.Proofs.YtbbmjdddemahfaaGreat
open Go.ChangeShapes Go.WideShapes Go.ChangeAt Go.RowKit Go.Deep
open M (Rg)

theorem cells_S:Tryz.prog.cellsOf 44=1:=by kernel_rfl
theorem bytes_R:Tryz.prog.bytesOf 108=16:=by kernel_rfl
theorem bytes_S:Tryz.prog.bytesOf 44=24:=by kernel_rfl
def Fits {H:Type}(t:TypeId) (d:DataW H):Prop:=∀ x∈d.weights Tryz.prog t,x≤reachBytes
set_option maxRecDepth 100000 in
theorem rd_trod {H:Type}{enc:TypeId × Value→H}{W:World}{fuel:Nat}{cs:List Value}{x:DataW H × List MemPlace}(hf:DataW.trod enc Tryz.prog W 0 (fun _=>true) true fuel 44 cs=some x) :
  ∃ A n c L,cs=[.slice A n c]∧Rd W W.heap.size A n c L∧(Fits 44 x.1→n*16≤reachBytes):=by
 rcases open_slice Tryz.underlying44 hf with ⟨hcs,hx⟩|⟨a,len,cap,m,k,D,Pl,hcs,_,hl,hm,hmm,hx,hcell⟩
 ·exact ⟨none,0,0,[],hcs,Rd.nil _ _,fun _=>by simp⟩
 ·simp only[if_true] at hmm
  subst hmm
  have hp:∀ i,i<len→∃ lo hi:Int,W.cell? (a.add (i*2))=some (.int .i64 lo)∧W.cell? (a.add (i*2+1))=some (.int .i64 hi):=by
   intro i hi
   obtain ⟨cs,hcc,htt⟩:=hcell i (by omega)
   rw[cells_R] at hcc
   obtain ⟨_,hlen,hat⟩:=World.cells?_some hcc
   obtain ⟨y0,y1,k', _,_,t1,t2⟩:=trod_struct2 Tryz.underlying108 htt
   match cs,hlen with
   | [u0,u1],_ =>
    have t1' : DataW.trod enc Tryz.prog W 0 (fun _=>true) true k' 3 [u0]=some y0:=by simpa [cells_I] using t1
    have t2' : DataW.trod enc Tryz.prog W 0 (fun _=>true) true k' 3 [u1]=some y1:=by simpa [cells_I] using t2
    obtain ⟨x1,e1,_,_⟩:=DataW.trod_int Tryz.underlying3 t1'
    obtain ⟨x2,e2,_,_⟩:=DataW.trod_int Tryz.underlying3 t2'
    simp at e1 e2
    subst e1 e2
    have c1:=hat 0 (by omega)
    have c2:=hat 1 (by omega)
    rw[Go.Deep.add_add] at c1 c2
    exact ⟨x1,x2,by simpa using c1,by simpa using c2⟩
  obtain ⟨L,hL,hc⟩:=pairs_of W a len hp
  refine ⟨some a,len,_,L,hcs,⟨hL,hl,hm,fun hn=>?_⟩,fun hw=>?_⟩
  ·have h0:=(hc 0 (by omega)).1
   have hs:a.spot=none:=by
    have:=World.cell?_spot h0
    simpa [Addr.add] using this
   obtain ⟨b,off,sp⟩:=a
   simp at hs
   subst hs
   refine ⟨b,off,rfl,?_,fun j u hu=>?_⟩
   ·have:=lt_of_cell h0;simpa [Addr.add] using this
   ·have hj:j<L.length*2:=by
     have:=(List.getElem?_eq_some_iff.1 hu).1;rwa [zu_] at this
    rcases (show j % 2=0∨j % 2=1 by omega) with g|g
    ·have e:j=j / 2*2:=by omega
     rw[e] at hu ⊢
     rw[cellsR_lo L _ (by omega)] at hu
     rw[← add_none,(hc (j / 2) (by omega)).1,hu]
    ·have e:j=j / 2*2+1:=by omega
     rw[e] at hu ⊢
     rw[cellsR_hi L _ (by omega)] at hu
     rw[← add_none,(hc (j / 2) (by omega)).2,hu]
  ·subst hx
   have:=hw ((len+(m - len))*16) (by simp[DataW.weights,Tryz.underlying44,bytes_R])
   omega
theorem weights_all {H:Type}{e:TypeId}:∀ {l:List (DataW H)}{d:DataW H},d∈l→∀ x∈d.weights Tryz.prog e,x∈DataW.weightsAll Tryz.prog e l
 | y :: t,d,hd,x,hx=>by
  simp only[DataW.weightsAll,List.mem_append]
  rcases List.mem_cons.1 hd with rfl|hd
  ·exact .inl hx
  ·exact .inr (weights_all hd x hx)
theorem givens_of (W:World) (a:Addr):∀ (n:Nat),(∀ i,i<n→∃ A m c L,W.cell? (a.add i)=some (.slice A m c)∧Rd W W.heap.size A m c L∧m*16≤reachBytes) →
  ∃ gs:List Given,gs.length=n∧(∀ i,(h:i<gs.length)→W.cell? (a.add i)=some (.slice gs[i].A gs[i].n gs[i].c))∧∀ g∈gs,Rd W W.heap.size g.A g.n g.c g.l∧g.n*16≤reachBytes
 | 0,_=>⟨[],rfl,fun i h=>absurd h (by simp),by simp⟩
 | n+1,h=>by
  obtain ⟨gs,hl,hc,he⟩:=givens_of W a n fun i hi=>h i (by omega)
  obtain ⟨A,m,c,L,h1,h2,h3⟩:=h n (by omega)
  refine ⟨gs++[⟨A,m,c,L⟩],by simp[hl],fun i hi' => ?_,fun g hg=>?_⟩
  ·by_cases hin:i<gs.length
   ·rw[List.getElem_append_left hin];exact hc i hin
   ·have:i=gs.length:=by simp at hi'; omega
    subst this
    simp[hl,h1]
  ·rcases List.mem_append.1 hg with hg|hg
   ·exact he g hg
   ·simp at hg;subst hg;exact ⟨h2,h3⟩
set_option maxRecDepth 100000 in
theorem rdS_arg {H:Type}{enc:TypeId × Value→H}{W:World}{r:Reach}{b0:Nat}{v:Value}{d:DataW H}{p:List MemPlace}(hv:Value.okWide Tryz.prog W r b0 22 v)
  (h:DataW.Trod enc Tryz.prog W 0 (fun _=>true) true 22 v d p) (hw:Fits 22 d):∃ A n c gs,v=.slice A n c∧RdS W W.heap.size A n c gs∧SmallS gs:=by
 obtain ⟨a0,len,cap,rfl⟩:=okWide_slice Tryz.underlying22 hv
 obtain ⟨fuel,hf⟩:=h
 rcases open_slice Tryz.underlying22 hf with ⟨hcs,hx⟩|⟨a,len', cap', m,k,D,Pl,hcs,_,hl,hm,hmm,hx,hcell⟩
 ·simp[Value.cells] at hcs
  obtain ⟨rfl,rfl,rfl⟩:=hcs
  exact ⟨none,0,0,[],rfl,⟨rfl,Nat.le_refl _,by simp[maxLen],fun h=>absurd h (by omega),by simp⟩,by simp,by simp⟩
 ·simp[Value.cells] at hcs
  obtain ⟨rfl,rfl,rfl⟩:=hcs
  simp only[if_true] at hmm
  subst hmm
  have hd:d=.slice ((List.range len).map D) ((List.range (m - len)).map fun j=>D (len+j)):=congrArg Prod.fst hx
  subst hd
  have hgs:∀ i,i<len→∃ A m c L,W.cell? (a.add i)=some (.slice A m c)∧Rd W W.heap.size A m c L∧m*16≤reachBytes:=fun i hi=>by
   obtain ⟨cs,hcc,htt⟩:=hcell i (by omega)
   rw[cells_S,Nat.mul_one] at hcc
   obtain ⟨_,hlen,hat⟩:=World.cells?_some hcc
   obtain ⟨A,n,c,L,e,hr,hb⟩:=rd_trod htt
   refine ⟨A,n,c,L,?_,hr,hb fun x hx' => ?_⟩
   ·have:=hat 0 (by omega)
    rw[Go.Deep.add_add] at this
    simpa [e] using this
   ·refine hw x ?_
    simp only[DataW.weights,Tryz.underlying22,List.mem_cons,List.mem_append]
    exact .inr (.inl (weights_all (List.mem_map.2 ⟨i,List.mem_range.2 hi,rfl⟩) x hx'))
  obtain ⟨gs,hgl,hgc,hge⟩:=givens_of W a len hgs
  have hlw:=hw ((len+(m - len))*24) (by simp[DataW.weights,Tryz.underlying22,bytes_S])
  unfold reachBytes at hlw
  refine ⟨some a,len,_,gs,rfl,⟨hgl,hl,hm,fun hn=>?_,fun g hg=>(hge g hg).1⟩,by omega,fun g hg=>?_⟩
  ·have h0:=hgc 0 (by omega)
   have hs:a.spot=none:=by
    have:=World.cell?_spot h0
    simpa [Addr.add] using this
   obtain ⟨b,off,sp⟩:=a
   simp at hs
   subst hs
   refine ⟨b,off,rfl,?_,fun i g hg=>?_⟩
   ·have:=lt_of_cell h0;simpa [Addr.add] using this
   ·obtain ⟨hi,hx'⟩:=List.getElem?_eq_some_iff.1 hg
    have:=hgc i hi
    rw[hx', add_none] at this
    exact this
  ·have:=(hge g hg).2
   unfold reachBytes at this
   omega
end Go.Proofs.YtbbmjdddemahfaaGreat
