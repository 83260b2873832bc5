/- SignWords answers true for every input, and each argument reads afterwards as it read before; no condition. -/
import Derived.Test.YtbbmjdddemahfaaGreatSW40
import Derived.Test.YtbbmjdddemahfaaGreatSW42
namespace Go.Proofs.YtbbmjdddemahfaaGreat
open Go.ChangeShapes Go.WideShapes Go.ChangeAt Go.RowKit Go.Deep
theorem list_of10 (w:World) (a:Addr) (k:IntKind):∀ (n:Nat),(∀ i,i<n→∃ x:Int,w.cell? (a.add i)=some (.int k x)∧(Lit.int k x).wf=true) →
  ∃ L:List Int,L.length=n∧(∀ (i:Nat) (x:Int),L[i]?=some x→w.cell? (a.add i)=some (.int k x))∧∀ x∈L,(Lit.int k x).wf=true
 | 0,_=>⟨[],rfl,fun i x h=>by simp at h,fun x h=>by cases h⟩
 | n+1,h=>by
  obtain ⟨L,hl,hc,hw⟩:=list_of10 w a k n fun i hi=>h i (by omega)
  obtain ⟨y,h1,h2⟩:=h n (by omega)
  refine ⟨L++[y],by simp[hl],fun i x hx=>?_,fun x hx=>?_⟩
  ·by_cases hin:i<L.length
   ·rw[List.getElem?_append_left hin] at hx;exact hc i x hx
   ·have hi:i<(L++[y]).length:=(List.getElem?_eq_some_iff.1 hx).1
    obtain rfl:i=L.length:=by simp at hi;omega
    simp at hx
    subst hx
    rw[hl];exact h1
  ·rcases List.mem_append.1 hx with hx|hx
   ·exact hw x hx
   ·simp at hx;subst hx;exact h2
set_option maxRecDepth 100000 in
theorem rdi_arg {H:Type}{enc:TypeId × Value→H}{W:World}{r:Reach}{b0:Nat}{v:Value}{d:DataW H}{p:List MemPlace}{t e:TypeId}(ht:Tryz.prog.underlying t=some (.slice e)) (he:Tryz.prog.underlying e=some (.int .i64)) (hce:Tryz.prog.cellsOf e=1)
  (hv:Value.okWide Tryz.prog W r b0 t v) (h:DataW.Trod enc Tryz.prog W 0 (fun _=>true) true t v d p):∃ A n c L,v=.slice A n c∧RdI W W.heap.size A n c L∧∀ x∈L,(Lit.int .i64 x).wf=true:=by
 obtain ⟨a0,len,cap,rfl⟩:=okWide_slice ht hv
 obtain ⟨fuel,hf⟩:=h
 rcases open_slice ht hf with ⟨hcs,hx⟩|⟨a,len', cap', m,kk,D,Pl,hcs,_,hl,hm,hmm,hx,hcell⟩
 ·simp[Value.cells] at hcs
  obtain ⟨rfl,rfl,rfl⟩:=hcs
  exact ⟨none,0,0,[],rfl,rdI_nil _,fun x h=>by cases h⟩
 ·simp[Value.cells] at hcs
  obtain ⟨rfl,rfl,rfl⟩:=hcs
  simp only[if_true] at hmm
  subst hmm
  have hp:∀ i,i<len→∃ x:Int,W.cell? (a.add i)=some (.int .i64 x)∧(Lit.int .i64 x).wf=true:=by
   intro i hi
   obtain ⟨cs,hcc,htt⟩:=hcell i (by omega)
   rw[hce] at hcc
   obtain ⟨_,hlen,hat⟩:=World.cells?_some hcc
   obtain ⟨x,e1,_,hw⟩:=DataW.trod_int he htt
   subst e1
   have c1:=hat 0 (by omega)
   rw[Go.Deep.add_add] at c1
   exact ⟨x,by simpa using c1,hw⟩
  obtain ⟨L,hL,hc,hw⟩:=list_of10 W a .i64 len hp
  refine ⟨some a,len,_,L,rfl,⟨hL,hl,hm,fun hn=>?_⟩,hw⟩
  have h0:W.cell? (a.add 0)=some (.int .i64 (L[0]'(by omega))):=hc 0 _ (List.getElem?_eq_getElem (by omega))
  have hs:a.spot=none:=by
   have:=World.cell?_spot h0
   simpa [Addr.add] using this
  obtain ⟨b,off,sp⟩:=a
  simp at hs
  subst hs
  refine ⟨b,off,rfl,?_,fun j x hj=>?_⟩
  ·have:=lt_of_cell h0;simpa [Addr.add] using this
  ·rw[← qo_];exact hc j x hj

set_option maxRecDepth 100000 in
set_option maxHeartbeats 800000 in
theorem words_lifted (os:Os) (started:os.Started) (H:Type) (enc:TypeId × Value→H) :
  ReturnsInHanded {} Tryz.checked os 3 .any (Rows.signWordsSpec.pre6 enc Tryz.prog Tryz.f3 Rows.signWordsRow.domain false) (Rows.signWordsSpec.post enc Tryz.prog Tryz.f3 false true false false):=by
 refine returnsInHanded_of_change_sized (C:=Tryz.checked) Tryz.own started (by kernel_rfl) Tryz.func3
  (ChangeSpec.witness6 (enc:=enc) (C:=Tryz.checked) false ⟨#[],#[.slice none 0 0,.slice none 0 0,.slice none 0 0],[]⟩ 8 (by kernel_rfl) (by kernel_rfl) (by kernel_rfl) (by kernel_rfl)) ?_
 intro W base args ds gs before hval0 hW _ hsz0 _
 have hval:∀ (j:Nat) t v,Tryz.f3.params[j]?=some t→args[j]?=some v→Value.okWide Tryz.prog W .any base t v:=hval0
 have hW' := hW
 obtain ⟨p,q,hA0,hV,rfl,_,_⟩:=hW
 have hA:DataW.TrodAll enc Tryz.prog W 0 (fun _=>true) true Tryz.f3.params.toList args.toList ds p:=hA0
 have hsz:(DataW.weightsEach Tryz.prog (Tryz.f3.params.toList++Rows.signWordsSpec.plain.varTypes Tryz.prog) (ds++gs)).all (·≤reachBytes)=true:=hsz0
 rw[Tryz.params3] at hA hval hsz
 obtain ⟨v0,v1,v2,d0,d1,d2,p0,p1,p2,rfl,rfl,rfl,h0,h1,h2⟩:=trodAll_three hA
 obtain ⟨rfl,rfl⟩:=trodVars_none hV
 have h0k:=h0
 have h1k:=h1
 have h2k:=h2
 have hft0:Fits 22 d0:=fun x hx=>by simpa using List.all_eq_true.1 hsz x (DataW.weights_mem_each (j:=0) rfl rfl x hx)
 obtain ⟨A0,n0,c0,L0,rfl,hrd0,hsm0⟩:=rdS_arg (hval 0 22 v0 rfl rfl) h0 hft0
 obtain ⟨A1,n1,c1,L1,rfl,hrd1,_⟩:=rdi_arg Tryz.underlying23 Tryz.underlying3 (by kernel_rfl) (hval 1 23 v1 rfl rfl) h1
 obtain ⟨A2,n2,c2,L2,rfl,hrd2,_⟩:=rdi_arg Tryz.underlying23 Tryz.underlying3 (by kernel_rfl) (hval 2 23 v2 rfl rfl) h2
 clear hA0 hval0
 simp only[List.append_nil] at hW'
 have hlt0:∀ y∈p0,y.block<W.heap.size:=fun y hy=>by simpa using hW'.lt y (by simp[hy])
 have hlt1:∀ y∈p1,y.block<W.heap.size:=fun y hy=>by simpa using hW'.lt y (by simp[hy])
 have hlt2:∀ y∈p2,y.block<W.heap.size:=fun y hy=>by simpa using hW'.lt y (by simp[hy])
 refine (words_walk hrd0 hsm0 hrd1 hrd2).mono fun e W' ⟨he,hn⟩=>?_
 subst he
 have harg0:=Below.trod Tryz.laidOut (by kernel_rfl) (of_decide_eq_true (by kernel_rfl)) h0k hn hlt0
 have harg1:=Below.trod Tryz.laidOut (by kernel_rfl) (of_decide_eq_true (by kernel_rfl)) h1k hn hlt1
 have harg2:=Below.trod Tryz.laidOut (by kernel_rfl) (of_decide_eq_true (by kernel_rfl)) h2k hn hlt2
 exact ⟨_,rfl,_,_,_,[],_,[],hW', trodAll_mk1 (shut_bool Tryz.underlying4 true),trodAll_mk3 harg0 harg1 harg2,rfl,hn.frame _,fun h=>by cases h⟩

theorem words_holds:Rows.SignWordsSaid :=
 OpenClaim.holds_of_wide 3 Tryz.f3 rfl rfl rfl rfl rfl rfl rfl ⟨rfl,rfl,rfl,rfl,rfl⟩ rfl rfl rfl rfl rfl (by kernel_rfl) Tryz.func3 (by kernel_rfl)
  (of_decide_eq_true (by kernel_rfl)) (by unfold Func.isWrapper;first|(rw[if_pos (by decide +kernel)];kernel_rfl)|(rw[if_neg (by decide +kernel)];exact ⟨rfl,rfl⟩))
  (fun os started H enc _=>words_lifted os started H enc)
end Go.Proofs.YtbbmjdddemahfaaGreat
