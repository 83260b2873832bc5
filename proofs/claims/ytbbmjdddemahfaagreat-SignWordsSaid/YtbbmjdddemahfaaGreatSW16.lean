/- Part of the proof. -/
import Derived.Test.YtbbmjdddemahfaaGreatSW15
import Derived.Test.YtbbmjdddemahfaaGreatSW05
import Derived.Shelf.Abstract
import Derived.Shelf.RegionOpen
import Derived.TacticsInMore
import Derived.LoopNIn
import Derived.LoopIn
import Derived.Sort.CutIn
import Derived.RegionIn
namespace Go.Proofs.YtbbmjdddemahfaaGreat
open Go.RowKit Go.Shelf
open M (Rg)
attribute [local go_sem] Oper.semAt_some

section
variable {F:Fence}{nF:Nat}{P:Program}{w:World}{ops:Array Oper}{rest:List Oper}{o:Oper}{a:Act}{Q:Exit→Act→World→Prop}
theorem load_arr (hg:o.guard=none) (ty:TypeId) (x:Operand) (hop:o.op=.load ty x) (g:Nat) (hx:a.eval x=.pointer (some ⟨g,0,none⟩)) (t:TypeId) (cs:Array Value) (fr:Nat × Nat) (d:TypeDesc)
  (hh:w.heap[g]?=some (.cells cs t fr)) (hu:P.underlying ty=some d) (hd:(match d with | .struct _ | .array _ _=>true|_=>false)=true) (hi:(P.info? ty).map (·.size)=some cs.size)
  (h:wpListIn F nF P ops Q rest (a.put o.dst (.agg cs)) w):wpListIn F nF P ops Q (o :: rest) a w:=by
 refine wpListIn_plain hg fun K hK=>?_
 refine ⟨by simp[Oper.about,hop],?_⟩
 rw[Oper.semAt_plain F _ _ (by rw[hop];intro c hc;cases hc)]
 unfold execOp
 simp only[hop,hx,Instr.loadAt,Instr.sureAddr,Sem.run_bind,Sem.run_pure,Result.andThen_ok,run_loadVar_row w g t ty cs fr d hh hu hd hi]
 exact hK _ _ h
theorem store_arr (hg:o.guard=none) (ty:TypeId) (x y:Operand) (hop:o.op=.store ty x y) (g:Nat) (hx:a.eval x=.pointer (some ⟨g,0,none⟩)) (cs old:Array Value) (hy:a.eval y=.agg cs) (t:TypeId)
  (hh:w.heap[g]?=some (.cells old t (0,0))) (hi:(P.info? ty).map (·.size)=some cs.size) (ho:old.size=cs.size) (h1:cs.all (·.oneCell')=true)
  (h:wpListIn F nF P ops Q rest (a.put o.dst undef) (w.setRow g cs)):wpListIn F nF P ops Q (o :: rest) a w:=by
 refine wpListIn_plain hg fun K hK=>?_
 refine ⟨by simp[Oper.about,hop],?_⟩
 rw[Oper.semAt_plain F _ _ (by rw[hop];intro c hc;cases hc)]
 unfold execOp
 simp only[hop,hx,hy,Instr.storeAt,Instr.sureAddr,Sem.run_bind,Sem.run_pure,Result.andThen_ok,run_storeVar_row w g t ty old cs hh hi ho h1]
 exact hK _ _ h
end
abbrev Ow:={ o:List Bool // o.length=60 }
abbrev Pxi:=Rg × Ow
def bare (x:Pxi):M.Pc:=(x.1,x.2.1)
def owV (o:List Bool):Array Value:=(o.map Value.bool).toArray
def encP (x:Pxi):Array Value:=#[.agg #[.int .i64 x.1.1,.int .i64 x.1.2],.agg (owV x.2.1)]
def its:Obj→Bool
 | .cells _ t _=>t == 110 || t == 146
 | _=>false
def mine:Obj→Bool
 | .cells _ t _=>t != 110
 | .map _ _=>true
 | _=>false
theorem owV_size (o:List Bool):(owV o).size=o.length:=by simp[owV]
theorem info_O:(Tryz.prog.info? 110).map (·.size)=some 60:=by kernel_rfl
theorem owV_get (o:List Bool) (j:Nat) (b:Bool) (h:o[j]?=some b):(owV o)[j]?=some (.bool b):=by simp[owV,h]
theorem owV_start:owV (M.whoL [])=Array.replicate 60 (.bool false):=by rw[M.who_start];rfl
def ItSt (ls:List (List Rg)) (E:List M.Ed) (A:Option Addr) (d B:Nat) (J:List Pxi→World→Prop) (k:Nat) (pre:List Pxi) (f:Int) (wr:World):Prop :=
 J pre wr∧wr.heap[d]?=some (.cells (owV (M.whoL (E.take k))) 110 (0,0))∧EdAt wr B A E∧pre.map bare++M.pcs ls f (E.drop k)=M.pcs ls 0 E∧0≤f∧f≤1114112∧∀ e∈E.take k,e.1≤f

section
variable {ls:List (List Rg)}{E:List M.Ed}{A:Option Addr}{d B k:Nat}{J:List Pxi→World→Prop}{pre:List Pxi}{f at_:Int}{s:Nat}{W W' w' : World}
theorem it_edge (hl:ls.length≤60) (hE:M.IsE ls E) (h:E[k]?=some (at_,s)):0≤at_∧at_≤1114112∧s<60:=by
 have:=M.edge_turns hl (hE.perm.mem_iff.1 (List.mem_of_getElem? h))
 exact ⟨this.2.1,this.2.2.1,this.2.2.2⟩
theorem drop_at (h:E[k]?=some (at_,s)):E.drop k=(at_,s) :: E.drop (k+1):=by
 obtain ⟨hk,hx⟩:=List.getElem?_eq_some_iff.1 h
 rw[List.drop_eq_getElem_cons hk,hx]
theorem take_at (h:E[k]?=some (at_,s)):E.take (k+1)=E.take k++[(at_,s)]:=by
 obtain ⟨hk,hx⟩:=List.getElem?_eq_some_iff.1 h
 rw[List.take_succ_eq_append_getElem hk,hx]
theorem it_who (hl:ls.length≤60) (hE:M.IsE ls E) (h:E[k]?=some (at_,s)) (htk:∀ e∈E.take k,e.1≤f) (hf:f<at_):M.whoL (E.take k)=M.ow ls f:=by
 refine M.who_is hl hE (List.take_append_drop k E).symm htk fun e he=>?_
 have hs:(E.drop k).Pairwise fun x y=>x.1≤y.1:=hE.sort.sublist (List.drop_sublist _ _)
 rw[drop_at h] at hs he
 rw[List.pairwise_cons] at hs
 rcases List.mem_cons.1 he with rfl|he
 ·exact hf
 ·have:=hs.1 e he
  have h2:at_≤e.1:=this
  omega
theorem it_who_end (hl:ls.length≤60) (hE:M.IsE ls E) (hk:¬ k<E.length) (htk:∀ e∈E.take k,e.1≤f):M.whoL (E.take k)=M.ow ls f :=
 M.who_is hl hE (List.take_append_drop k E).symm htk fun e he=>by rw[List.drop_eq_nil_of_le (by omega)] at he;simp at he
theorem owV_set (o:List Bool) (i:Nat) (b:Bool):owV (o.set i b)=(owV o).setIfInBounds i (.bool b):=by
 apply Array.ext_getElem?
 intro j
 unfold owV
 simp[List.map_set]
theorem EdAt.keep (h:EdAt W B A E) (hk:Keeps its W W'):EdAt W' B A E:=fun h0=>by
 obtain ⟨b,cs,e,hB,hh,hc⟩:=h h0
 exact ⟨b,cs,e,hB,hk.2 _ _ hh rfl,hc⟩
theorem it_next (hd:d<B) (hW:w'.heap.size≤d) (hJ:∀ pre A' B', J pre A' → Below w'.heap.size A' B' → Keeps (fun o=>mine o || book o) A' B' → J pre B') (hE:E[k]?=some (at_,s)) (hs:s<60){g:Int}{pre' : List Pxi}
  (hj:J pre' W) (hwh:W.heap[d]?=some (.cells (owV (M.whoL (E.take k))) 110 (0,0))) (hea:EdAt W B A E) (hpc:pre'.map bare++M.pcs ls g (E.drop (k+1))=M.pcs ls 0 E) (h0:0≤g) (h1:g≤1114112)
  (htk:∀ e∈E.take k,e.1≤g) (hat:at_≤g):ItSt ls E A d B J (k+1) pre' g (W.drew.setCell ⟨d,s,none⟩ (.bool (!M.odd s (E.take k)))):=by
 have hwh' : W.drew.heap[d]?=some (.cells (owV (M.whoL (E.take k))) 110 (0,0)):=hwh
 refine ⟨hJ _ _ _ hj ?_ ?_,?_,?_,hpc,h0,h1,?_⟩
 ·exact ((Below.refl _ _).drew).setCell (p:=⟨d,s,none⟩) hW _
 ·exact (Keeps.drewN _ _ 1).trans (Keeps.set hwh' rfl s _)
 ·rw[heap_setCell_same _ d s _ _ _ hwh', take_at hE,M.who_turn _ _ hs,owV_set]
 ·intro h
  obtain ⟨b,cs,e,hB,hh,hc⟩:=hea h
  exact ⟨b,cs,e,hB,by rw[heap_setCell_other _ _ _ _ (show b≠d by omega)];exact hh,hc⟩
 ·intro e he
  rw[take_at hE] at he
  rcases List.mem_append.1 he with he|he
  ·exact htk e he
  ·simp at he;subst he;exact hat
end

set_option maxHeartbeats 4000000 in
set_option maxRecDepth 100000 in
theorem iter_any {w:World}{A:Option Addr}{n c Bs:Nat}{gs:List Given}(hg:RdS w w.heap.size A n c gs) (hn:n≤60) (hl:∀ l∈listsOf gs,l.length≤400) (hBs:Bs<w.heap.size) (hbox:w.cell? ⟨Bs,0,none⟩=some (.slice A n c)) :
  SeqM Tryz.prog 71 #[.pointer (some ⟨Bs,0,none⟩)] encP its mine (fun xs=>M.Run (listsOf gs) 0 (xs.map bare)) (fun pre=>∃ ys,M.Run (listsOf gs) 0 ys∧(pre.map bare) <+: ys) 48001 w:=by
 intro m l J Jx W hW hJ hJx hY h0
 have HG:=ha_ (hg.on hW)
 have HL:=ha_ hl
 have hb0:W.cell? ⟨Bs,0,none⟩=some (.slice A n c):=(hW.cell (p:=⟨Bs,0,none⟩) hBs).trans hbox
 have hBs2:Bs<W.heap.size:=Nat.lt_of_lt_of_le hBs hW.size
 have HJ:=ha_ hJ
 have HJx:=ha_ hJx
 have HY:=ha_ hY
 have H0:=ha_ h0
 have HW:=ha_ hW
 clear hg hl hJ hJx hY h0 hW hbox
 refine callsIn_of_wp Tryz.func71 rfl trivial ?_ rfl
 simp only[Tryz.ntmps71,List.size_toArray,List.length_cons,List.length_nil,Nat.reduceAdd,Nat.reduceSub,Array.replicate_succ,Array.replicate_zero,List.push_toArray,List.append_toArray,List.nil_append,List.cons_append]
 gi_wp2_with fail
 refine ⟨trivial,?_⟩
 have hWA:Below W.heap.size W (W.alloc (.cells (Array.replicate 60 (.bool false)) 110)):=qd_ _ _
 have hWH:(W.alloc (.cells (Array.replicate 60 (.bool false)) 110)).heap[W.heap.size]?=some (.cells (owV (M.whoL ([]:List M.Ed))) 110 (0,0)):=by rw[owV_start];exact World.alloc_heap_new W _
 change CallsIn Fence.wide m Tryz.prog 72 _ (W.alloc (.cells (Array.replicate 60 (.bool false)) 110)) _
 generalize W.alloc (.cells (Array.replicate 60 (.bool false)) 110)=W0 at *
 refine (callsIn_wide.2 (sedges_any (HG.out.on hWA) hn HL.out)).mono ?_
 rintro e w2 ⟨AE,cE,E,rfl,hE,hlen,hat,hb2⟩
 have hd1:W.heap.size<W0.heap.size:=(Array.getElem?_eq_some_iff.1 hWH).1
 have HSt:Hid (ItSt (listsOf gs) E AE W.heap.size W0.heap.size J 0 [] 0 w2):=by
  refine ⟨HJ.out _ _ _ H0.out ?_ ?_,(hb2.block _ hd1).trans hWH,hat,rfl,by omega,by omega,by simp⟩
  ·exact (hWA.mono HW.out.size).trans (hb2.mono (Nat.le_trans HW.out.size (by omega)))
  ·exact (Keeps.below hWA _).trans (Keeps.below hb2 _)
 have HE:=ha_ hE
 have hdw:=HW.out.size
 have hls:(listsOf gs).length≤60:=by have:=HG.out.len;simp[listsOf];omega
 have HLS:=ha_ hls
 clear hE hat hb2 hWH hWA H0 HG HL hb0 hls
 generalize W.heap.size=d at *
 generalize W0.heap.size=d0 at *
 gi_wp2_with fail
 gi_loopw [4,10] (fun f i wr=>∃ (k:Nat) (pre:List Pxi) (fr:Int),k≤E.length∧i=.int .i64 k∧f=.int .i64 fr∧ItSt (listsOf gs) E AE d d0 J k pre fr wr) (fun _ i _=>E.length - (intOf i).toNat)
 case atStart=>exact ⟨0,[],0,Nat.zero_le _,rfl,rfl,HSt.out⟩
 case round =>
  obtain ⟨k,pre,fr,hk,rfl,rfl,hJ1,hwh,hea,hpc,hf0,hf1,htk⟩:=hrel
  by_cases hlt:k<E.length
  ·obtain ⟨b,cs,rfl,hbd,hbk,hcs⟩:=hea (by omega)
   obtain ⟨at_,s,hek⟩:∃ at_ s,E[k]?=some (at_,s):=⟨E[k].1,E[k].2,List.getElem?_eq_getElem hlt⟩
   obtain ⟨ha0,ha1,hs60⟩:=it_edge HLS.out HE.out hek
   have hr2:(edR E)[k]?=some (at_,(s:Int)):=by unfold edR;simp[hek]
   obtain ⟨hrl,hrx⟩:=List.getElem?_eq_some_iff.1 hr2
   have c1:wr.cell? ⟨b,k*2,none⟩=some (.int .i64 at_):=by
    rw[cell_of_row wr b (k*2) cs _ (0,0) hbk];exact hcs _ _ (by rw[cellsR_lo _ _ hrl,hrx])
   have c2:wr.cell? ⟨b,k*2+1,none⟩=some (.int .i64 s):=by
    rw[cell_of_row wr b (k*2+1) cs _ (0,0) hbk];exact hcs _ _ (by rw[cellsR_hi _ _ hrl,hrx])
   have HEK:=ha_ hek
   have HEA:=ha_ hea
   have HPC:=ha_ hpc
   have HTK:=ha_ htk
   have HJ1:=ha_ hJ1
   have HWH:=ha_ hwh
   have hbsz:b<wr.heap.size:=(Array.getElem?_eq_some_iff.1 hbk).1
   have hdsz:d<wr.heap.size:=(Array.getElem?_eq_some_iff.1 hwh).1
   clear hr2 hrl hrx hek hea hpc htk hJ1 hwh hcs hbk
   have z1:(0:Int)≤(s:Int):=by omega
   have z2:(s:Int)<60:=by omega
   by_cases hc:fr<at_
   ·have hx:M.whoL (E.take k)=M.ow (listsOf gs) fr:=it_who HLS.out HE.out HEK.out HTK.out hc
    have HX:=ha_ hx
    clear hx
    have hpl:pre.length<48001:=by
     have h1:=congrArg List.length HPC.out
     have h2:=M.pcs_len (listsOf gs) E 0
     have h3:0<(M.pcs (listsOf gs) fr (E.drop k)).length:=by rw[drop_at HEK.out];unfold M.pcs;rw[if_pos hc];simp
     simp at h1
     omega
    have HB1:=ha_ (qd_ wr (.cells #[.int .i64 at_,.int .i64 s] 146))
    obtain ⟨fn,tmps,assign,body,hy,hR⟩:=HY.out pre ((fr,at_ - 1),⟨M.whoL (E.take k),M.who_len _⟩) _ (HJ.out _ _ _ HJ1.out (HB1.out.mono (by omega)) (Keeps.below HB1.out _)) hpl
    simp only[encP] at hy
    have HH:Hid ((wr.alloc (.cells #[.int .i64 at_,.int .i64 s] 146)).heap[d]?=some (.cells (owV (M.whoL (E.take k))) 110 (0,0))):=(HB1.out.block d hdsz).trans HWH.out
    have HR:=ha_ hR
    clear hR
    gi_wp2_with (refine load_arr rfl 110 (.tmp 3) rfl d rfl 110 (owV (M.whoL (E.take k))) (0,0) _ HH.out Tryz.underlying110 rfl (by rw[owV_size,M.who_len];exact info_O) ?_)
    refine HR.out.mono ?_
    rintro e W3 (⟨rfl,hJ3,hk3⟩|⟨rfl,hJx3⟩)
    ·have he3:=hk3.2 _ _ (World.alloc_heap_new wr (.cells #[.int .i64 at_,.int .i64 s] 146)) rfl
     have hw3:=hk3.2 _ _ HH.out rfl
     have HE3:=ha_ ((HEA.out.keep (Keeps.alloc its wr _)).keep hk3)
     have e0:W3.cell? ⟨wr.heap.size,0,none⟩=some (.int .i64 at_):=by rw[cell_of_row _ _ _ _ _ _ he3];rfl
     have e1:W3.cell? ⟨wr.heap.size,1,none⟩=some (.int .i64 s):=by rw[cell_of_row _ _ _ _ _ _ he3];rfl
     have wc:W3.cell? ⟨d,s,none⟩=some (.bool (M.odd s (E.take k))):=by rw[cell_of_row _ _ _ _ _ _ hw3];exact owV_get _ _ _ (M.who_get _ _ hs60)
     have wf:W3.frozen? ⟨d,s,none⟩=false:=by simp[World.frozen?,hw3]
     have HN:Hid (ItSt (listsOf gs) E (some ⟨b,0,none⟩) d d0 J (k+1) (pre++[((fr,at_ - 1),⟨M.whoL (E.take k),M.who_len _⟩)]) at_ (W3.drew.setCell ⟨d,s,none⟩ (.bool (!M.odd s (E.take k))))):=by
      refine it_next hd1 hdw HJ.out HEK.out hs60 hJ3 hw3 HE3.out ?_ ha0 ha1 (fun e he=>by have:=HTK.out e he;omega) (Int.le_refl _)
      rw[← HPC.out,drop_at HEK.out]
      show _=_++(if fr<at_ then _ else _)
      rw[if_pos hc,← HX.out]
      simp[bare]
     clear hJ3 hk3 he3 hw3 HE3 HH HR hy HB1 HPC HTK HWH HJ1 HEA HX
     generalize M.odd s (E.take k)=bt at *
     gi_wp2_with fail
     gi_region
     gi_wp2
     go_roundw
     case rel=>exact ⟨k+1,_,at_,by omega,by go_num,rfl,HN.out⟩
     case measure=>simp[intOf];omega
    ·have RR:Hid (∃ ys,M.Run (listsOf gs) 0 ys∧((pre++[((fr,at_ - 1),(⟨M.whoL (E.take k),M.who_len _⟩:Ow))]).map bare) <+: ys):=by
      refine ⟨_,M.pcs_run HLS.out HE.out E [] 0 rfl (by simp) (fun e he=>(M.edge_turns HLS.out (HE.out.perm.mem_iff.1 he)).2.1) (by omega),M.pcs (listsOf gs) at_ (E.drop (k+1)),?_⟩
      rw[← HPC.out,drop_at HEK.out]
      show _=_++(if fr<at_ then _ else _)
      rw[if_pos hc,← HX.out]
      simp[bare]
     have JX:=ha_ hJx3
     clear hJx3 hy HR HH HB1
     gi_wp2
     refine bodyPost_ret (results_none rfl _ _ _) rfl ?_
     exact ⟨⟨_,rfl⟩,.inr ⟨_,RR.out,JX.out⟩⟩
   ·have HB1:=ha_ (qd_ wr (.cells #[.int .i64 at_,.int .i64 s] 146))
    have hw3:=(HB1.out.block d hdsz).trans HWH.out
    have HE3:=ha_ (HEA.out.keep (Keeps.alloc its wr (.cells #[.int .i64 at_,.int .i64 s] 146)))
    have hJ3:=HJ.out _ _ _ HJ1.out (HB1.out.mono (by omega)) (Keeps.below HB1.out _)
    have e1:(wr.alloc (.cells #[.int .i64 at_,.int .i64 s] 146)).cell? ⟨wr.heap.size,1,none⟩=some (.int .i64 s):=by simp
    have wc:(wr.alloc (.cells #[.int .i64 at_,.int .i64 s] 146)).cell? ⟨d,s,none⟩=some (.bool (M.odd s (E.take k))):=by rw[cell_of_row _ _ _ _ _ _ hw3];exact owV_get _ _ _ (M.who_get _ _ hs60)
    have wf:(wr.alloc (.cells #[.int .i64 at_,.int .i64 s] 146)).frozen? ⟨d,s,none⟩=false:=by simp[World.frozen?,hw3]
    have HN:Hid (ItSt (listsOf gs) E (some ⟨b,0,none⟩) d d0 J (k+1) pre fr ((wr.alloc (.cells #[.int .i64 at_,.int .i64 s] 146)).drew.setCell ⟨d,s,none⟩ (.bool (!M.odd s (E.take k))))):=by
     refine it_next hd1 hdw HJ.out HEK.out hs60 hJ3 hw3 HE3.out ?_ hf0 hf1 HTK.out (by omega)
     rw[← HPC.out,drop_at HEK.out]
     show _=_++(if fr<at_ then _ else _)
     rw[if_neg hc]
    clear hJ3 hw3 HE3 HB1 HPC HTK HWH HJ1 HEA
    generalize M.odd s (E.take k)=bt at *
    gi_wp2_with fail
    generalize wr.alloc (.cells #[.int .i64 at_,.int .i64 s] 146)=W3 at *
    gi_region
    gi_wp2
    go_roundw
    case rel=>exact ⟨k+1,pre,fr,by omega,by go_num,rfl,HN.out⟩
    case measure=>simp[intOf];omega
  ·have hpe:M.pcs (listsOf gs) fr (E.drop k)=if fr≤1114111 then [((fr,1114111),M.ow (listsOf gs) fr)] else []:=by rw[List.drop_eq_nil_of_le (by omega)];rfl
   have hrun:=M.pcs_run HLS.out HE.out E [] 0 rfl (by simp) (fun e he=>(M.edge_turns HLS.out (HE.out.perm.mem_iff.1 he)).2.1) (by omega)
   rw[hpe] at hpc
   have hx:=it_who_end HLS.out HE.out hlt htk
   by_cases hc:fr≤1114111
   ·rw[if_pos hc] at hpc
    have hpl:pre.length<48001:=by
     have h1:=congrArg List.length hpc
     have h2:=M.pcs_len (listsOf gs) E 0
     simp at h1
     omega
    have HF:Hid (M.pcs (listsOf gs) 0 E=(pre++[((fr,1114111),(⟨M.whoL (E.take k),M.who_len _⟩:Ow))]).map bare):=by
     show M.pcs (listsOf gs) 0 E=_
     rw[← hpc,← hx];simp[bare]
    obtain ⟨fn,tmps,assign,body,hy,hR⟩:=HY.out pre ((fr,1114111),⟨M.whoL (E.take k),M.who_len _⟩) _ hJ1 hpl
    simp only[encP] at hy
    have HH:=ha_ hwh
    have HR:=ha_ hR
    have HRun:=ha_ hrun
    clear hR hwh hrun hpc hpe hx htk hea hJ1
    gi_wp2_with (refine load_arr rfl 110 (.tmp 3) rfl d rfl 110 (owV (M.whoL (E.take k))) (0,0) _ HH.out Tryz.underlying110 rfl (by rw[owV_size,M.who_len];exact info_O) ?_)
    refine HR.out.mono ?_
    rintro e W3 (⟨rfl,hJ3,hk3⟩|⟨rfl,hJx3⟩)
    ·have R3:=ha_ hJ3
     clear hJ3 hk3 hy HR HH
     gi_wp2
     go_end0
     refine ⟨⟨_,rfl⟩,.inl ⟨_,?_,R3.out⟩⟩
     rw[← HF.out];exact HRun.out
    ·have R3:=ha_ hJx3
     clear hJx3 hy HR HH
     gi_wp2
     go_end0
     exact ⟨⟨_,rfl⟩,.inr ⟨_,⟨_,HRun.out,by rw[HF.out];exact List.prefix_refl _⟩,R3.out⟩⟩
   ·rw[if_neg hc,List.append_nil] at hpc
    have R3:=ha_ hJ1
    have HPC:=ha_ hpc
    have HRun:=ha_ hrun
    clear hJ1 hwh hrun hpc hpe hx htk hea
    gi_wp2
    go_end0
    exact ⟨⟨_,rfl⟩,.inl ⟨pre,by rw[HPC.out];exact HRun.out,R3.out⟩⟩
end Go.Proofs.YtbbmjdddemahfaaGreat
