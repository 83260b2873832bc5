/- Part of the proof. -/
import Derived.Test.YtbbmjdddemahfaaGreatSW36
set_option maxRecDepth 100000
namespace Go.Proofs.YtbbmjdddemahfaaGreat
open Go.RowKit
open Y (Nd It Ps nextP takeP failP noTok noName zeroN deepP formP itemP)

set_option maxHeartbeats 2000000 in
theorem ditem_stay {X:Px}{b:Nat}{w:World}{tk:Int}{tt:List Int}{tlo thi tp:Int}{u:List Tok}{h:Nat}(H:Rdd X b w 0 (.live (⟨tk,tt,tlo,thi,tp⟩ :: u)) h){N:Nat}(hm:10*(⟨tk,tt,tlo,thi,tp⟩ :: u:List Tok).length+10≤N){r:It × Ps}(hr:itemP X.e N (.live (⟨tk,tt,tlo,thi,tp⟩ :: u))=r) (h02:tk=2) (h1d:∃ l2,(formP X.e N 0 (.live u)).2=.live l2∧kAt l2=4) :
  Calls Tryz.prog 42 #[.pointer (some ⟨b,0,none⟩)] w (PIQ X b w r):=by
 have H02h:=hd_ h02
 clear h02
 have H1Dh:=hd_ h1d
 clear h1d
 have hlt:=H.lt
 have HW1:=hd_ (begI_below w)
 have HR2:=hd_ (H.below HW1.out)
 have HBX2:=hd_ (begI_box w)
 have hz2:=begI_size w
 have HF2:Hid (Fe b w (begI w)):=Fe.of_below HW1.out
 clear H
 have hgd:=HR2.out.gd
 obtain ⟨g,off,hg,hh,hheld⟩:=HR2.out.held
 have HS:Hid (∀ w', Below (begI w).heap.size (begI w) w' → HeldR X b g off h tk (strOfNums tt) tlo thi tp w'):=hheld
 have HGD:Hid (tk≠0∧(tk=1→tlo=0)∧(tk=2→strOfNums tt=noName)):=⟨hgd.1,hgd.2.1,fun e=>by rw[show tt=[] from hgd.2.2 e];rfl⟩
 clear hheld hgd
 have hh0:(0:Int)≤(h:Int):=by omega
 have hhn:(h:Int)<(X.n:Int):=by omega
 have hf9:=HR2.out.few
 have hr1:tk=1→r=(⟨1,strOfNums tt,0,false,(formP X.e N 0 (takeP X.e [3] (.live u)).2).1,zeroN,tp⟩,(formP X.e N 0 (takeP X.e [3] (.live u)).2).2):=fun e=>by
  subst e;rw[← hr];rfl
 have hr2:tk=2→r=(⟨2,noName,tlo,decide ((takeP X.e [4,5] (formP X.e N 0 (.live u)).2).1.kind=5),(formP X.e N 0 (.live u)).1,(formP X.e N 0 (takeP X.e [4,5] (formP X.e N 0 (.live u)).2).2).1,tp⟩,(formP X.e N 0 (takeP X.e [4,5] (formP X.e N 0 (.live u)).2).2).2):=fun e=>by
  subst e;rw[← hr];rfl
 have hr19:tk=19→r=(⟨3,strOfNums tt,tlo,false,zeroN,zeroN,tp⟩,.live u):=fun e=>by
  subst e;rw[← hr];rfl
 have hr0:¬ (tk=1∨tk=2∨tk=19)→r.2=.dead tp 4:=fun e=>by
  have hc:[1,2,19].contains tk=false:=by
   simp only[List.contains_cons,List.contains_nil,Bool.or_false,Bool.or_eq_false_iff,beq_eq_false_iff_ne]
   exact ⟨fun h=>e (.inl h),fun h=>e (.inr (.inl h)),fun h=>e (.inr (.inr h))⟩
  have ht:takeP X.e [1,2,19] (.live (⟨tk,tt,tlo,thi,tp⟩ :: u))=(noTok,.dead tp 4):=by rw[Y.take_cons,if_neg (by rw[hc];decide)]
  rw[← hr];unfold Y.itemP;rw[ht];rfl
 have HR1:=hd_ hr1
 have HRR2:=hd_ hr2
 have HR19:=hd_ hr19
 have HR0:=hd_ hr0
 clear hr hr1 hr2 hr19 hr0
 generalize htx:strOfNums tt=tx at *
 clear htx
 simp only[List.length_cons] at hm
 go_enter Tryz.func42,Tryz.ntmps42
 go_wp2_with fail
 change Code.wp _ _ _ _ (begI w)
 generalize begI w=W2 at *
 have SS:HeldR X b g off h tk tx tlo thi tp W2.drew:=HS.out _ (Below.refl _ _).drew
 refine qw_ (HeldR X b g off h tk tx tlo thi tp) 11 12 (by kernel_rfl) rfl ?_
 refine qc_ 0 (v:=.pointer (some ⟨b,0,none⟩)) rfl (by kernel_rfl) (by kernel_rfl) (by kernel_rfl) (by kernel_rfl) (fun _ _ _ h=>h) SS rfl (fun w' hS=>?_) ?_
 ·obtain ⟨s0,s1,s2,s3,s4,s5,s6⟩:=hS;go_simp
 refine qc_ 1 (v:=.pointer (some ⟨b,0,none⟩)) rfl (by kernel_rfl) (by kernel_rfl) (by kernel_rfl) (by kernel_rfl) (fun _ _ _ h=>h) SS rfl (fun w' hS=>?_) ?_
 ·obtain ⟨s0,s1,s2,s3,s4,s5,s6⟩:=hS;go_simp
 refine qc_ 2 (v:=.pointer (some ⟨b,0,none⟩)) rfl (by kernel_rfl) (by kernel_rfl) (by kernel_rfl) (by kernel_rfl) (fun _ _ _ h=>h) SS rfl (fun w' hS=>?_) ?_
 ·obtain ⟨s0,s1,s2,s3,s4,s5,s6⟩:=hS;go_simp
 refine qc_ 3 (v:=.slice (some ⟨g,off,none⟩) X.n X.c) rfl (by kernel_rfl) (by kernel_rfl) (by kernel_rfl) (by kernel_rfl) (fun _ _ _ h=>h) SS rfl (fun w' hS=>?_) ?_
 ·obtain ⟨s0,s1,s2,s3,s4,s5,s6⟩:=hS;go_simp
 refine qc_ 4 (v:=.pointer (some ⟨b,0,none⟩)) rfl (by kernel_rfl) (by kernel_rfl) (by kernel_rfl) (by kernel_rfl) (fun _ _ _ h=>h) SS rfl (fun w' hS=>?_) ?_
 ·obtain ⟨s0,s1,s2,s3,s4,s5,s6⟩:=hS;go_simp
 refine qc_ 5 (v:=.pointer (some ⟨b,0,none⟩)) rfl (by kernel_rfl) (by kernel_rfl) (by kernel_rfl) (by kernel_rfl) (fun _ _ _ h=>h) SS rfl (fun w' hS=>?_) ?_
 ·obtain ⟨s0,s1,s2,s3,s4,s5,s6⟩:=hS;go_simp
 refine qc_ 6 (v:=.pointer (some ⟨b,4,none⟩)) rfl (by kernel_rfl) (by kernel_rfl) (by kernel_rfl) (by kernel_rfl) (fun _ _ _ h=>h) SS rfl (fun w' hS=>?_) ?_
 ·obtain ⟨s0,s1,s2,s3,s4,s5,s6⟩:=hS;go_simp
 refine qc_ 7 (v:=.int .i64 h) rfl (by kernel_rfl) (by kernel_rfl) (by kernel_rfl) (by kernel_rfl) (fun _ _ _ h=>h) SS rfl (fun w' hS=>?_) ?_
 ·obtain ⟨s0,s1,s2,s3,s4,s5,s6⟩:=hS;go_simp
 refine qc_ 8 (v:=.pointer (some ⟨g,off+h*5,none⟩)) rfl (by kernel_rfl) (by kernel_rfl) (by kernel_rfl) (by kernel_rfl) (fun _ _ _ h=>h) SS rfl (fun w' hS=>?_) ?_
 ·obtain ⟨s0,s1,s2,s3,s4,s5,s6⟩:=hS;go_simp
 refine qc_ 9 (v:=.agg #[.int .i64 tk,.string tx,.int .i64 tlo,.int .i64 thi,.int .i64 tp]) rfl (by kernel_rfl) (by kernel_rfl) (by kernel_rfl) (by kernel_rfl) (fun _ _ _ h=>h) SS rfl (fun w' hS=>?_) ?_
 ·obtain ⟨s0,s1,s2,s3,s4,s5,s6⟩:=hS;go_simp
 refine zk_ 10 rfl (by kernel_rfl) rfl ?_
 go_simp
 have HBA:Hid (Below W2.heap.size W2 ((W2.alloc (.cells #[.int .i64 0,.string { data:=#[] },.int .i64 0,.int .i64 0,.int .i64 0] 129)).drew)):=(qa_ W2 _).drew
 have hNA:((W2.alloc (.cells #[.int .i64 0,.string { data:=#[] },.int .i64 0,.int .i64 0,.int .i64 0] 129)).drew).heap[w.heap.size+1]?=some (.cells #[.int .i64 0,.string { data:=#[] },.int .i64 0,.int .i64 0,.int .i64 0] 129 (0,0)):=by rw[← hz2];exact heap_alloc_new W2 _
 have SA:=HS.out _ HBA.out
 have hzA:((W2.alloc (.cells #[.int .i64 0,.string { data:=#[] },.int .i64 0,.int .i64 0,.int .i64 0] 129)).drew).heap.size=w.heap.size+2:=by rw[show ((W2.alloc (.cells #[.int .i64 0,.string { data:=#[] },.int .i64 0,.int .i64 0,.int .i64 0] 129)).drew).heap.size=W2.heap.size+1 by simp[World.drew]];omega
 generalize ((W2.alloc (.cells #[.int .i64 0,.string { data:=#[] },.int .i64 0,.int .i64 0,.int .i64 0] 129)).drew)=WA at *
 refine ⟨SA,?_⟩
 refine zk_ 11 rfl (by kernel_rfl) rfl ?_
 have HNA:=hd_ hNA
 obtain ⟨z0,z1,z2,z3,z4⟩:=ql_ hNA
 have fA:∀ j,WA.frozen? ⟨w.heap.size+1,j,none⟩=false:=fun j=>frozen_of_row _ _ _ _ _ hNA
 clear hNA SA SS
 go_simp
 refine Z_done (by kernel_rfl) ?_
 unfold OnlyN
 simp only[]
 change Exit.then _ _ .normal _ (set5 WA (w.heap.size+1) (.int .i64 tk) (.string tx) (.int .i64 tlo) (.int .i64 thi) (.int .i64 tp))
 have HB3:Hid (Below W2.heap.size W2 (set5 WA (w.heap.size+1) (.int .i64 tk) (.string tx) (.int .i64 tlo) (.int .i64 thi) (.int .i64 tp))):=zv_ HBA.out (by omega) _ _ _ _ _
 have HT3:=hd_ (set5_row HNA.out (.int .i64 tk) (.string tx) (.int .i64 tlo) (.int .i64 thi) (.int .i64 tp))
 have hz3:(set5 WA (w.heap.size+1) (.int .i64 tk) (.string tx) (.int .i64 tlo) (.int .i64 thi) (.int .i64 tp)).heap.size=w.heap.size+2:=by rw[zq_];exact hzA
 clear z0 z1 z2 z3 z4 fA HBA HNA hzA
 generalize set5 WA (w.heap.size+1) (.int .i64 tk) (.string tx) (.int .i64 tlo) (.int .i64 thi) (.int .i64 tp)=W3 at *
 have HR3:=hd_ (HR2.out.below HB3.out)
 obtain ⟨_,_,_,_,c4⟩:=HR3.out.cells
 have f4:=HR3.out.fr 4
 obtain ⟨z0,z1,z2,z3,z4⟩:=ql_ HT3.out
 have hle:=HR3.out.le
 have hp4:=qa_ W3 (.cells #[.int .i64 0,.string tx,.int .i64 tlo,.bool false,.int .i64 0,.string { data:=#[] },.int .i64 0,.int .i64 0,.slice none 0 0,.int .i64 0,.string { data:=#[] },.int .i64 0,.int .i64 0,.slice none 0 0,.int .i64 tp] 79)
 have hrow4:=heap_alloc_new W3 (.cells #[.int .i64 0,.string tx,.int .i64 tlo,.bool false,.int .i64 0,.string { data:=#[] },.int .i64 0,.int .i64 0,.slice none 0 0,.int .i64 0,.string { data:=#[] },.int .i64 0,.int .i64 0,.slice none 0 0,.int .i64 tp] 79)
 have HR4:=hd_ (HR3.out.below hp4)
 have HI4:Hid (ItS b w (w.heap.size+2) ⟨0,tx,tlo,false,zeroN,zeroN,tp⟩ none 0 0 none 0 0 (W3.alloc (.cells #[.int .i64 0,.string tx,.int .i64 tlo,.bool false,.int .i64 0,.string { data:=#[] },.int .i64 0,.int .i64 0,.slice none 0 0,.int .i64 0,.string { data:=#[] },.int .i64 0,.int .i64 0,.slice none 0 0,.int .i64 tp] 79))) :=
  ⟨(HF2.out.trans (Fe.of_below HB3.out)).trans (Fe.of_below hp4),(HBX2.out.fe (b:=b) (Fe.of_below HB3.out) (by omega) (by omega)).fe (b:=b) (Fe.of_below hp4) (by omega) (by omega),by rw[← hz3];exact hrow4,RdN.nil _ _,RdN.nil _ _,by omega⟩
 have HT4:Hid ((W3.alloc (.cells #[.int .i64 0,.string tx,.int .i64 tlo,.bool false,.int .i64 0,.string { data:=#[] },.int .i64 0,.int .i64 0,.slice none 0 0,.int .i64 0,.string { data:=#[] },.int .i64 0,.int .i64 0,.slice none 0 0,.int .i64 tp] 79)).heap[w.heap.size+1]?=_):=(qa_ W3 _ |>.block _ (by omega)).trans HT3.out
 clear HR2 HB3 HBX2 HF2 HW1 hp4 hrow4 HS HR3 HT3
 have hz4:(W3.alloc (.cells #[.int .i64 0,.string tx,.int .i64 tlo,.bool false,.int .i64 0,.string { data:=#[] },.int .i64 0,.int .i64 0,.slice none 0 0,.int .i64 0,.string { data:=#[] },.int .i64 0,.int .i64 0,.slice none 0 0,.int .i64 tp] 79)).heap.size=w.heap.size+3:=by simp;omega
 go_upto_region 3 with (fail)
 change Code.wp _ _ _ _ (W3.alloc (.cells #[.int .i64 0,.string tx,.int .i64 tlo,.bool false,.int .i64 0,.string { data:=#[] },.int .i64 0,.int .i64 0,.slice none 0 0,.int .i64 0,.string { data:=#[] },.int .i64 0,.int .i64 0,.slice none 0 0,.int .i64 tp] 79))
 generalize (W3.alloc (.cells #[.int .i64 0,.string tx,.int .i64 tlo,.bool false,.int .i64 0,.string { data:=#[] },.int .i64 0,.int .i64 0,.slice none 0 0,.int .i64 0,.string { data:=#[] },.int .i64 0,.int .i64 0,.slice none 0 0,.int .i64 tp] 79))=W4 at *
 clear z0 z1 z2 z3 z4 c4 f4
 obtain ⟨IB,hIB⟩:∃ IB,IB=w.heap.size+2:=⟨_,rfl⟩
 obtain ⟨TB,hTB⟩:∃ TB,TB=w.heap.size+1:=⟨_,rfl⟩
 rw[← hIB] at HI4
 rw[← hTB] at HT4
 rw[← hIB,← hTB]
 have hIw:w.heap.size<IB:=by omega
 have hTw:w.heap.size<TB:=by omega
 have hTI:TB<IB:=by omega
 have hI4:IB<W4.heap.size:=by omega
 obtain ⟨_,_,_,_,c4⟩:=HR4.out.cells
 have f4:=HR4.out.fr 4
 obtain ⟨z0,z1,z2,z3,z4⟩:=ql_ HT4.out
 clear hz2 hz3 hz4 hIB hTB
 have HLV:Hid (Ps.live (⟨tk,tt,tlo,thi,tp⟩ :: u)=.live (X.T.drop h)∧h≤X.n):=⟨by rw[← HR4.out.live.1],HR4.out.live.2.1⟩
 have HR5:=hd_ (HR4.out.next (x:=(h:Int)+1) rfl)
 have HF5:Hid (Fe b W4 (W4.setCell ⟨b,4,none⟩ (.int .i64 ((h:Int)+1)))):=(Fe.refl b W4).set (.inl rfl) _ _
 have HI5:=hd_ (HI4.out.on HF5.out hlt)
 go_upto_region 7 with (fail)
 change Code.wp _ _ _ _ (W4.setCell ⟨b,4,none⟩ (.int .i64 ((h:Int)+1)))
 have hI5:IB<(W4.setCell ⟨b,4,none⟩ (.int .i64 ((h:Int)+1))).heap.size:=by simp;exact hI4
 clear HR4 HI4 HF5 c4 f4 z0 z1 z2 z3 z4 HT4
 generalize W4.setCell ⟨b,4,none⟩ (.int .i64 ((h:Int)+1))=W5 at *
 generalize h+1=h1 at HR5
 have h02:=H02h.out
 clear H02h
 have h1d:=H1Dh.out
 clear H1Dh
 have g19:(tk == 19)=false:=by rw[h02];decide
 have g01:(tk == 1)=false:=by rw[h02];decide
 subst h02
 have HRR0:=hd_ (HRR2.out rfl)
 have htx2:tx=noName:=HGD.out.2.2 rfl
 subst htx2
 clear HR1 HRR2 HR19 HR0 HLV HGD g19 g01
 have HIr:=hd_ HI5.out.row
 obtain ⟨i0,i1,i2,i3,i4,i5,i6,i7,i8,i9,i10,i11,i12,i13,i14⟩:=zj_ HIr.out
 have fI:∀ j,W5.frozen? ⟨IB,j,none⟩=false:=fun j=>frozen_of_row _ _ _ _ _ HIr.out
 have HI6:Hid (ItS b w IB ⟨2,noName,tlo,false,zeroN,zeroN,tp⟩ none 0 0 none 0 0 (W5.setCell ⟨IB,0,none⟩ (.int .i64 2))) :=
  HI5.out.put (HI5.out.fe.set (.inr (by omega)) _ _) (by simp) (fun i hi=>Below.heap_setCell _ _ _ _ (by show i≠IB;exact hi)) (by rw[heap_setCell_same _ _ _ _ _ _ HI5.out.row];rfl) (RdN.nil _ _) (RdN.nil _ _)
 have HR6:Hid (Rdd X b (W5.setCell ⟨IB,0,none⟩ (.int .i64 2)) 0 (.live u) h1):=HR5.out.other (by omega) _ _
 have hI6:IB<(W5.setCell ⟨IB,0,none⟩ (.int .i64 2)).heap.size:=by simp;exact hI5
 clear HIr HI5 HR5
 go_upto_region 18 with (fail)
 change Code.wp _ _ _ _ (W5.setCell ⟨IB,0,none⟩ (.int .i64 2))
 clear i0 i1 i2 i3 i4 i5 i6 i7 i8 i9 i10 i11 i12 i13 i14 fI hI5
 generalize (W5.setCell ⟨IB,0,none⟩ (.int .i64 2))=W6 at *
 obtain ⟨fb,hfb⟩:∃ f,formP X.e N 0 (.live u)=f:=⟨_,rfl⟩
 have HRR:Hid (r=(⟨2,noName,tlo,decide ((takeP X.e [4,5] fb.2).1.kind=5),fb.1,(formP X.e N 0 (takeP X.e [4,5] fb.2).2).1,tp⟩,(formP X.e N 0 (takeP X.e [4,5] fb.2).2).2)):=by show _=_;rw[← hfb];exact HRR0.out
 have hflen:fb.2.toks.length≤u.length:=by rw[← hfb];exact (Y.len_all X.e N).form 0 (.live u)
 have HC:=hd_ (dor_any HR6.out N (by omega))
 rw[hfb] at HC h1d
 have HI8:=HI6
 have hI8:=hI6
 clear hfb HR6 HRR0 HI6 hI6
 go_wp2_with fail
 refine HC.out.mono ?_
 rintro en w8 ⟨v,yb,rfl,⟨A8b,n8b,c8b,rfl,hv⟩,hy,hr8,hf8⟩
 have hz8:=hf8.size
 have HIc:=hd_ (HI8.out.on hf8 hlt)
 have HVn:Hid (RdN w8 (ButD (w.heap.size+1) IB w8.heap.size) A8b n8b c8b yb.kids):=hv.keep (fun i hi=>⟨by have:=hi.1;omega,hi.2,by have:=hi.1;omega⟩) (fun _ _=>rfl)
 have HIr:=hd_ HIc.out.row
 obtain ⟨i0,i1,i2,i3,i4,i5,i6,i7,i8,i9,i10,i11,i12,i13,i14⟩:=zj_ HIr.out
 have fI:∀ j,w8.frozen? ⟨IB,j,none⟩=false:=fun j=>frozen_of_row _ _ _ _ _ HIr.out
 have HI9:Hid (ItS b w IB ⟨2,noName,tlo,false,yb,zeroN,tp⟩ A8b n8b c8b none 0 0 (b5 w8 IB (.int .i64 yb.kind) (.string yb.name) (.int .i64 yb.low) (.int .i64 yb.high) (.slice A8b n8b c8b))) :=
  HIc.out.put (HIc.out.fe.b5 (by omega) _ _ _ _ _) (b5_size _ _ _ _ _ _ _) (b5_block _ _ _ _ _ _ _) (b5_row HIc.out.row _ _ _ _ _) HVn.out (RdN.nil _ _)
 have HR9:Hid (RdF X b (b5 w8 IB (.int .i64 yb.kind) (.string yb.name) (.int .i64 yb.low) (.int .i64 yb.high) (.slice A8b n8b c8b)) 0 fb.2):=hr8.b5 (by omega) _ _ _ _ _
 have HYb:Hid (∀ ts,fb.2=.live ts→yb=fb.1):=hy
 have hI9:IB<(b5 w8 IB (.int .i64 yb.kind) (.string yb.name) (.int .i64 yb.low) (.int .i64 yb.high) (.slice A8b n8b c8b)).heap.size:=by rw[b5_size];omega
 have HV9b:Hid (RdN (b5 w8 IB (.int .i64 yb.kind) (.string yb.name) (.int .i64 yb.low) (.int .i64 yb.high) (.slice A8b n8b c8b)) (ButD (w.heap.size+1) IB (b5 w8 IB (.int .i64 yb.kind) (.string yb.name) (.int .i64 yb.low) (.int .i64 yb.high) (.slice A8b n8b c8b)).heap.size) A8b n8b c8b yb.kids):=HVn.out.keep (fun i hi=>⟨hi.1,by rw[b5_size];exact hi.2.1,hi.2.2⟩) (fun p hp=>World.cell?_of_block (b5_block _ _ _ _ _ _ _ _ hp.2.2))
 clear hv hy hr8 hf8 HIc HIr HVn HI8 hI8 HC
 go_upto_region 19 with (fail)
 change Code.wp _ _ _ _ (b5 w8 IB (.int .i64 yb.kind) (.string yb.name) (.int .i64 yb.low) (.int .i64 yb.high) (.slice A8b n8b c8b))
 clear i0 i1 i2 i3 i4 i5 i6 i7 i8 i9 i10 i11 i12 i13 i14 fI hz8
 generalize (b5 w8 IB (.int .i64 yb.kind) (.string yb.name) (.int .i64 yb.low) (.int .i64 yb.high) (.slice A8b n8b c8b))=W9 at *
 obtain ⟨l2,hl2,hk2⟩:=h1d
 obtain ⟨h9,hr9⟩:=HR9.out
 rw[hl2] at hr9
 have HR9d:=hd_ hr9
 obtain ⟨_,_,_,d3,_⟩:=hr9.cells
 replace d3:W9.cell? ⟨b,3,none⟩=some (.int .i64 0):=d3
 have HKD:Hid (∀ q,Calls Tryz.prog 40 #[.pointer (some ⟨b,0,none⟩)] (W9.drewN q) (KindD (W9.drewN q) (kAt l2))):=fun q=>qk_ (HR9d.out.drewN q)
 have HKD0:Hid (Calls Tryz.prog 40 #[.pointer (some ⟨b,0,none⟩)] W9 (KindD W9 (kAt l2))):=qk_ hr9
 clear hr9
 obtain ⟨t2,l3,rfl⟩:∃ t u,l2=t :: u:=by
  cases l2 with
  | nil=>exact absurd hk2 (by decide)
  | cons t u=>exact ⟨t,u,rfl⟩
 have hk3:t2.kind=4:=hk2
 rw[hk2] at HKD HKD0
 have hl3:l3.length+1≤u.length:=by rw[hl2] at hflen;exact hflen
 obtain ⟨f,hf⟩:∃ f,formP X.e N 0 (.live l3)=f:=⟨_,rfl⟩
 have HRF:Hid (r=(⟨2,noName,tlo,false,fb.1,f.1,tp⟩,f.2)):=by
  show _=_
  rw[HRR.out,hl2,zn_ (by simp[hk3]),hf,hk3];rfl
 have HFB:Hid (yb=fb.1):=HYb.out _ hl2
 clear hk2 hk3 hl2 HR9 HRR HYb hflen
 go_wp2_with fail
 refine HKD0.out.mono ?_
 rintro e w10 ⟨rfl,q9,rfl⟩
 go_wp2_with fail
 refine (HKD.out q9).mono ?_
 rintro e w10 ⟨rfl,q8,rfl⟩
 have HR10:Hid (Rdd X b ((W9.drewN q9).drewN q8) 0 (.live (t2 :: l3)) h9):=((HR9d.out.drewN q9).drewN q8)
 have HI10:Hid (ItS b w IB ⟨2,noName,tlo,false,yb,zeroN,tp⟩ A8b n8b c8b none 0 0 ((W9.drewN q9).drewN q8)):=HI9.out.on (((Fe.refl b W9).drewN q9).drewN q8) hlt
 have HVb:Hid (RdN ((W9.drewN q9).drewN q8) (ButD (w.heap.size+1) IB ((W9.drewN q9).drewN q8).heap.size) A8b n8b c8b yb.kids):=HV9b.out.keep (fun _ h=>h) (fun _ _=>rfl)
 have hI10:IB<((W9.drewN q9).drewN q8).heap.size:=hI9
 clear HR9d HI9 HV9b hI9 HKD HKD0 d3
 generalize ((W9.drewN q9).drewN q8)=W10 at *
 have HIr:=hd_ HI10.out.row
 obtain ⟨i0,i1,i2,i3,i4,i5,i6,i7,i8,i9,i10,i11,i12,i13,i14⟩:=zj_ HIr.out
 have fI:∀ j,W10.frozen? ⟨IB,j,none⟩=false:=fun j=>frozen_of_row _ _ _ _ _ HIr.out
 have HI11:Hid (ItS b w IB ⟨2,noName,tlo,false,yb,zeroN,tp⟩ A8b n8b c8b none 0 0 (W10.setCell ⟨IB,3,none⟩ (.bool false))) :=
  HI10.out.put (HI10.out.fe.set (.inr (by omega)) _ _) (by simp) (fun i hi=>Below.heap_setCell _ _ _ _ (by show i≠IB;exact hi)) (by rw[heap_setCell_same _ _ _ _ _ _ HI10.out.row];rfl) HVb.out (RdN.nil _ _)
 have HR11:Hid (Rdd X b (W10.setCell ⟨IB,3,none⟩ (.bool false)) 0 (.live (t2 :: l3)) h9):=HR10.out.other (by omega) _ _
 have HV11:Hid (RdN (W10.setCell ⟨IB,3,none⟩ (.bool false)) (ButD (w.heap.size+1) IB (W10.setCell ⟨IB,3,none⟩ (.bool false)).heap.size) A8b n8b c8b yb.kids):=HVb.out.keep (fun i hi=>⟨hi.1,by simp;exact hi.2.1,hi.2.2⟩) (fun p hp=>World.cell?_of_block (w:=W10) (Below.heap_setCell _ _ _ _ (by show p.block≠IB;exact hp.2.2)))
 have hI11:IB<(W10.setCell ⟨IB,3,none⟩ (.bool false)).heap.size:=by simp;exact hI10
 go_upto_region 23 with (fail)
 change Code.wp _ _ _ _ (W10.setCell ⟨IB,3,none⟩ (.bool false))
 clear i0 i1 i2 i3 i4 i5 i6 i7 i8 i9 i10 i11 i12 i13 i14 fI HIr HI10 HR10 HVb hI10
 generalize W10.setCell ⟨IB,3,none⟩ (.bool false)=W11 at *
 obtain ⟨_,_,_,d3,d4⟩:=HR11.out.cells
 replace d3:W11.cell? ⟨b,3,none⟩=some (.int .i64 0):=d3
 have f4:=HR11.out.fr 4
 have hle9:=HR11.out.le
 have HR12:Hid (Rdd X b (W11.setCell ⟨b,4,none⟩ (.int .i64 ((h9:Int)+1))) 0 (.live l3) (h9+1)):=HR11.out.next rfl
 have HF12:Hid (Fe b W11 (W11.setCell ⟨b,4,none⟩ (.int .i64 ((h9:Int)+1)))):=(Fe.refl b W11).set (.inl rfl) _ _
 have HI8:=hd_ (HI11.out.on HF12.out hlt)
 have HV12:Hid (RdN (W11.setCell ⟨b,4,none⟩ (.int .i64 ((h9:Int)+1))) (ButD (w.heap.size+1) IB (W11.setCell ⟨b,4,none⟩ (.int .i64 ((h9:Int)+1))).heap.size) A8b n8b c8b yb.kids):=HV11.out.keep (fun i hi=>⟨hi.1,by simp;exact hi.2.1,hi.2.2⟩) (fun p hp=>World.cell?_of_block (w:=W11) (Below.heap_setCell _ _ _ _ (by show p.block≠b;have:=hp.1;omega)))
 have hI8:IB<(W11.setCell ⟨b,4,none⟩ (.int .i64 ((h9:Int)+1))).heap.size:=by simp;exact hI11
 go_upto_region 25 with (fail)
 change Code.wp _ _ _ _ (W11.setCell ⟨b,4,none⟩ (.int .i64 ((h9:Int)+1)))
 clear d3 d4 f4 HI11 HR11 HV11 HF12 hI11
 generalize W11.setCell ⟨b,4,none⟩ (.int .i64 ((h9:Int)+1))=W12 at *
 have HC:=hd_ (dor_any HR12.out N (by omega))
 rw[hf] at HC
 clear hf HR12 hm hl3
 go_wp2_with fail
 refine HC.out.mono ?_
 rintro en w8 ⟨v,y,rfl,⟨A8,n8,c8,rfl,hv⟩,hy,hr8,hf8⟩
 have HVb:Hid (RdN w8 (ButD (w.heap.size+1) IB w8.heap.size) A8b n8b c8b yb.kids):=HV12.out.keep (fun i hi=>⟨hi.1,by have:=hi.2.1;have:=hf8.size;omega,hi.2.2⟩) (fun p hp=>World.cell?_of_block (hf8.block _ hp.2.1 (by have:=hp.1;omega)))
 clear HV12
 have hz8:=hf8.size
 have HIc:=hd_ (HI8.out.on hf8 hlt)
 have HVn:Hid (RdN w8 (ButD (w.heap.size+1) IB w8.heap.size) A8 n8 c8 y.kids):=hv.keep (fun i hi=>⟨by have:=hi.1;omega,hi.2,by have:=hi.1;omega⟩) (fun _ _=>rfl)
 have HIr:=hd_ HIc.out.row
 obtain ⟨i0,i1,i2,i3,i4,i5,i6,i7,i8,i9,i10,i11,i12,i13,i14⟩:=zj_ HIr.out
 have fI:∀ j,w8.frozen? ⟨IB,j,none⟩=false:=fun j=>frozen_of_row _ _ _ _ _ HIr.out
 have HI9:Hid (ItS b w IB ⟨2,noName,tlo,false,yb,y,tp⟩ A8b n8b c8b A8 n8 c8 (a5 w8 IB (.int .i64 y.kind) (.string y.name) (.int .i64 y.low) (.int .i64 y.high) (.slice A8 n8 c8))) :=
  HIc.out.put (HIc.out.fe.a5 (by omega) _ _ _ _ _) (a5_size _ _ _ _ _ _ _) (a5_block _ _ _ _ _ _ _) (a5_row HIc.out.row _ _ _ _ _) HVb.out HVn.out
 have HR9:Hid (RdF X b (a5 w8 IB (.int .i64 y.kind) (.string y.name) (.int .i64 y.low) (.int .i64 y.high) (.slice A8 n8 c8)) 0 f.2):=hr8.a5 (by omega) _ _ _ _ _
 have HY:Hid (∀ ts,f.2=.live ts→y=f.1):=hy
 have hI9:IB<(a5 w8 IB (.int .i64 y.kind) (.string y.name) (.int .i64 y.low) (.int .i64 y.high) (.slice A8 n8 c8)).heap.size:=by rw[a5_size];omega
 have HV9:Hid (RdN (a5 w8 IB (.int .i64 y.kind) (.string y.name) (.int .i64 y.low) (.int .i64 y.high) (.slice A8 n8 c8)) (ButD (w.heap.size+1) IB (a5 w8 IB (.int .i64 y.kind) (.string y.name) (.int .i64 y.low) (.int .i64 y.high) (.slice A8 n8 c8)).heap.size) A8 n8 c8 y.kids):=HVn.out.keep (fun i hi=>⟨hi.1,by rw[a5_size];exact hi.2.1,hi.2.2⟩) (fun p hp=>World.cell?_of_block (a5_block _ _ _ _ _ _ _ _ hp.2.2))
 clear hv hy hr8 hf8 HIc HIr HVn HI8 hI8 HC
 go_upto_region 26 with (fail)
 change Code.wp _ _ _ _ (a5 w8 IB (.int .i64 y.kind) (.string y.name) (.int .i64 y.low) (.int .i64 y.high) (.slice A8 n8 c8))
 clear i0 i1 i2 i3 i4 i5 i6 i7 i8 i9 i10 i11 i12 i13 i14 fI hz8
 generalize (a5 w8 IB (.int .i64 y.kind) (.string y.name) (.int .i64 y.low) (.int .i64 y.high) (.slice A8 n8 c8))=W9 at *
 have HI:=HI9
 obtain ⟨x,hx⟩:∃ x:It,x=⟨2,noName,tlo,false,yb,y,tp⟩:=⟨_,rfl⟩
 have HGG:Hid (RdGe X b W9 r.2):=by show RdGe _ _ _ _;rw[HRF.out];exact HR9.out.g
 have HXR:Hid (∀ ts,r.2=.live ts→x=r.1):=fun ts h=>by rw[HRF.out] at h ⊢;rw[hx,HY.out ts h,HFB.out]
 replace HI:Hid (ItS b w IB x A8b n8b c8b A8 n8 c8 W9):=by rw[hx];exact HI.out
 clear HRF HR9 HI9 HY hx HV9 HVb HFB
 generalize W9=W at *
 have HE:Hid (PIQ X b w r (.returned (.agg #[.int .i64 x.kind,.string x.name,.int .i64 x.number,.bool x.cut,.int .i64 x.before.kind,.string x.before.name,.int .i64 x.before.low,.int .i64 x.before.high,.slice A8b n8b c8b,.int .i64 x.after.kind,.string x.after.name,.int .i64 x.after.low,.int .i64 x.after.high,.slice A8 n8 c8,.int .i64 x.pos])) (set15 W w.heap.size (.int .i64 x.kind) (.string x.name) (.int .i64 x.number) (.bool x.cut) (.int .i64 x.before.kind) (.string x.before.name) (.int .i64 x.before.low) (.int .i64 x.before.high) (.slice A8b n8b c8b) (.int .i64 x.after.kind) (.string x.after.name) (.int .i64 x.after.low) (.int .i64 x.after.high) (.slice A8 n8 c8) (.int .i64 x.pos))):=(pi_end HI.out.fe HGG.out hlt HI.out.box HI.out.kb HI.out.ka HXR.out).1
 have HQ:Hid ((set15 W w.heap.size (.int .i64 x.kind) (.string x.name) (.int .i64 x.number) (.bool x.cut) (.int .i64 x.before.kind) (.string x.before.name) (.int .i64 x.before.low) (.int .i64 x.before.high) (.slice A8b n8b c8b) (.int .i64 x.after.kind) (.string x.after.name) (.int .i64 x.after.low) (.int .i64 x.after.high) (.slice A8 n8 c8) (.int .i64 x.pos)).heap[w.heap.size]?=some (.cells #[.int .i64 x.kind,.string x.name,.int .i64 x.number,.bool x.cut,.int .i64 x.before.kind,.string x.before.name,.int .i64 x.before.low,.int .i64 x.before.high,.slice A8b n8b c8b,.int .i64 x.after.kind,.string x.after.name,.int .i64 x.after.low,.int .i64 x.after.high,.slice A8 n8 c8,.int .i64 x.pos] 79 (0,0))):=(pi_end HI.out.fe HGG.out hlt HI.out.box HI.out.kb HI.out.ka HXR.out).2
 obtain ⟨i0,i1,i2,i3,i4,i5,i6,i7,i8,i9,i10,i11,i12,i13,i14⟩:=zj_ HI.out.row
 obtain ⟨y0,y1,y2,y3,y4,y5,y6,y7,y8,y9,y10,y11,y12,y13,y14,hN⟩:=HI.out.box
 obtain ⟨j0,j1,j2,j3,j4,j5,j6,j7,j8,j9,j10,j11,j12,j13,j14⟩:=zj_ hN
 have fN:∀ j,W.frozen? ⟨w.heap.size,j,none⟩=false:=fun j=>frozen_of_row _ _ _ _ _ hN
 have hltI:=HI.out.lt
 clear hN HI HGG HXR
 go_wp2_with fail
 change bodyPost _ _ _ _ _ (set15 W w.heap.size (.int .i64 x.kind) (.string x.name) (.int .i64 x.number) (.bool x.cut) (.int .i64 x.before.kind) (.string x.before.name) (.int .i64 x.before.low) (.int .i64 x.before.high) (.slice A8b n8b c8b) (.int .i64 x.after.kind) (.string x.after.name) (.int .i64 x.after.low) (.int .i64 x.after.high) (.slice A8 n8 c8) (.int .i64 x.pos))
 generalize (set15 W w.heap.size (.int .i64 x.kind) (.string x.name) (.int .i64 x.number) (.bool x.cut) (.int .i64 x.before.kind) (.string x.before.name) (.int .i64 x.before.low) (.int .i64 x.before.high) (.slice A8b n8b c8b) (.int .i64 x.after.kind) (.string x.after.name) (.int .i64 x.after.low) (.int .i64 x.after.high) (.slice A8 n8 c8) (.int .i64 x.pos))=w9 at HE HQ ⊢
 obtain ⟨q0,q1,q2,q3,q4,q5,q6,q7,q8,q9,q10,q11,q12,q13,q14⟩:=zj_ HQ.out
 exact bodyPost_ret (v:=.agg #[.int .i64 x.kind,.string x.name,.int .i64 x.number,.bool x.cut,.int .i64 x.before.kind,.string x.before.name,.int .i64 x.before.low,.int .i64 x.before.high,.slice A8b n8b c8b,.int .i64 x.after.kind,.string x.after.name,.int .i64 x.after.low,.int .i64 x.after.high,.slice A8 n8 c8,.int .i64 x.pos]) (by simp[results,Tryz.results42,go_sem,q0,q1,q2,q3,q4,q5,q6,q7,q8,q9,q10,q11,q12,q13,q14]) rfl HE.out
set_option maxHeartbeats 2000000 in
theorem ditem_cut {X:Px}{b:Nat}{w:World}{tk:Int}{tt:List Int}{tlo thi tp:Int}{u:List Tok}{h:Nat}(H:Rdd X b w 0 (.live (⟨tk,tt,tlo,thi,tp⟩ :: u)) h){N:Nat}(hm:10*(⟨tk,tt,tlo,thi,tp⟩ :: u:List Tok).length+10≤N){r:It × Ps}(hr:itemP X.e N (.live (⟨tk,tt,tlo,thi,tp⟩ :: u))=r) (h02:tk=2) (h1d:∃ l2,(formP X.e N 0 (.live u)).2=.live l2∧kAt l2=5) :
  Calls Tryz.prog 42 #[.pointer (some ⟨b,0,none⟩)] w (PIQ X b w r):=by
 have H02h:=hd_ h02
 clear h02
 have H1Dh:=hd_ h1d
 clear h1d
 have hlt:=H.lt
 have HW1:=hd_ (begI_below w)
 have HR2:=hd_ (H.below HW1.out)
 have HBX2:=hd_ (begI_box w)
 have hz2:=begI_size w
 have HF2:Hid (Fe b w (begI w)):=Fe.of_below HW1.out
 clear H
 have hgd:=HR2.out.gd
 obtain ⟨g,off,hg,hh,hheld⟩:=HR2.out.held
 have HS:Hid (∀ w', Below (begI w).heap.size (begI w) w' → HeldR X b g off h tk (strOfNums tt) tlo thi tp w'):=hheld
 have HGD:Hid (tk≠0∧(tk=1→tlo=0)∧(tk=2→strOfNums tt=noName)):=⟨hgd.1,hgd.2.1,fun e=>by rw[show tt=[] from hgd.2.2 e];rfl⟩
 clear hheld hgd
 have hh0:(0:Int)≤(h:Int):=by omega
 have hhn:(h:Int)<(X.n:Int):=by omega
 have hf9:=HR2.out.few
 have hr1:tk=1→r=(⟨1,strOfNums tt,0,false,(formP X.e N 0 (takeP X.e [3] (.live u)).2).1,zeroN,tp⟩,(formP X.e N 0 (takeP X.e [3] (.live u)).2).2):=fun e=>by
  subst e;rw[← hr];rfl
 have hr2:tk=2→r=(⟨2,noName,tlo,decide ((takeP X.e [4,5] (formP X.e N 0 (.live u)).2).1.kind=5),(formP X.e N 0 (.live u)).1,(formP X.e N 0 (takeP X.e [4,5] (formP X.e N 0 (.live u)).2).2).1,tp⟩,(formP X.e N 0 (takeP X.e [4,5] (formP X.e N 0 (.live u)).2).2).2):=fun e=>by
  subst e;rw[← hr];rfl
 have hr19:tk=19→r=(⟨3,strOfNums tt,tlo,false,zeroN,zeroN,tp⟩,.live u):=fun e=>by
  subst e;rw[← hr];rfl
 have hr0:¬ (tk=1∨tk=2∨tk=19)→r.2=.dead tp 4:=fun e=>by
  have hc:[1,2,19].contains tk=false:=by
   simp only[List.contains_cons,List.contains_nil,Bool.or_false,Bool.or_eq_false_iff,beq_eq_false_iff_ne]
   exact ⟨fun h=>e (.inl h),fun h=>e (.inr (.inl h)),fun h=>e (.inr (.inr h))⟩
  have ht:takeP X.e [1,2,19] (.live (⟨tk,tt,tlo,thi,tp⟩ :: u))=(noTok,.dead tp 4):=by rw[Y.take_cons,if_neg (by rw[hc];decide)]
  rw[← hr];unfold Y.itemP;rw[ht];rfl
 have HR1:=hd_ hr1
 have HRR2:=hd_ hr2
 have HR19:=hd_ hr19
 have HR0:=hd_ hr0
 clear hr hr1 hr2 hr19 hr0
 generalize htx:strOfNums tt=tx at *
 clear htx
 simp only[List.length_cons] at hm
 go_enter Tryz.func42,Tryz.ntmps42
 go_wp2_with fail
 change Code.wp _ _ _ _ (begI w)
 generalize begI w=W2 at *
 have SS:HeldR X b g off h tk tx tlo thi tp W2.drew:=HS.out _ (Below.refl _ _).drew
 refine qw_ (HeldR X b g off h tk tx tlo thi tp) 11 12 (by kernel_rfl) rfl ?_
 refine qc_ 0 (v:=.pointer (some ⟨b,0,none⟩)) rfl (by kernel_rfl) (by kernel_rfl) (by kernel_rfl) (by kernel_rfl) (fun _ _ _ h=>h) SS rfl (fun w' hS=>?_) ?_
 ·obtain ⟨s0,s1,s2,s3,s4,s5,s6⟩:=hS;go_simp
 refine qc_ 1 (v:=.pointer (some ⟨b,0,none⟩)) rfl (by kernel_rfl) (by kernel_rfl) (by kernel_rfl) (by kernel_rfl) (fun _ _ _ h=>h) SS rfl (fun w' hS=>?_) ?_
 ·obtain ⟨s0,s1,s2,s3,s4,s5,s6⟩:=hS;go_simp
 refine qc_ 2 (v:=.pointer (some ⟨b,0,none⟩)) rfl (by kernel_rfl) (by kernel_rfl) (by kernel_rfl) (by kernel_rfl) (fun _ _ _ h=>h) SS rfl (fun w' hS=>?_) ?_
 ·obtain ⟨s0,s1,s2,s3,s4,s5,s6⟩:=hS;go_simp
 refine qc_ 3 (v:=.slice (some ⟨g,off,none⟩) X.n X.c) rfl (by kernel_rfl) (by kernel_rfl) (by kernel_rfl) (by kernel_rfl) (fun _ _ _ h=>h) SS rfl (fun w' hS=>?_) ?_
 ·obtain ⟨s0,s1,s2,s3,s4,s5,s6⟩:=hS;go_simp
 refine qc_ 4 (v:=.pointer (some ⟨b,0,none⟩)) rfl (by kernel_rfl) (by kernel_rfl) (by kernel_rfl) (by kernel_rfl) (fun _ _ _ h=>h) SS rfl (fun w' hS=>?_) ?_
 ·obtain ⟨s0,s1,s2,s3,s4,s5,s6⟩:=hS;go_simp
 refine qc_ 5 (v:=.pointer (some ⟨b,0,none⟩)) rfl (by kernel_rfl) (by kernel_rfl) (by kernel_rfl) (by kernel_rfl) (fun _ _ _ h=>h) SS rfl (fun w' hS=>?_) ?_
 ·obtain ⟨s0,s1,s2,s3,s4,s5,s6⟩:=hS;go_simp
 refine qc_ 6 (v:=.pointer (some ⟨b,4,none⟩)) rfl (by kernel_rfl) (by kernel_rfl) (by kernel_rfl) (by kernel_rfl) (fun _ _ _ h=>h) SS rfl (fun w' hS=>?_) ?_
 ·obtain ⟨s0,s1,s2,s3,s4,s5,s6⟩:=hS;go_simp
 refine qc_ 7 (v:=.int .i64 h) rfl (by kernel_rfl) (by kernel_rfl) (by kernel_rfl) (by kernel_rfl) (fun _ _ _ h=>h) SS rfl (fun w' hS=>?_) ?_
 ·obtain ⟨s0,s1,s2,s3,s4,s5,s6⟩:=hS;go_simp
 refine qc_ 8 (v:=.pointer (some ⟨g,off+h*5,none⟩)) rfl (by kernel_rfl) (by kernel_rfl) (by kernel_rfl) (by kernel_rfl) (fun _ _ _ h=>h) SS rfl (fun w' hS=>?_) ?_
 ·obtain ⟨s0,s1,s2,s3,s4,s5,s6⟩:=hS;go_simp
 refine qc_ 9 (v:=.agg #[.int .i64 tk,.string tx,.int .i64 tlo,.int .i64 thi,.int .i64 tp]) rfl (by kernel_rfl) (by kernel_rfl) (by kernel_rfl) (by kernel_rfl) (fun _ _ _ h=>h) SS rfl (fun w' hS=>?_) ?_
 ·obtain ⟨s0,s1,s2,s3,s4,s5,s6⟩:=hS;go_simp
 refine zk_ 10 rfl (by kernel_rfl) rfl ?_
 go_simp
 have HBA:Hid (Below W2.heap.size W2 ((W2.alloc (.cells #[.int .i64 0,.string { data:=#[] },.int .i64 0,.int .i64 0,.int .i64 0] 129)).drew)):=(qa_ W2 _).drew
 have hNA:((W2.alloc (.cells #[.int .i64 0,.string { data:=#[] },.int .i64 0,.int .i64 0,.int .i64 0] 129)).drew).heap[w.heap.size+1]?=some (.cells #[.int .i64 0,.string { data:=#[] },.int .i64 0,.int .i64 0,.int .i64 0] 129 (0,0)):=by rw[← hz2];exact heap_alloc_new W2 _
 have SA:=HS.out _ HBA.out
 have hzA:((W2.alloc (.cells #[.int .i64 0,.string { data:=#[] },.int .i64 0,.int .i64 0,.int .i64 0] 129)).drew).heap.size=w.heap.size+2:=by rw[show ((W2.alloc (.cells #[.int .i64 0,.string { data:=#[] },.int .i64 0,.int .i64 0,.int .i64 0] 129)).drew).heap.size=W2.heap.size+1 by simp[World.drew]];omega
 generalize ((W2.alloc (.cells #[.int .i64 0,.string { data:=#[] },.int .i64 0,.int .i64 0,.int .i64 0] 129)).drew)=WA at *
 refine ⟨SA,?_⟩
 refine zk_ 11 rfl (by kernel_rfl) rfl ?_
 have HNA:=hd_ hNA
 obtain ⟨z0,z1,z2,z3,z4⟩:=ql_ hNA
 have fA:∀ j,WA.frozen? ⟨w.heap.size+1,j,none⟩=false:=fun j=>frozen_of_row _ _ _ _ _ hNA
 clear hNA SA SS
 go_simp
 refine Z_done (by kernel_rfl) ?_
 unfold OnlyN
 simp only[]
 change Exit.then _ _ .normal _ (set5 WA (w.heap.size+1) (.int .i64 tk) (.string tx) (.int .i64 tlo) (.int .i64 thi) (.int .i64 tp))
 have HB3:Hid (Below W2.heap.size W2 (set5 WA (w.heap.size+1) (.int .i64 tk) (.string tx) (.int .i64 tlo) (.int .i64 thi) (.int .i64 tp))):=zv_ HBA.out (by omega) _ _ _ _ _
 have HT3:=hd_ (set5_row HNA.out (.int .i64 tk) (.string tx) (.int .i64 tlo) (.int .i64 thi) (.int .i64 tp))
 have hz3:(set5 WA (w.heap.size+1) (.int .i64 tk) (.string tx) (.int .i64 tlo) (.int .i64 thi) (.int .i64 tp)).heap.size=w.heap.size+2:=by rw[zq_];exact hzA
 clear z0 z1 z2 z3 z4 fA HBA HNA hzA
 generalize set5 WA (w.heap.size+1) (.int .i64 tk) (.string tx) (.int .i64 tlo) (.int .i64 thi) (.int .i64 tp)=W3 at *
 have HR3:=hd_ (HR2.out.below HB3.out)
 obtain ⟨_,_,_,_,c4⟩:=HR3.out.cells
 have f4:=HR3.out.fr 4
 obtain ⟨z0,z1,z2,z3,z4⟩:=ql_ HT3.out
 have hle:=HR3.out.le
 have hp4:=qa_ W3 (.cells #[.int .i64 0,.string tx,.int .i64 tlo,.bool false,.int .i64 0,.string { data:=#[] },.int .i64 0,.int .i64 0,.slice none 0 0,.int .i64 0,.string { data:=#[] },.int .i64 0,.int .i64 0,.slice none 0 0,.int .i64 tp] 79)
 have hrow4:=heap_alloc_new W3 (.cells #[.int .i64 0,.string tx,.int .i64 tlo,.bool false,.int .i64 0,.string { data:=#[] },.int .i64 0,.int .i64 0,.slice none 0 0,.int .i64 0,.string { data:=#[] },.int .i64 0,.int .i64 0,.slice none 0 0,.int .i64 tp] 79)
 have HR4:=hd_ (HR3.out.below hp4)
 have HI4:Hid (ItS b w (w.heap.size+2) ⟨0,tx,tlo,false,zeroN,zeroN,tp⟩ none 0 0 none 0 0 (W3.alloc (.cells #[.int .i64 0,.string tx,.int .i64 tlo,.bool false,.int .i64 0,.string { data:=#[] },.int .i64 0,.int .i64 0,.slice none 0 0,.int .i64 0,.string { data:=#[] },.int .i64 0,.int .i64 0,.slice none 0 0,.int .i64 tp] 79))) :=
  ⟨(HF2.out.trans (Fe.of_below HB3.out)).trans (Fe.of_below hp4),(HBX2.out.fe (b:=b) (Fe.of_below HB3.out) (by omega) (by omega)).fe (b:=b) (Fe.of_below hp4) (by omega) (by omega),by rw[← hz3];exact hrow4,RdN.nil _ _,RdN.nil _ _,by omega⟩
 have HT4:Hid ((W3.alloc (.cells #[.int .i64 0,.string tx,.int .i64 tlo,.bool false,.int .i64 0,.string { data:=#[] },.int .i64 0,.int .i64 0,.slice none 0 0,.int .i64 0,.string { data:=#[] },.int .i64 0,.int .i64 0,.slice none 0 0,.int .i64 tp] 79)).heap[w.heap.size+1]?=_):=(qa_ W3 _ |>.block _ (by omega)).trans HT3.out
 clear HR2 HB3 HBX2 HF2 HW1 hp4 hrow4 HS HR3 HT3
 have hz4:(W3.alloc (.cells #[.int .i64 0,.string tx,.int .i64 tlo,.bool false,.int .i64 0,.string { data:=#[] },.int .i64 0,.int .i64 0,.slice none 0 0,.int .i64 0,.string { data:=#[] },.int .i64 0,.int .i64 0,.slice none 0 0,.int .i64 tp] 79)).heap.size=w.heap.size+3:=by simp;omega
 go_upto_region 3 with (fail)
 change Code.wp _ _ _ _ (W3.alloc (.cells #[.int .i64 0,.string tx,.int .i64 tlo,.bool false,.int .i64 0,.string { data:=#[] },.int .i64 0,.int .i64 0,.slice none 0 0,.int .i64 0,.string { data:=#[] },.int .i64 0,.int .i64 0,.slice none 0 0,.int .i64 tp] 79))
 generalize (W3.alloc (.cells #[.int .i64 0,.string tx,.int .i64 tlo,.bool false,.int .i64 0,.string { data:=#[] },.int .i64 0,.int .i64 0,.slice none 0 0,.int .i64 0,.string { data:=#[] },.int .i64 0,.int .i64 0,.slice none 0 0,.int .i64 tp] 79))=W4 at *
 clear z0 z1 z2 z3 z4 c4 f4
 obtain ⟨IB,hIB⟩:∃ IB,IB=w.heap.size+2:=⟨_,rfl⟩
 obtain ⟨TB,hTB⟩:∃ TB,TB=w.heap.size+1:=⟨_,rfl⟩
 rw[← hIB] at HI4
 rw[← hTB] at HT4
 rw[← hIB,← hTB]
 have hIw:w.heap.size<IB:=by omega
 have hTw:w.heap.size<TB:=by omega
 have hTI:TB<IB:=by omega
 have hI4:IB<W4.heap.size:=by omega
 obtain ⟨_,_,_,_,c4⟩:=HR4.out.cells
 have f4:=HR4.out.fr 4
 obtain ⟨z0,z1,z2,z3,z4⟩:=ql_ HT4.out
 clear hz2 hz3 hz4 hIB hTB
 have HLV:Hid (Ps.live (⟨tk,tt,tlo,thi,tp⟩ :: u)=.live (X.T.drop h)∧h≤X.n):=⟨by rw[← HR4.out.live.1],HR4.out.live.2.1⟩
 have HR5:=hd_ (HR4.out.next (x:=(h:Int)+1) rfl)
 have HF5:Hid (Fe b W4 (W4.setCell ⟨b,4,none⟩ (.int .i64 ((h:Int)+1)))):=(Fe.refl b W4).set (.inl rfl) _ _
 have HI5:=hd_ (HI4.out.on HF5.out hlt)
 go_upto_region 7 with (fail)
 change Code.wp _ _ _ _ (W4.setCell ⟨b,4,none⟩ (.int .i64 ((h:Int)+1)))
 have hI5:IB<(W4.setCell ⟨b,4,none⟩ (.int .i64 ((h:Int)+1))).heap.size:=by simp;exact hI4
 clear HR4 HI4 HF5 c4 f4 z0 z1 z2 z3 z4 HT4
 generalize W4.setCell ⟨b,4,none⟩ (.int .i64 ((h:Int)+1))=W5 at *
 generalize h+1=h1 at HR5
 have h02:=H02h.out
 clear H02h
 have h1d:=H1Dh.out
 clear H1Dh
 have g19:(tk == 19)=false:=by rw[h02];decide
 have g01:(tk == 1)=false:=by rw[h02];decide
 subst h02
 have HRR0:=hd_ (HRR2.out rfl)
 have htx2:tx=noName:=HGD.out.2.2 rfl
 subst htx2
 clear HR1 HRR2 HR19 HR0 HLV HGD g19 g01
 have HIr:=hd_ HI5.out.row
 obtain ⟨i0,i1,i2,i3,i4,i5,i6,i7,i8,i9,i10,i11,i12,i13,i14⟩:=zj_ HIr.out
 have fI:∀ j,W5.frozen? ⟨IB,j,none⟩=false:=fun j=>frozen_of_row _ _ _ _ _ HIr.out
 have HI6:Hid (ItS b w IB ⟨2,noName,tlo,false,zeroN,zeroN,tp⟩ none 0 0 none 0 0 (W5.setCell ⟨IB,0,none⟩ (.int .i64 2))) :=
  HI5.out.put (HI5.out.fe.set (.inr (by omega)) _ _) (by simp) (fun i hi=>Below.heap_setCell _ _ _ _ (by show i≠IB;exact hi)) (by rw[heap_setCell_same _ _ _ _ _ _ HI5.out.row];rfl) (RdN.nil _ _) (RdN.nil _ _)
 have HR6:Hid (Rdd X b (W5.setCell ⟨IB,0,none⟩ (.int .i64 2)) 0 (.live u) h1):=HR5.out.other (by omega) _ _
 have hI6:IB<(W5.setCell ⟨IB,0,none⟩ (.int .i64 2)).heap.size:=by simp;exact hI5
 clear HIr HI5 HR5
 go_upto_region 18 with (fail)
 change Code.wp _ _ _ _ (W5.setCell ⟨IB,0,none⟩ (.int .i64 2))
 clear i0 i1 i2 i3 i4 i5 i6 i7 i8 i9 i10 i11 i12 i13 i14 fI hI5
 generalize (W5.setCell ⟨IB,0,none⟩ (.int .i64 2))=W6 at *
 obtain ⟨fb,hfb⟩:∃ f,formP X.e N 0 (.live u)=f:=⟨_,rfl⟩
 have HRR:Hid (r=(⟨2,noName,tlo,decide ((takeP X.e [4,5] fb.2).1.kind=5),fb.1,(formP X.e N 0 (takeP X.e [4,5] fb.2).2).1,tp⟩,(formP X.e N 0 (takeP X.e [4,5] fb.2).2).2)):=by show _=_;rw[← hfb];exact HRR0.out
 have hflen:fb.2.toks.length≤u.length:=by rw[← hfb];exact (Y.len_all X.e N).form 0 (.live u)
 have HC:=hd_ (dor_any HR6.out N (by omega))
 rw[hfb] at HC h1d
 have HI8:=HI6
 have hI8:=hI6
 clear hfb HR6 HRR0 HI6 hI6
 go_wp2_with fail
 refine HC.out.mono ?_
 rintro en w8 ⟨v,yb,rfl,⟨A8b,n8b,c8b,rfl,hv⟩,hy,hr8,hf8⟩
 have hz8:=hf8.size
 have HIc:=hd_ (HI8.out.on hf8 hlt)
 have HVn:Hid (RdN w8 (ButD (w.heap.size+1) IB w8.heap.size) A8b n8b c8b yb.kids):=hv.keep (fun i hi=>⟨by have:=hi.1;omega,hi.2,by have:=hi.1;omega⟩) (fun _ _=>rfl)
 have HIr:=hd_ HIc.out.row
 obtain ⟨i0,i1,i2,i3,i4,i5,i6,i7,i8,i9,i10,i11,i12,i13,i14⟩:=zj_ HIr.out
 have fI:∀ j,w8.frozen? ⟨IB,j,none⟩=false:=fun j=>frozen_of_row _ _ _ _ _ HIr.out
 have HI9:Hid (ItS b w IB ⟨2,noName,tlo,false,yb,zeroN,tp⟩ A8b n8b c8b none 0 0 (b5 w8 IB (.int .i64 yb.kind) (.string yb.name) (.int .i64 yb.low) (.int .i64 yb.high) (.slice A8b n8b c8b))) :=
  HIc.out.put (HIc.out.fe.b5 (by omega) _ _ _ _ _) (b5_size _ _ _ _ _ _ _) (b5_block _ _ _ _ _ _ _) (b5_row HIc.out.row _ _ _ _ _) HVn.out (RdN.nil _ _)
 have HR9:Hid (RdF X b (b5 w8 IB (.int .i64 yb.kind) (.string yb.name) (.int .i64 yb.low) (.int .i64 yb.high) (.slice A8b n8b c8b)) 0 fb.2):=hr8.b5 (by omega) _ _ _ _ _
 have HYb:Hid (∀ ts,fb.2=.live ts→yb=fb.1):=hy
 have hI9:IB<(b5 w8 IB (.int .i64 yb.kind) (.string yb.name) (.int .i64 yb.low) (.int .i64 yb.high) (.slice A8b n8b c8b)).heap.size:=by rw[b5_size];omega
 have HV9b:Hid (RdN (b5 w8 IB (.int .i64 yb.kind) (.string yb.name) (.int .i64 yb.low) (.int .i64 yb.high) (.slice A8b n8b c8b)) (ButD (w.heap.size+1) IB (b5 w8 IB (.int .i64 yb.kind) (.string yb.name) (.int .i64 yb.low) (.int .i64 yb.high) (.slice A8b n8b c8b)).heap.size) A8b n8b c8b yb.kids):=HVn.out.keep (fun i hi=>⟨hi.1,by rw[b5_size];exact hi.2.1,hi.2.2⟩) (fun p hp=>World.cell?_of_block (b5_block _ _ _ _ _ _ _ _ hp.2.2))
 clear hv hy hr8 hf8 HIc HIr HVn HI8 hI8 HC
 go_upto_region 19 with (fail)
 change Code.wp _ _ _ _ (b5 w8 IB (.int .i64 yb.kind) (.string yb.name) (.int .i64 yb.low) (.int .i64 yb.high) (.slice A8b n8b c8b))
 clear i0 i1 i2 i3 i4 i5 i6 i7 i8 i9 i10 i11 i12 i13 i14 fI hz8
 generalize (b5 w8 IB (.int .i64 yb.kind) (.string yb.name) (.int .i64 yb.low) (.int .i64 yb.high) (.slice A8b n8b c8b))=W9 at *
 obtain ⟨l2,hl2,hk2⟩:=h1d
 obtain ⟨h9,hr9⟩:=HR9.out
 rw[hl2] at hr9
 have HR9d:=hd_ hr9
 obtain ⟨_,_,_,d3,_⟩:=hr9.cells
 replace d3:W9.cell? ⟨b,3,none⟩=some (.int .i64 0):=d3
 have HKD:Hid (∀ q,Calls Tryz.prog 40 #[.pointer (some ⟨b,0,none⟩)] (W9.drewN q) (KindD (W9.drewN q) (kAt l2))):=fun q=>qk_ (HR9d.out.drewN q)
 have HKD0:Hid (Calls Tryz.prog 40 #[.pointer (some ⟨b,0,none⟩)] W9 (KindD W9 (kAt l2))):=qk_ hr9
 clear hr9
 obtain ⟨t2,l3,rfl⟩:∃ t u,l2=t :: u:=by
  cases l2 with
  | nil=>exact absurd hk2 (by decide)
  | cons t u=>exact ⟨t,u,rfl⟩
 have hk3:t2.kind=5:=hk2
 rw[hk2] at HKD HKD0
 have hl3:l3.length+1≤u.length:=by rw[hl2] at hflen;exact hflen
 obtain ⟨f,hf⟩:∃ f,formP X.e N 0 (.live l3)=f:=⟨_,rfl⟩
 have HRF:Hid (r=(⟨2,noName,tlo,true,fb.1,f.1,tp⟩,f.2)):=by
  show _=_
  rw[HRR.out,hl2,zn_ (by simp[hk3]),hf,hk3];rfl
 have HFB:Hid (yb=fb.1):=HYb.out _ hl2
 clear hk2 hk3 hl2 HR9 HRR HYb hflen
 go_wp2_with fail
 refine HKD0.out.mono ?_
 rintro e w10 ⟨rfl,q9,rfl⟩
 go_wp2_with fail
 refine (HKD.out q9).mono ?_
 rintro e w10 ⟨rfl,q8,rfl⟩
 go_wp2_with fail
 refine (HKD.out (q9+q8)).mono ?_
 rintro e w10 ⟨rfl,q7,rfl⟩
 have HR10:Hid (Rdd X b ((W9.drewN (q9+q8)).drewN q7) 0 (.live (t2 :: l3)) h9):=((HR9d.out.drewN (q9+q8)).drewN q7)
 have HI10:Hid (ItS b w IB ⟨2,noName,tlo,false,yb,zeroN,tp⟩ A8b n8b c8b none 0 0 ((W9.drewN (q9+q8)).drewN q7)):=HI9.out.on (((Fe.refl b W9).drewN (q9+q8)).drewN q7) hlt
 have HVb:Hid (RdN ((W9.drewN (q9+q8)).drewN q7) (ButD (w.heap.size+1) IB ((W9.drewN (q9+q8)).drewN q7).heap.size) A8b n8b c8b yb.kids):=HV9b.out.keep (fun _ h=>h) (fun _ _=>rfl)
 have hI10:IB<((W9.drewN (q9+q8)).drewN q7).heap.size:=hI9
 clear HR9d HI9 HV9b hI9 HKD HKD0 d3
 generalize ((W9.drewN (q9+q8)).drewN q7)=W10 at *
 have HIr:=hd_ HI10.out.row
 obtain ⟨i0,i1,i2,i3,i4,i5,i6,i7,i8,i9,i10,i11,i12,i13,i14⟩:=zj_ HIr.out
 have fI:∀ j,W10.frozen? ⟨IB,j,none⟩=false:=fun j=>frozen_of_row _ _ _ _ _ HIr.out
 have HI11:Hid (ItS b w IB ⟨2,noName,tlo,true,yb,zeroN,tp⟩ A8b n8b c8b none 0 0 (W10.setCell ⟨IB,3,none⟩ (.bool true))) :=
  HI10.out.put (HI10.out.fe.set (.inr (by omega)) _ _) (by simp) (fun i hi=>Below.heap_setCell _ _ _ _ (by show i≠IB;exact hi)) (by rw[heap_setCell_same _ _ _ _ _ _ HI10.out.row];rfl) HVb.out (RdN.nil _ _)
 have HR11:Hid (Rdd X b (W10.setCell ⟨IB,3,none⟩ (.bool true)) 0 (.live (t2 :: l3)) h9):=HR10.out.other (by omega) _ _
 have HV11:Hid (RdN (W10.setCell ⟨IB,3,none⟩ (.bool true)) (ButD (w.heap.size+1) IB (W10.setCell ⟨IB,3,none⟩ (.bool true)).heap.size) A8b n8b c8b yb.kids):=HVb.out.keep (fun i hi=>⟨hi.1,by simp;exact hi.2.1,hi.2.2⟩) (fun p hp=>World.cell?_of_block (w:=W10) (Below.heap_setCell _ _ _ _ (by show p.block≠IB;exact hp.2.2)))
 have hI11:IB<(W10.setCell ⟨IB,3,none⟩ (.bool true)).heap.size:=by simp;exact hI10
 go_upto_region 23 with (fail)
 change Code.wp _ _ _ _ (W10.setCell ⟨IB,3,none⟩ (.bool true))
 clear i0 i1 i2 i3 i4 i5 i6 i7 i8 i9 i10 i11 i12 i13 i14 fI HIr HI10 HR10 HVb hI10
 generalize W10.setCell ⟨IB,3,none⟩ (.bool true)=W11 at *
 obtain ⟨_,_,_,d3,d4⟩:=HR11.out.cells
 replace d3:W11.cell? ⟨b,3,none⟩=some (.int .i64 0):=d3
 have f4:=HR11.out.fr 4
 have hle9:=HR11.out.le
 have HR12:Hid (Rdd X b (W11.setCell ⟨b,4,none⟩ (.int .i64 ((h9:Int)+1))) 0 (.live l3) (h9+1)):=HR11.out.next rfl
 have HF12:Hid (Fe b W11 (W11.setCell ⟨b,4,none⟩ (.int .i64 ((h9:Int)+1)))):=(Fe.refl b W11).set (.inl rfl) _ _
 have HI8:=hd_ (HI11.out.on HF12.out hlt)
 have HV12:Hid (RdN (W11.setCell ⟨b,4,none⟩ (.int .i64 ((h9:Int)+1))) (ButD (w.heap.size+1) IB (W11.setCell ⟨b,4,none⟩ (.int .i64 ((h9:Int)+1))).heap.size) A8b n8b c8b yb.kids):=HV11.out.keep (fun i hi=>⟨hi.1,by simp;exact hi.2.1,hi.2.2⟩) (fun p hp=>World.cell?_of_block (w:=W11) (Below.heap_setCell _ _ _ _ (by show p.block≠b;have:=hp.1;omega)))
 have hI8:IB<(W11.setCell ⟨b,4,none⟩ (.int .i64 ((h9:Int)+1))).heap.size:=by simp;exact hI11
 go_upto_region 25 with (fail)
 change Code.wp _ _ _ _ (W11.setCell ⟨b,4,none⟩ (.int .i64 ((h9:Int)+1)))
 clear d3 d4 f4 HI11 HR11 HV11 HF12 hI11
 generalize W11.setCell ⟨b,4,none⟩ (.int .i64 ((h9:Int)+1))=W12 at *
 have HC:=hd_ (dor_any HR12.out N (by omega))
 rw[hf] at HC
 clear hf HR12 hm hl3
 go_wp2_with fail
 refine HC.out.mono ?_
 rintro en w8 ⟨v,y,rfl,⟨A8,n8,c8,rfl,hv⟩,hy,hr8,hf8⟩
 have HVb:Hid (RdN w8 (ButD (w.heap.size+1) IB w8.heap.size) A8b n8b c8b yb.kids):=HV12.out.keep (fun i hi=>⟨hi.1,by have:=hi.2.1;have:=hf8.size;omega,hi.2.2⟩) (fun p hp=>World.cell?_of_block (hf8.block _ hp.2.1 (by have:=hp.1;omega)))
 clear HV12
 have hz8:=hf8.size
 have HIc:=hd_ (HI8.out.on hf8 hlt)
 have HVn:Hid (RdN w8 (ButD (w.heap.size+1) IB w8.heap.size) A8 n8 c8 y.kids):=hv.keep (fun i hi=>⟨by have:=hi.1;omega,hi.2,by have:=hi.1;omega⟩) (fun _ _=>rfl)
 have HIr:=hd_ HIc.out.row
 obtain ⟨i0,i1,i2,i3,i4,i5,i6,i7,i8,i9,i10,i11,i12,i13,i14⟩:=zj_ HIr.out
 have fI:∀ j,w8.frozen? ⟨IB,j,none⟩=false:=fun j=>frozen_of_row _ _ _ _ _ HIr.out
 have HI9:Hid (ItS b w IB ⟨2,noName,tlo,true,yb,y,tp⟩ A8b n8b c8b A8 n8 c8 (a5 w8 IB (.int .i64 y.kind) (.string y.name) (.int .i64 y.low) (.int .i64 y.high) (.slice A8 n8 c8))) :=
  HIc.out.put (HIc.out.fe.a5 (by omega) _ _ _ _ _) (a5_size _ _ _ _ _ _ _) (a5_block _ _ _ _ _ _ _) (a5_row HIc.out.row _ _ _ _ _) HVb.out HVn.out
 have HR9:Hid (RdF X b (a5 w8 IB (.int .i64 y.kind) (.string y.name) (.int .i64 y.low) (.int .i64 y.high) (.slice A8 n8 c8)) 0 f.2):=hr8.a5 (by omega) _ _ _ _ _
 have HY:Hid (∀ ts,f.2=.live ts→y=f.1):=hy
 have hI9:IB<(a5 w8 IB (.int .i64 y.kind) (.string y.name) (.int .i64 y.low) (.int .i64 y.high) (.slice A8 n8 c8)).heap.size:=by rw[a5_size];omega
 have HV9:Hid (RdN (a5 w8 IB (.int .i64 y.kind) (.string y.name) (.int .i64 y.low) (.int .i64 y.high) (.slice A8 n8 c8)) (ButD (w.heap.size+1) IB (a5 w8 IB (.int .i64 y.kind) (.string y.name) (.int .i64 y.low) (.int .i64 y.high) (.slice A8 n8 c8)).heap.size) A8 n8 c8 y.kids):=HVn.out.keep (fun i hi=>⟨hi.1,by rw[a5_size];exact hi.2.1,hi.2.2⟩) (fun p hp=>World.cell?_of_block (a5_block _ _ _ _ _ _ _ _ hp.2.2))
 clear hv hy hr8 hf8 HIc HIr HVn HI8 hI8 HC
 go_upto_region 26 with (fail)
 change Code.wp _ _ _ _ (a5 w8 IB (.int .i64 y.kind) (.string y.name) (.int .i64 y.low) (.int .i64 y.high) (.slice A8 n8 c8))
 clear i0 i1 i2 i3 i4 i5 i6 i7 i8 i9 i10 i11 i12 i13 i14 fI hz8
 generalize (a5 w8 IB (.int .i64 y.kind) (.string y.name) (.int .i64 y.low) (.int .i64 y.high) (.slice A8 n8 c8))=W9 at *
 have HI:=HI9
 obtain ⟨x,hx⟩:∃ x:It,x=⟨2,noName,tlo,true,yb,y,tp⟩:=⟨_,rfl⟩
 have HGG:Hid (RdGe X b W9 r.2):=by show RdGe _ _ _ _;rw[HRF.out];exact HR9.out.g
 have HXR:Hid (∀ ts,r.2=.live ts→x=r.1):=fun ts h=>by rw[HRF.out] at h ⊢;rw[hx,HY.out ts h,HFB.out]
 replace HI:Hid (ItS b w IB x A8b n8b c8b A8 n8 c8 W9):=by rw[hx];exact HI.out
 clear HRF HR9 HI9 HY hx HV9 HVb HFB
 generalize W9=W at *
 have HE:Hid (PIQ X b w r (.returned (.agg #[.int .i64 x.kind,.string x.name,.int .i64 x.number,.bool x.cut,.int .i64 x.before.kind,.string x.before.name,.int .i64 x.before.low,.int .i64 x.before.high,.slice A8b n8b c8b,.int .i64 x.after.kind,.string x.after.name,.int .i64 x.after.low,.int .i64 x.after.high,.slice A8 n8 c8,.int .i64 x.pos])) (set15 W w.heap.size (.int .i64 x.kind) (.string x.name) (.int .i64 x.number) (.bool x.cut) (.int .i64 x.before.kind) (.string x.before.name) (.int .i64 x.before.low) (.int .i64 x.before.high) (.slice A8b n8b c8b) (.int .i64 x.after.kind) (.string x.after.name) (.int .i64 x.after.low) (.int .i64 x.after.high) (.slice A8 n8 c8) (.int .i64 x.pos))):=(pi_end HI.out.fe HGG.out hlt HI.out.box HI.out.kb HI.out.ka HXR.out).1
 have HQ:Hid ((set15 W w.heap.size (.int .i64 x.kind) (.string x.name) (.int .i64 x.number) (.bool x.cut) (.int .i64 x.before.kind) (.string x.before.name) (.int .i64 x.before.low) (.int .i64 x.before.high) (.slice A8b n8b c8b) (.int .i64 x.after.kind) (.string x.after.name) (.int .i64 x.after.low) (.int .i64 x.after.high) (.slice A8 n8 c8) (.int .i64 x.pos)).heap[w.heap.size]?=some (.cells #[.int .i64 x.kind,.string x.name,.int .i64 x.number,.bool x.cut,.int .i64 x.before.kind,.string x.before.name,.int .i64 x.before.low,.int .i64 x.before.high,.slice A8b n8b c8b,.int .i64 x.after.kind,.string x.after.name,.int .i64 x.after.low,.int .i64 x.after.high,.slice A8 n8 c8,.int .i64 x.pos] 79 (0,0))):=(pi_end HI.out.fe HGG.out hlt HI.out.box HI.out.kb HI.out.ka HXR.out).2
 obtain ⟨i0,i1,i2,i3,i4,i5,i6,i7,i8,i9,i10,i11,i12,i13,i14⟩:=zj_ HI.out.row
 obtain ⟨y0,y1,y2,y3,y4,y5,y6,y7,y8,y9,y10,y11,y12,y13,y14,hN⟩:=HI.out.box
 obtain ⟨j0,j1,j2,j3,j4,j5,j6,j7,j8,j9,j10,j11,j12,j13,j14⟩:=zj_ hN
 have fN:∀ j,W.frozen? ⟨w.heap.size,j,none⟩=false:=fun j=>frozen_of_row _ _ _ _ _ hN
 have hltI:=HI.out.lt
 clear hN HI HGG HXR
 go_wp2_with fail
 change bodyPost _ _ _ _ _ (set15 W w.heap.size (.int .i64 x.kind) (.string x.name) (.int .i64 x.number) (.bool x.cut) (.int .i64 x.before.kind) (.string x.before.name) (.int .i64 x.before.low) (.int .i64 x.before.high) (.slice A8b n8b c8b) (.int .i64 x.after.kind) (.string x.after.name) (.int .i64 x.after.low) (.int .i64 x.after.high) (.slice A8 n8 c8) (.int .i64 x.pos))
 generalize (set15 W w.heap.size (.int .i64 x.kind) (.string x.name) (.int .i64 x.number) (.bool x.cut) (.int .i64 x.before.kind) (.string x.before.name) (.int .i64 x.before.low) (.int .i64 x.before.high) (.slice A8b n8b c8b) (.int .i64 x.after.kind) (.string x.after.name) (.int .i64 x.after.low) (.int .i64 x.after.high) (.slice A8 n8 c8) (.int .i64 x.pos))=w9 at HE HQ ⊢
 obtain ⟨q0,q1,q2,q3,q4,q5,q6,q7,q8,q9,q10,q11,q12,q13,q14⟩:=zj_ HQ.out
 exact bodyPost_ret (v:=.agg #[.int .i64 x.kind,.string x.name,.int .i64 x.number,.bool x.cut,.int .i64 x.before.kind,.string x.before.name,.int .i64 x.before.low,.int .i64 x.before.high,.slice A8b n8b c8b,.int .i64 x.after.kind,.string x.after.name,.int .i64 x.after.low,.int .i64 x.after.high,.slice A8 n8 c8,.int .i64 x.pos]) (by simp[results,Tryz.results42,go_sem,q0,q1,q2,q3,q4,q5,q6,q7,q8,q9,q10,q11,q12,q13,q14]) rfl HE.out
end Go.Proofs.YtbbmjdddemahfaaGreat
