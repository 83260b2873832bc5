/- Part of the proof. -/
import Derived.Test.YtbbmjdddemahfaaGreatSW35
import Derived.Test.YtbbmjdddemahfaaGreatSW22
set_option maxRecDepth 100000
namespace Go.Proofs.YtbbmjdddemahfaaGreat
open Go.RowKit
open Y (Nd It Ps nextP takeP failP noTok noName zeroN deepP formP itemP)

structure DAll (L:Nat):Prop where
 set:DSet L
 part:DPart L
 or:DOr L
theorem dset_nil:DSet 0:=fun X b w o l h H ho hnx hl m hm=>by
 obtain rfl:l=[]:=List.eq_nil_of_length_eq_zero (by omega)
 simp at hnx
theorem d_all:∀ L,DAll L
 | 0=>⟨dset_nil,dpart_of dset_nil,dor_of (djoin_of (dpiece_of (fun L' h=>absurd h (by omega)) dset_nil))⟩
 | L+1=>by
  have ih:=d_all L
  have hs:DSet (L+1):=dset_of ih.part
  have ho:∀ L', L' + 1=L+1→DOr L' := fun L' h=>by
   have e:L' = L:=by omega
   rw[e];exact ih.or
  exact ⟨hs,dpart_of hs,dor_of (djoin_of (dpiece_of ho hs))⟩
theorem dor_any {X:Px}{b:Nat}{w:World}{l:List Tok}{h:Nat}(H:Rdd X b w 0 (.live l) h) (m:Nat) (hm:10*l.length+10≤m) :
  Calls Tryz.prog 65 #[.pointer (some ⟨b,0,none⟩),.int .i64 0] w (PFQ X b w 0 (formP X.e m 0 (.live l))) :=
 (d_all l.length).or X b w 0 l h H (by omega) (Nat.le_refl _) m hm
def RdGe (X:Px) (b:Nat) (w:World):Ps→Prop
 | .live l=>RdF X b w 0 (.live l)
 | .dead a y=>y≠0∧∃ hv:Int,w.heap[b]?=some (.cells #[.slice X.A X.n X.c,.int .i64 X.e,.int .i64 a,.int .i64 y,.int .i64 hv] 91 (0,0))
theorem RdF.g {X:Px}{b o:Nat}{w:World}{s:Ps}(H:RdF X b w o s):RdGe X b w s:=by
 obtain ⟨h,H⟩:=H
 cases s with
 | live l=>exact ⟨h,H.less (Nat.zero_le _)⟩
 | dead a y=>exact ⟨H.dead_y,_,H.blk⟩
theorem RdGe.lt {X:Px}{b:Nat}{w:World}{s:Ps}(H:RdGe X b w s):b<w.heap.size:=by
 cases s with
 | live l=>obtain ⟨h,H⟩:=H;exact H.lt
 | dead a y=>obtain ⟨_,hv,H⟩:=H;exact (Array.getElem?_eq_some_iff.1 H).1
theorem RdGe.cells {X:Px}{b:Nat}{w:World}{s:Ps}(H:RdGe X b w s):∃ hv:Int,w.cell? ⟨b,0,none⟩=some (.slice X.A X.n X.c)∧w.cell? ⟨b,1,none⟩=some (.int .i64 X.e)∧w.cell? ⟨b,2,none⟩=some (.int .i64 s.atv)∧w.cell? ⟨b,3,none⟩=some (.int .i64 s.whyv)∧w.cell? ⟨b,4,none⟩=some (.int .i64 hv):=by
 cases s with
 | live l=>obtain ⟨h,H⟩:=H;exact ⟨_,H.cells⟩
 | dead a y=>obtain ⟨_,hv,H⟩:=H;exact ⟨hv,ql_ H⟩
theorem RdGe.below {X:Px}{b:Nat}{w w' : World}{s:Ps}(H:RdGe X b w s) (hb:Below w.heap.size w w'):RdGe X b w' s:=by
 have hlt:=H.lt
 cases s with
 | live l=>exact RdF.below H hb
 | dead a y=>obtain ⟨hy,hv,H⟩:=H;exact ⟨hy,hv,(hb.block b hlt).trans H⟩
theorem RdF.other15 {X:Px}{b o:Nat}{w:World}{s:Ps}(h:RdF X b w o s){g:Nat}(hg:b<g) (a0 a1 a2 a3 a4 a5 a6 a7 a8 a9 a10 a11 a12 a13 a14:Value):RdF X b (set15 w g a0 a1 a2 a3 a4 a5 a6 a7 a8 a9 a10 a11 a12 a13 a14) o s :=
 ((((((((((((((h.other hg _ _).other hg _ _).other hg _ _).other hg _ _).other hg _ _).other hg _ _).other hg _ _).other hg _ _).other hg _ _).other hg _ _).other hg _ _).other hg _ _).other hg _ _).other hg _ _).other hg _ _
theorem RdGe.other15 {X:Px}{b:Nat}{w:World}{s:Ps}(H:RdGe X b w s){g:Nat}(hg:b<g) (a0 a1 a2 a3 a4 a5 a6 a7 a8 a9 a10 a11 a12 a13 a14:Value):RdGe X b (set15 w g a0 a1 a2 a3 a4 a5 a6 a7 a8 a9 a10 a11 a12 a13 a14) s:=by
 cases s with
 | live l=>exact RdF.other15 H hg _ _ _ _ _ _ _ _ _ _ _ _ _ _ _
 | dead a y=>obtain ⟨hy,hv,H⟩:=H;exact ⟨hy,hv,(set15_block _ _ _ _ _ _ _ _ _ _ _ _ _ _ _ _ _ (by omega)).trans H⟩
def PIQ (X:Px) (b:Nat) (w:World) (r:It × Ps) (en:Ending) (w' : World):Prop:=∃ v x,en=.returned v∧IsI w' (In w.heap.size w'.heap.size) v x∧(∀ ts,r.2=.live ts→x=r.1)∧RdGe X b w' r.2∧Fe b w w'
theorem pi_end {X:Px}{b:Nat}{w W:World}{r:It × Ps}{x:It}{Ab Aa:Option Addr}{nb cb na ca:Nat}(hf:Fe b w W) (hr:RdGe X b W r.2) (hb:b<w.heap.size) (hB:Box15 W w.heap.size)
  (h1:RdN W (In (w.heap.size+1) W.heap.size) Ab nb cb x.before.kids) (h2:RdN W (In (w.heap.size+1) W.heap.size) Aa na ca x.after.kids) (hx:∀ ts,r.2=.live ts→x=r.1) :
  PIQ X b w r (.returned (itV x Ab nb cb Aa na ca)) (set15I W w.heap.size x Ab nb cb Aa na ca)∧(set15I W w.heap.size x Ab nb cb Aa na ca).heap[w.heap.size]?=some (.cells #[.int .i64 x.kind,.string x.name,.int .i64 x.number,.bool x.cut,.int .i64 x.before.kind,.string x.before.name,.int .i64 x.before.low,.int .i64 x.before.high,.slice Ab nb cb,.int .i64 x.after.kind,.string x.after.name,.int .i64 x.after.low,.int .i64 x.after.high,.slice Aa na ca,.int .i64 x.pos] 79 (0,0)):=by
 have hk:∀ {A:Option Addr} {n c:Nat} {l:List Nd},RdN W (In (w.heap.size+1) W.heap.size) A n c l→RdN (set15I W w.heap.size x Ab nb cb Aa na ca) (In w.heap.size (set15I W w.heap.size x Ab nb cb Aa na ca).heap.size) A n c l:=fun h =>
  h.keep (fun i hi=>⟨by have:=hi.1;omega,by unfold set15I;rw[set15_size];exact hi.2⟩) fun p hp=>World.cell?_of_block (w:=W) (set15_block _ _ _ _ _ _ _ _ _ _ _ _ _ _ _ _ _ (by have:=hp.1;omega))
 exact ⟨⟨_,x,rfl,⟨Ab,nb,cb,Aa,na,ca,rfl,hk h1,hk h2⟩,hx,hr.other15 hb _ _ _ _ _ _ _ _ _ _ _ _ _ _ _,hf.set15 (.inr (Nat.le_refl _)) _ _ _ _ _ _ _ _ _ _ _ _ _ _ _⟩,hB.set _ _ _ _ _ _ _ _ _ _ _ _ _ _ _⟩
structure ItS (b:Nat) (w:World) (IB:Nat) (x:It) (Ab:Option Addr) (nb cb:Nat) (Aa:Option Addr) (na ca:Nat) (W:World):Prop where
 fe:Fe b w W
 box:Box15 W w.heap.size
 row:W.heap[IB]?=some (.cells #[.int .i64 x.kind,.string x.name,.int .i64 x.number,.bool x.cut,.int .i64 x.before.kind,.string x.before.name,.int .i64 x.before.low,.int .i64 x.before.high,.slice Ab nb cb,.int .i64 x.after.kind,.string x.after.name,.int .i64 x.after.low,.int .i64 x.after.high,.slice Aa na ca,.int .i64 x.pos] 79 (0,0))
 kb:RdN W (In (w.heap.size+1) W.heap.size) Ab nb cb x.before.kids
 ka:RdN W (In (w.heap.size+1) W.heap.size) Aa na ca x.after.kids
 lt:w.heap.size<IB
section
variable {b IB:Nat}{w W W' : World}{x:It}{Ab Aa:Option Addr}{nb cb na ca:Nat}
theorem ItS.ib (h:ItS b w IB x Ab nb cb Aa na ca W):IB<W.heap.size:=(Array.getElem?_eq_some_iff.1 h.row).1
theorem ItS.on (h:ItS b w IB x Ab nb cb Aa na ca W) (hf:Fe b W W') (hb:b<w.heap.size):ItS b w IB x Ab nb cb Aa na ca W' := by
 have h1:=h.ib
 have h2:=h.lt
 have h3:=hf.size
 exact ⟨h.fe.trans hf,h.box.fe hf (by omega) (by omega),(hf.block IB h1 (by omega)).trans h.row,
  h.kb.keep (fun i hi=>⟨hi.1,by have:=hi.2;omega⟩) (fun p hp=>World.cell?_of_block (hf.block _ hp.2 (by have:=hp.1;omega))),
  h.ka.keep (fun i hi=>⟨hi.1,by have:=hi.2;omega⟩) (fun p hp=>World.cell?_of_block (hf.block _ hp.2 (by have:=hp.1;omega))),h2⟩
theorem ItS.put (h:ItS b w IB x Ab nb cb Aa na ca W){x' : It}{Ab' Aa' : Option Addr}{nb' cb' na' ca' : Nat}(hf:Fe b w W') (hs:W'.heap.size=W.heap.size) (hk:∀ i,i≠IB→W'.heap[i]?=W.heap[i]?)
  (hrow:W'.heap[IB]?=some (.cells #[.int .i64 x'.kind,.string x'.name,.int .i64 x'.number,.bool x'.cut,.int .i64 x'.before.kind,.string x'.before.name,.int .i64 x'.before.low,.int .i64 x'.before.high,.slice Ab' nb' cb', .int .i64 x'.after.kind,.string x'.after.name,.int .i64 x'.after.low,.int .i64 x'.after.high,.slice Aa' na' ca', .int .i64 x'.pos] 79 (0,0)))
  (hb1:RdN W (ButD (w.heap.size+1) IB W.heap.size) Ab' nb' cb' x'.before.kids) (ha1:RdN W (ButD (w.heap.size+1) IB W.heap.size) Aa' na' ca' x'.after.kids):ItS b w IB x' Ab' nb' cb' Aa' na' ca' W' := by
 have h2:=h.lt
 have h1:=h.ib
 obtain ⟨y0,y1,y2,y3,y4,y5,y6,y7,y8,y9,y10,y11,y12,y13,y14,hB⟩:=h.box
 exact ⟨hf,⟨y0,y1,y2,y3,y4,y5,y6,y7,y8,y9,y10,y11,y12,y13,y14,(hk _ (by omega)).trans hB⟩,hrow,
  hb1.keep (fun i hi=>⟨hi.1,by rw[hs];exact hi.2.1⟩) (fun p hp=>World.cell?_of_block (hk _ hp.2.2)),
  ha1.keep (fun i hi=>⟨hi.1,by rw[hs];exact hi.2.1⟩) (fun p hp=>World.cell?_of_block (hk _ hp.2.2)),h2⟩
end

def b5 (W:World) (N:Nat) (a0 a1 a2 a3 a4:Value):World:=((((W.setCell ⟨N,4,none⟩ a0).setCell ⟨N,5,none⟩ a1).setCell ⟨N,6,none⟩ a2).setCell ⟨N,7,none⟩ a3).setCell ⟨N,8,none⟩ a4
def a5 (W:World) (N:Nat) (a0 a1 a2 a3 a4:Value):World:=((((W.setCell ⟨N,9,none⟩ a0).setCell ⟨N,10,none⟩ a1).setCell ⟨N,11,none⟩ a2).setCell ⟨N,12,none⟩ a3).setCell ⟨N,13,none⟩ a4
theorem b5_row {W:World}{N:Nat}{x0 x1 x2 x3 x4 x5 x6 x7 x8 x9 x10 x11 x12 x13 x14:Value}{t:TypeId}(h:W.heap[N]?=some (.cells #[x0,x1,x2,x3,x4,x5,x6,x7,x8,x9,x10,x11,x12,x13,x14] t (0,0))) (a0 a1 a2 a3 a4:Value):(b5 W N a0 a1 a2 a3 a4).heap[N]?=some (.cells #[x0,x1,x2,x3,a0,a1,a2,a3,a4,x9,x10,x11,x12,x13,x14] t (0,0)):=by
 unfold b5
 rw[heap_setCell_same _ _ _ _ _ _ (heap_setCell_same _ _ _ _ _ _ (heap_setCell_same _ _ _ _ _ _ (heap_setCell_same _ _ _ _ _ _ (heap_setCell_same _ _ _ _ _ _ h))))];rfl
theorem a5_row {W:World}{N:Nat}{x0 x1 x2 x3 x4 x5 x6 x7 x8 x9 x10 x11 x12 x13 x14:Value}{t:TypeId}(h:W.heap[N]?=some (.cells #[x0,x1,x2,x3,x4,x5,x6,x7,x8,x9,x10,x11,x12,x13,x14] t (0,0))) (a0 a1 a2 a3 a4:Value):(a5 W N a0 a1 a2 a3 a4).heap[N]?=some (.cells #[x0,x1,x2,x3,x4,x5,x6,x7,x8,a0,a1,a2,a3,a4,x14] t (0,0)):=by
 unfold a5
 rw[heap_setCell_same _ _ _ _ _ _ (heap_setCell_same _ _ _ _ _ _ (heap_setCell_same _ _ _ _ _ _ (heap_setCell_same _ _ _ _ _ _ (heap_setCell_same _ _ _ _ _ _ h))))];rfl
theorem b5_size (W:World) (N:Nat) (a0 a1 a2 a3 a4:Value):(b5 W N a0 a1 a2 a3 a4).heap.size=W.heap.size:=by simp[b5]
theorem a5_size (W:World) (N:Nat) (a0 a1 a2 a3 a4:Value):(a5 W N a0 a1 a2 a3 a4).heap.size=W.heap.size:=by simp[a5]
theorem b5_block (W:World) (N:Nat) (a0 a1 a2 a3 a4:Value) (i:Nat) (hi:i≠N):(b5 W N a0 a1 a2 a3 a4).heap[i]?=W.heap[i]? :=
 ((((Below.heap_setCell _ _ _ _ hi).trans (Below.heap_setCell _ _ _ _ hi)).trans (Below.heap_setCell _ _ _ _ hi)).trans (Below.heap_setCell _ _ _ _ hi)).trans (Below.heap_setCell _ _ _ _ hi)
theorem a5_block (W:World) (N:Nat) (a0 a1 a2 a3 a4:Value) (i:Nat) (hi:i≠N):(a5 W N a0 a1 a2 a3 a4).heap[i]?=W.heap[i]? :=
 ((((Below.heap_setCell _ _ _ _ hi).trans (Below.heap_setCell _ _ _ _ hi)).trans (Below.heap_setCell _ _ _ _ hi)).trans (Below.heap_setCell _ _ _ _ hi)).trans (Below.heap_setCell _ _ _ _ hi)
theorem Fe.b5 {b:Nat}{a c:World}(h:Fe b a c){g:Nat}(hg:a.heap.size≤g) (a0 a1 a2 a3 a4:Value):Fe b a (b5 c g a0 a1 a2 a3 a4) :=
 ((((h.set (.inr hg) _ _).set (.inr hg) _ _).set (.inr hg) _ _).set (.inr hg) _ _).set (.inr hg) _ _
theorem Fe.a5 {b:Nat}{a c:World}(h:Fe b a c){g:Nat}(hg:a.heap.size≤g) (a0 a1 a2 a3 a4:Value):Fe b a (a5 c g a0 a1 a2 a3 a4) :=
 ((((h.set (.inr hg) _ _).set (.inr hg) _ _).set (.inr hg) _ _).set (.inr hg) _ _).set (.inr hg) _ _
theorem RdF.b5 {X:Px}{b o:Nat}{w:World}{s:Ps}(h:RdF X b w o s){g:Nat}(hg:b<g) (a0 a1 a2 a3 a4:Value):RdF X b (b5 w g a0 a1 a2 a3 a4) o s :=
 ((((h.other hg _ _).other hg _ _).other hg _ _).other hg _ _).other hg _ _
theorem RdF.a5 {X:Px}{b o:Nat}{w:World}{s:Ps}(h:RdF X b w o s){g:Nat}(hg:b<g) (a0 a1 a2 a3 a4:Value):RdF X b (a5 w g a0 a1 a2 a3 a4) o s :=
 ((((h.other hg _ _).other hg _ _).other hg _ _).other hg _ _).other hg _ _
set_option maxHeartbeats 2000000 in
theorem ditem_name {X:Px}{b:Nat}{w:World}{tk:Int}{tt:List Int}{tlo thi tp:Int}{u:List Tok}{h:Nat}(H:Rdd X b w 0 (.live (⟨tk,tt,tlo,thi,tp⟩ :: u)) h){N:Nat}(hm:10*(⟨tk,tt,tlo,thi,tp⟩ :: u:List Tok).length+10≤N){r:It × Ps}(hr:itemP X.e N (.live (⟨tk,tt,tlo,thi,tp⟩ :: u))=r) (h01:tk=1) (h3:kAt u=3) :
  Calls Tryz.prog 42 #[.pointer (some ⟨b,0,none⟩)] w (PIQ X b w r):=by
 have H01h:=hd_ h01
 clear h01
 have H3h:=hd_ h3
 clear h3
 have hlt:=H.lt
 have HW1:=hd_ (begI_below w)
 have HR2:=hd_ (H.below HW1.out)
 have HBX2:=hd_ (begI_box w)
 have hz2:=begI_size w
 have HF2:Hid (Fe b w (begI w)):=Fe.of_below HW1.out
 clear H
 have hgd:=HR2.out.gd
 obtain ⟨g,off,hg,hh,hheld⟩:=HR2.out.held
 have HS:Hid (∀ w', Below (begI w).heap.size (begI w) w' → HeldR X b g off h tk (strOfNums tt) tlo thi tp w'):=hheld
 have HGD:Hid (tk≠0∧(tk=1→tlo=0)∧(tk=2→strOfNums tt=noName)):=⟨hgd.1,hgd.2.1,fun e=>by rw[show tt=[] from hgd.2.2 e];rfl⟩
 clear hheld hgd
 have hh0:(0:Int)≤(h:Int):=by omega
 have hhn:(h:Int)<(X.n:Int):=by omega
 have hf9:=HR2.out.few
 have hr1:tk=1→r=(⟨1,strOfNums tt,0,false,(formP X.e N 0 (takeP X.e [3] (.live u)).2).1,zeroN,tp⟩,(formP X.e N 0 (takeP X.e [3] (.live u)).2).2):=fun e=>by
  subst e;rw[← hr];rfl
 have hr2:tk=2→r=(⟨2,noName,tlo,decide ((takeP X.e [4,5] (formP X.e N 0 (.live u)).2).1.kind=5),(formP X.e N 0 (.live u)).1,(formP X.e N 0 (takeP X.e [4,5] (formP X.e N 0 (.live u)).2).2).1,tp⟩,(formP X.e N 0 (takeP X.e [4,5] (formP X.e N 0 (.live u)).2).2).2):=fun e=>by
  subst e;rw[← hr];rfl
 have hr19:tk=19→r=(⟨3,strOfNums tt,tlo,false,zeroN,zeroN,tp⟩,.live u):=fun e=>by
  subst e;rw[← hr];rfl
 have hr0:¬ (tk=1∨tk=2∨tk=19)→r.2=.dead tp 4:=fun e=>by
  have hc:[1,2,19].contains tk=false:=by
   simp only[List.contains_cons,List.contains_nil,Bool.or_false,Bool.or_eq_false_iff,beq_eq_false_iff_ne]
   exact ⟨fun h=>e (.inl h),fun h=>e (.inr (.inl h)),fun h=>e (.inr (.inr h))⟩
  have ht:takeP X.e [1,2,19] (.live (⟨tk,tt,tlo,thi,tp⟩ :: u))=(noTok,.dead tp 4):=by rw[Y.take_cons,if_neg (by rw[hc];decide)]
  rw[← hr];unfold Y.itemP;rw[ht];rfl
 have HR1:=hd_ hr1
 have HRR2:=hd_ hr2
 have HR19:=hd_ hr19
 have HR0:=hd_ hr0
 clear hr hr1 hr2 hr19 hr0
 generalize htx:strOfNums tt=tx at *
 clear htx
 simp only[List.length_cons] at hm
 go_enter Tryz.func42,Tryz.ntmps42
 go_wp2_with fail
 change Code.wp _ _ _ _ (begI w)
 generalize begI w=W2 at *
 have SS:HeldR X b g off h tk tx tlo thi tp W2.drew:=HS.out _ (Below.refl _ _).drew
 refine qw_ (HeldR X b g off h tk tx tlo thi tp) 11 12 (by kernel_rfl) rfl ?_
 refine qc_ 0 (v:=.pointer (some ⟨b,0,none⟩)) rfl (by kernel_rfl) (by kernel_rfl) (by kernel_rfl) (by kernel_rfl) (fun _ _ _ h=>h) SS rfl (fun w' hS=>?_) ?_
 ·obtain ⟨s0,s1,s2,s3,s4,s5,s6⟩:=hS;go_simp
 refine qc_ 1 (v:=.pointer (some ⟨b,0,none⟩)) rfl (by kernel_rfl) (by kernel_rfl) (by kernel_rfl) (by kernel_rfl) (fun _ _ _ h=>h) SS rfl (fun w' hS=>?_) ?_
 ·obtain ⟨s0,s1,s2,s3,s4,s5,s6⟩:=hS;go_simp
 refine qc_ 2 (v:=.pointer (some ⟨b,0,none⟩)) rfl (by kernel_rfl) (by kernel_rfl) (by kernel_rfl) (by kernel_rfl) (fun _ _ _ h=>h) SS rfl (fun w' hS=>?_) ?_
 ·obtain ⟨s0,s1,s2,s3,s4,s5,s6⟩:=hS;go_simp
 refine qc_ 3 (v:=.slice (some ⟨g,off,none⟩) X.n X.c) rfl (by kernel_rfl) (by kernel_rfl) (by kernel_rfl) (by kernel_rfl) (fun _ _ _ h=>h) SS rfl (fun w' hS=>?_) ?_
 ·obtain ⟨s0,s1,s2,s3,s4,s5,s6⟩:=hS;go_simp
 refine qc_ 4 (v:=.pointer (some ⟨b,0,none⟩)) rfl (by kernel_rfl) (by kernel_rfl) (by kernel_rfl) (by kernel_rfl) (fun _ _ _ h=>h) SS rfl (fun w' hS=>?_) ?_
 ·obtain ⟨s0,s1,s2,s3,s4,s5,s6⟩:=hS;go_simp
 refine qc_ 5 (v:=.pointer (some ⟨b,0,none⟩)) rfl (by kernel_rfl) (by kernel_rfl) (by kernel_rfl) (by kernel_rfl) (fun _ _ _ h=>h) SS rfl (fun w' hS=>?_) ?_
 ·obtain ⟨s0,s1,s2,s3,s4,s5,s6⟩:=hS;go_simp
 refine qc_ 6 (v:=.pointer (some ⟨b,4,none⟩)) rfl (by kernel_rfl) (by kernel_rfl) (by kernel_rfl) (by kernel_rfl) (fun _ _ _ h=>h) SS rfl (fun w' hS=>?_) ?_
 ·obtain ⟨s0,s1,s2,s3,s4,s5,s6⟩:=hS;go_simp
 refine qc_ 7 (v:=.int .i64 h) rfl (by kernel_rfl) (by kernel_rfl) (by kernel_rfl) (by kernel_rfl) (fun _ _ _ h=>h) SS rfl (fun w' hS=>?_) ?_
 ·obtain ⟨s0,s1,s2,s3,s4,s5,s6⟩:=hS;go_simp
 refine qc_ 8 (v:=.pointer (some ⟨g,off+h*5,none⟩)) rfl (by kernel_rfl) (by kernel_rfl) (by kernel_rfl) (by kernel_rfl) (fun _ _ _ h=>h) SS rfl (fun w' hS=>?_) ?_
 ·obtain ⟨s0,s1,s2,s3,s4,s5,s6⟩:=hS;go_simp
 refine qc_ 9 (v:=.agg #[.int .i64 tk,.string tx,.int .i64 tlo,.int .i64 thi,.int .i64 tp]) rfl (by kernel_rfl) (by kernel_rfl) (by kernel_rfl) (by kernel_rfl) (fun _ _ _ h=>h) SS rfl (fun w' hS=>?_) ?_
 ·obtain ⟨s0,s1,s2,s3,s4,s5,s6⟩:=hS;go_simp
 refine zk_ 10 rfl (by kernel_rfl) rfl ?_
 go_simp
 have HBA:Hid (Below W2.heap.size W2 ((W2.alloc (.cells #[.int .i64 0,.string { data:=#[] },.int .i64 0,.int .i64 0,.int .i64 0] 129)).drew)):=(qa_ W2 _).drew
 have hNA:((W2.alloc (.cells #[.int .i64 0,.string { data:=#[] },.int .i64 0,.int .i64 0,.int .i64 0] 129)).drew).heap[w.heap.size+1]?=some (.cells #[.int .i64 0,.string { data:=#[] },.int .i64 0,.int .i64 0,.int .i64 0] 129 (0,0)):=by rw[← hz2];exact heap_alloc_new W2 _
 have SA:=HS.out _ HBA.out
 have hzA:((W2.alloc (.cells #[.int .i64 0,.string { data:=#[] },.int .i64 0,.int .i64 0,.int .i64 0] 129)).drew).heap.size=w.heap.size+2:=by rw[show ((W2.alloc (.cells #[.int .i64 0,.string { data:=#[] },.int .i64 0,.int .i64 0,.int .i64 0] 129)).drew).heap.size=W2.heap.size+1 by simp[World.drew]];omega
 generalize ((W2.alloc (.cells #[.int .i64 0,.string { data:=#[] },.int .i64 0,.int .i64 0,.int .i64 0] 129)).drew)=WA at *
 refine ⟨SA,?_⟩
 refine zk_ 11 rfl (by kernel_rfl) rfl ?_
 have HNA:=hd_ hNA
 obtain ⟨z0,z1,z2,z3,z4⟩:=ql_ hNA
 have fA:∀ j,WA.frozen? ⟨w.heap.size+1,j,none⟩=false:=fun j=>frozen_of_row _ _ _ _ _ hNA
 clear hNA SA SS
 go_simp
 refine Z_done (by kernel_rfl) ?_
 unfold OnlyN
 simp only[]
 change Exit.then _ _ .normal _ (set5 WA (w.heap.size+1) (.int .i64 tk) (.string tx) (.int .i64 tlo) (.int .i64 thi) (.int .i64 tp))
 have HB3:Hid (Below W2.heap.size W2 (set5 WA (w.heap.size+1) (.int .i64 tk) (.string tx) (.int .i64 tlo) (.int .i64 thi) (.int .i64 tp))):=zv_ HBA.out (by omega) _ _ _ _ _
 have HT3:=hd_ (set5_row HNA.out (.int .i64 tk) (.string tx) (.int .i64 tlo) (.int .i64 thi) (.int .i64 tp))
 have hz3:(set5 WA (w.heap.size+1) (.int .i64 tk) (.string tx) (.int .i64 tlo) (.int .i64 thi) (.int .i64 tp)).heap.size=w.heap.size+2:=by rw[zq_];exact hzA
 clear z0 z1 z2 z3 z4 fA HBA HNA hzA
 generalize set5 WA (w.heap.size+1) (.int .i64 tk) (.string tx) (.int .i64 tlo) (.int .i64 thi) (.int .i64 tp)=W3 at *
 have HR3:=hd_ (HR2.out.below HB3.out)
 obtain ⟨_,_,_,_,c4⟩:=HR3.out.cells
 have f4:=HR3.out.fr 4
 obtain ⟨z0,z1,z2,z3,z4⟩:=ql_ HT3.out
 have hle:=HR3.out.le
 have hp4:=qa_ W3 (.cells #[.int .i64 0,.string tx,.int .i64 tlo,.bool false,.int .i64 0,.string { data:=#[] },.int .i64 0,.int .i64 0,.slice none 0 0,.int .i64 0,.string { data:=#[] },.int .i64 0,.int .i64 0,.slice none 0 0,.int .i64 tp] 79)
 have hrow4:=heap_alloc_new W3 (.cells #[.int .i64 0,.string tx,.int .i64 tlo,.bool false,.int .i64 0,.string { data:=#[] },.int .i64 0,.int .i64 0,.slice none 0 0,.int .i64 0,.string { data:=#[] },.int .i64 0,.int .i64 0,.slice none 0 0,.int .i64 tp] 79)
 have HR4:=hd_ (HR3.out.below hp4)
 have HI4:Hid (ItS b w (w.heap.size+2) ⟨0,tx,tlo,false,zeroN,zeroN,tp⟩ none 0 0 none 0 0 (W3.alloc (.cells #[.int .i64 0,.string tx,.int .i64 tlo,.bool false,.int .i64 0,.string { data:=#[] },.int .i64 0,.int .i64 0,.slice none 0 0,.int .i64 0,.string { data:=#[] },.int .i64 0,.int .i64 0,.slice none 0 0,.int .i64 tp] 79))) :=
  ⟨(HF2.out.trans (Fe.of_below HB3.out)).trans (Fe.of_below hp4),(HBX2.out.fe (b:=b) (Fe.of_below HB3.out) (by omega) (by omega)).fe (b:=b) (Fe.of_below hp4) (by omega) (by omega),by rw[← hz3];exact hrow4,RdN.nil _ _,RdN.nil _ _,by omega⟩
 have HT4:Hid ((W3.alloc (.cells #[.int .i64 0,.string tx,.int .i64 tlo,.bool false,.int .i64 0,.string { data:=#[] },.int .i64 0,.int .i64 0,.slice none 0 0,.int .i64 0,.string { data:=#[] },.int .i64 0,.int .i64 0,.slice none 0 0,.int .i64 tp] 79)).heap[w.heap.size+1]?=_):=(qa_ W3 _ |>.block _ (by omega)).trans HT3.out
 clear HR2 HB3 HBX2 HF2 HW1 hp4 hrow4 HS HR3 HT3
 have hz4:(W3.alloc (.cells #[.int .i64 0,.string tx,.int .i64 tlo,.bool false,.int .i64 0,.string { data:=#[] },.int .i64 0,.int .i64 0,.slice none 0 0,.int .i64 0,.string { data:=#[] },.int .i64 0,.int .i64 0,.slice none 0 0,.int .i64 tp] 79)).heap.size=w.heap.size+3:=by simp;omega
 go_upto_region 3 with (fail)
 change Code.wp _ _ _ _ (W3.alloc (.cells #[.int .i64 0,.string tx,.int .i64 tlo,.bool false,.int .i64 0,.string { data:=#[] },.int .i64 0,.int .i64 0,.slice none 0 0,.int .i64 0,.string { data:=#[] },.int .i64 0,.int .i64 0,.slice none 0 0,.int .i64 tp] 79))
 generalize (W3.alloc (.cells #[.int .i64 0,.string tx,.int .i64 tlo,.bool false,.int .i64 0,.string { data:=#[] },.int .i64 0,.int .i64 0,.slice none 0 0,.int .i64 0,.string { data:=#[] },.int .i64 0,.int .i64 0,.slice none 0 0,.int .i64 tp] 79))=W4 at *
 clear z0 z1 z2 z3 z4 c4 f4
 obtain ⟨IB,hIB⟩:∃ IB,IB=w.heap.size+2:=⟨_,rfl⟩
 obtain ⟨TB,hTB⟩:∃ TB,TB=w.heap.size+1:=⟨_,rfl⟩
 rw[← hIB] at HI4
 rw[← hTB] at HT4
 rw[← hIB,← hTB]
 have hIw:w.heap.size<IB:=by omega
 have hTw:w.heap.size<TB:=by omega
 have hTI:TB<IB:=by omega
 have hI4:IB<W4.heap.size:=by omega
 obtain ⟨_,_,_,_,c4⟩:=HR4.out.cells
 have f4:=HR4.out.fr 4
 obtain ⟨z0,z1,z2,z3,z4⟩:=ql_ HT4.out
 clear hz2 hz3 hz4 hIB hTB
 have HLV:Hid (Ps.live (⟨tk,tt,tlo,thi,tp⟩ :: u)=.live (X.T.drop h)∧h≤X.n):=⟨by rw[← HR4.out.live.1],HR4.out.live.2.1⟩
 have HR5:=hd_ (HR4.out.next (x:=(h:Int)+1) rfl)
 have HF5:Hid (Fe b W4 (W4.setCell ⟨b,4,none⟩ (.int .i64 ((h:Int)+1)))):=(Fe.refl b W4).set (.inl rfl) _ _
 have HI5:=hd_ (HI4.out.on HF5.out hlt)
 go_upto_region 7 with (fail)
 change Code.wp _ _ _ _ (W4.setCell ⟨b,4,none⟩ (.int .i64 ((h:Int)+1)))
 have hI5:IB<(W4.setCell ⟨b,4,none⟩ (.int .i64 ((h:Int)+1))).heap.size:=by simp;exact hI4
 clear HR4 HI4 HF5 c4 f4 z0 z1 z2 z3 z4 HT4
 generalize W4.setCell ⟨b,4,none⟩ (.int .i64 ((h:Int)+1))=W5 at *
 generalize h+1=h1 at HR5
 have h01:=H01h.out
 clear H01h
 have h3:=H3h.out
 clear H3h
 have g19:(tk == 19)=false:=by rw[h01];decide
 subst h01
 obtain rfl:tlo=0:=HGD.out.2.1 rfl
 have HRR:Hid (r=(⟨1,tx,0,false,(formP X.e N 0 (takeP X.e [3] (.live u)).2).1,zeroN,tp⟩,(formP X.e N 0 (takeP X.e [3] (.live u)).2).2)):=HR1.out rfl
 clear HR1 HRR2 HR19 HR0 HLV HGD
 have HIr:=hd_ HI5.out.row
 obtain ⟨i0,i1,i2,i3,i4,i5,i6,i7,i8,i9,i10,i11,i12,i13,i14⟩:=zj_ HIr.out
 have fI:∀ j,W5.frozen? ⟨IB,j,none⟩=false:=fun j=>frozen_of_row _ _ _ _ _ HIr.out
 have HI6:Hid (ItS b w IB ⟨1,tx,0,false,zeroN,zeroN,tp⟩ none 0 0 none 0 0 (W5.setCell ⟨IB,0,none⟩ (.int .i64 1))) :=
  HI5.out.put (HI5.out.fe.set (.inr (by omega)) _ _) (by simp) (fun i hi=>Below.heap_setCell _ _ _ _ (by show i≠IB;exact hi)) (by rw[heap_setCell_same _ _ _ _ _ _ HI5.out.row];rfl) (RdN.nil _ _) (RdN.nil _ _)
 have HR6:Hid (Rdd X b (W5.setCell ⟨IB,0,none⟩ (.int .i64 1)) 0 (.live u) h1):=HR5.out.other (by omega) _ _
 have hI6:IB<(W5.setCell ⟨IB,0,none⟩ (.int .i64 1)).heap.size:=by simp;exact hI5
 clear HIr HI5 HR5
 go_upto_region 11 with (fail)
 change Code.wp _ _ _ _ (W5.setCell ⟨IB,0,none⟩ (.int .i64 1))
 clear i0 i1 i2 i3 i4 i5 i6 i7 i8 i9 i10 i11 i12 i13 i14 fI hI5
 generalize (W5.setCell ⟨IB,0,none⟩ (.int .i64 1))=W6 at *
 have HKD:=hd_ (qk_ HR6.out)
 obtain ⟨t3,u3,rfl⟩:∃ t u', u=t :: u' := by
  cases u with
  | nil=>exact absurd h3 (by decide)
  | cons t u=>exact ⟨t,u,rfl⟩
 have hk3:t3.kind=3:=h3
 obtain ⟨f,hf⟩:∃ f,formP X.e N 0 (.live u3)=f:=⟨_,rfl⟩
 have HRR2:Hid (r=(⟨1,tx,0,false,f.1,zeroN,tp⟩,f.2)):=by
  show _=_
  rw[HRR.out,zn_ (by simp[hk3]),hf]
 have hkd:=HKD.out
 rw[h3] at hkd
 have HKD3:=hd_ hkd
 clear HRR hkd HKD h3 hk3
 go_wp2_with fail
 refine HKD3.out.mono ?_
 rintro e w7 ⟨rfl,q9,rfl⟩
 have HR7:=hd_ (HR6.out.drewN q9)
 have HI7:=hd_ (HI6.out.on ((Fe.refl b W6).drewN q9) hlt)
 have hI7:IB<(W6.drewN q9).heap.size:=hI6
 clear HR6 HI6 hI6 HKD3
 generalize W6.drewN q9=W7 at *
 obtain ⟨_,_,_,_,c4⟩:=HR7.out.cells
 have f4:=HR7.out.fr 4
 have hle7:=HR7.out.le
 have HR8:Hid (Rdd X b (W7.setCell ⟨b,4,none⟩ (.int .i64 ((h1:Int)+1))) 0 (.live u3) (h1+1)):=HR7.out.next rfl
 have HF8:Hid (Fe b W7 (W7.setCell ⟨b,4,none⟩ (.int .i64 ((h1:Int)+1)))):=(Fe.refl b W7).set (.inl rfl) _ _
 have HI8:=hd_ (HI7.out.on HF8.out hlt)
 have hI8:IB<(W7.setCell ⟨b,4,none⟩ (.int .i64 ((h1:Int)+1))).heap.size:=by simp;exact hI7
 go_upto_region 15 with (fail)
 change Code.wp _ _ _ _ (W7.setCell ⟨b,4,none⟩ (.int .i64 ((h1:Int)+1)))
 clear HR7 HI7 HF8 c4 f4 hI7
 generalize W7.setCell ⟨b,4,none⟩ (.int .i64 ((h1:Int)+1))=W8 at *
 simp only[List.length_cons] at hm
 have HC:=hd_ (dor_any HR8.out N (by omega))
 rw[hf] at HC
 clear hf HR8 hm
 go_wp2_with fail
 refine HC.out.mono ?_
 rintro en w8 ⟨v,y,rfl,⟨A8,n8,c8,rfl,hv⟩,hy,hr8,hf8⟩
 have hz8:=hf8.size
 have HIc:=hd_ (HI8.out.on hf8 hlt)
 have HVn:Hid (RdN w8 (ButD (w.heap.size+1) IB w8.heap.size) A8 n8 c8 y.kids):=hv.keep (fun i hi=>⟨by have:=hi.1;omega,hi.2,by have:=hi.1;omega⟩) (fun _ _=>rfl)
 have HIr:=hd_ HIc.out.row
 obtain ⟨i0,i1,i2,i3,i4,i5,i6,i7,i8,i9,i10,i11,i12,i13,i14⟩:=zj_ HIr.out
 have fI:∀ j,w8.frozen? ⟨IB,j,none⟩=false:=fun j=>frozen_of_row _ _ _ _ _ HIr.out
 have HI9:Hid (ItS b w IB ⟨1,tx,0,false,y,zeroN,tp⟩ A8 n8 c8 none 0 0 (b5 w8 IB (.int .i64 y.kind) (.string y.name) (.int .i64 y.low) (.int .i64 y.high) (.slice A8 n8 c8))) :=
  HIc.out.put (HIc.out.fe.b5 (by omega) _ _ _ _ _) (b5_size _ _ _ _ _ _ _) (b5_block _ _ _ _ _ _ _) (b5_row HIc.out.row _ _ _ _ _) HVn.out (RdN.nil _ _)
 have HR9:Hid (RdF X b (b5 w8 IB (.int .i64 y.kind) (.string y.name) (.int .i64 y.low) (.int .i64 y.high) (.slice A8 n8 c8)) 0 f.2):=hr8.b5 (by omega) _ _ _ _ _
 have HY:Hid (∀ ts,f.2=.live ts→y=f.1):=hy
 have hI9:IB<(b5 w8 IB (.int .i64 y.kind) (.string y.name) (.int .i64 y.low) (.int .i64 y.high) (.slice A8 n8 c8)).heap.size:=by rw[b5_size];omega
 have HV9:Hid (RdN (b5 w8 IB (.int .i64 y.kind) (.string y.name) (.int .i64 y.low) (.int .i64 y.high) (.slice A8 n8 c8)) (ButD (w.heap.size+1) IB (b5 w8 IB (.int .i64 y.kind) (.string y.name) (.int .i64 y.low) (.int .i64 y.high) (.slice A8 n8 c8)).heap.size) A8 n8 c8 y.kids):=HVn.out.keep (fun i hi=>⟨hi.1,by rw[b5_size];exact hi.2.1,hi.2.2⟩) (fun p hp=>World.cell?_of_block (b5_block _ _ _ _ _ _ _ _ hp.2.2))
 clear hv hy hr8 hf8 HIc HIr HVn HI8 hI8 HC
 go_upto_region 26 with (fail)
 change Code.wp _ _ _ _ (b5 w8 IB (.int .i64 y.kind) (.string y.name) (.int .i64 y.low) (.int .i64 y.high) (.slice A8 n8 c8))
 clear i0 i1 i2 i3 i4 i5 i6 i7 i8 i9 i10 i11 i12 i13 i14 fI hz8
 generalize (b5 w8 IB (.int .i64 y.kind) (.string y.name) (.int .i64 y.low) (.int .i64 y.high) (.slice A8 n8 c8))=W9 at *
 have HI:=HI9
 obtain ⟨x,hx⟩:∃ x:It,x=⟨1,tx,0,false,y,zeroN,tp⟩:=⟨_,rfl⟩
 have HGG:Hid (RdGe X b W9 r.2):=by show RdGe _ _ _ _;rw[HRR2.out];exact HR9.out.g
 have HXR:Hid (∀ ts,r.2=.live ts→x=r.1):=fun ts h=>by rw[HRR2.out] at h ⊢;rw[hx,HY.out ts h]
 replace HI:Hid (ItS b w IB x A8 n8 c8 none 0 0 W9):=by rw[hx];exact HI.out
 clear HRR2 HR9 HI9 HY hx HV9
 generalize W9=W at *
 have HE:Hid (PIQ X b w r (.returned (.agg #[.int .i64 x.kind,.string x.name,.int .i64 x.number,.bool x.cut,.int .i64 x.before.kind,.string x.before.name,.int .i64 x.before.low,.int .i64 x.before.high,.slice A8 n8 c8,.int .i64 x.after.kind,.string x.after.name,.int .i64 x.after.low,.int .i64 x.after.high,.slice none 0 0,.int .i64 x.pos])) (set15 W w.heap.size (.int .i64 x.kind) (.string x.name) (.int .i64 x.number) (.bool x.cut) (.int .i64 x.before.kind) (.string x.before.name) (.int .i64 x.before.low) (.int .i64 x.before.high) (.slice A8 n8 c8) (.int .i64 x.after.kind) (.string x.after.name) (.int .i64 x.after.low) (.int .i64 x.after.high) (.slice none 0 0) (.int .i64 x.pos))):=(pi_end HI.out.fe HGG.out hlt HI.out.box HI.out.kb HI.out.ka HXR.out).1
 have HQ:Hid ((set15 W w.heap.size (.int .i64 x.kind) (.string x.name) (.int .i64 x.number) (.bool x.cut) (.int .i64 x.before.kind) (.string x.before.name) (.int .i64 x.before.low) (.int .i64 x.before.high) (.slice A8 n8 c8) (.int .i64 x.after.kind) (.string x.after.name) (.int .i64 x.after.low) (.int .i64 x.after.high) (.slice none 0 0) (.int .i64 x.pos)).heap[w.heap.size]?=some (.cells #[.int .i64 x.kind,.string x.name,.int .i64 x.number,.bool x.cut,.int .i64 x.before.kind,.string x.before.name,.int .i64 x.before.low,.int .i64 x.before.high,.slice A8 n8 c8,.int .i64 x.after.kind,.string x.after.name,.int .i64 x.after.low,.int .i64 x.after.high,.slice none 0 0,.int .i64 x.pos] 79 (0,0))):=(pi_end HI.out.fe HGG.out hlt HI.out.box HI.out.kb HI.out.ka HXR.out).2
 obtain ⟨i0,i1,i2,i3,i4,i5,i6,i7,i8,i9,i10,i11,i12,i13,i14⟩:=zj_ HI.out.row
 obtain ⟨y0,y1,y2,y3,y4,y5,y6,y7,y8,y9,y10,y11,y12,y13,y14,hN⟩:=HI.out.box
 obtain ⟨j0,j1,j2,j3,j4,j5,j6,j7,j8,j9,j10,j11,j12,j13,j14⟩:=zj_ hN
 have fN:∀ j,W.frozen? ⟨w.heap.size,j,none⟩=false:=fun j=>frozen_of_row _ _ _ _ _ hN
 have hltI:=HI.out.lt
 clear hN HI HGG HXR
 go_wp2_with fail
 change bodyPost _ _ _ _ _ (set15 W w.heap.size (.int .i64 x.kind) (.string x.name) (.int .i64 x.number) (.bool x.cut) (.int .i64 x.before.kind) (.string x.before.name) (.int .i64 x.before.low) (.int .i64 x.before.high) (.slice A8 n8 c8) (.int .i64 x.after.kind) (.string x.after.name) (.int .i64 x.after.low) (.int .i64 x.after.high) (.slice none 0 0) (.int .i64 x.pos))
 generalize (set15 W w.heap.size (.int .i64 x.kind) (.string x.name) (.int .i64 x.number) (.bool x.cut) (.int .i64 x.before.kind) (.string x.before.name) (.int .i64 x.before.low) (.int .i64 x.before.high) (.slice A8 n8 c8) (.int .i64 x.after.kind) (.string x.after.name) (.int .i64 x.after.low) (.int .i64 x.after.high) (.slice none 0 0) (.int .i64 x.pos))=w9 at HE HQ ⊢
 obtain ⟨q0,q1,q2,q3,q4,q5,q6,q7,q8,q9,q10,q11,q12,q13,q14⟩:=zj_ HQ.out
 exact bodyPost_ret (v:=.agg #[.int .i64 x.kind,.string x.name,.int .i64 x.number,.bool x.cut,.int .i64 x.before.kind,.string x.before.name,.int .i64 x.before.low,.int .i64 x.before.high,.slice A8 n8 c8,.int .i64 x.after.kind,.string x.after.name,.int .i64 x.after.low,.int .i64 x.after.high,.slice none 0 0,.int .i64 x.pos]) (by simp[results,Tryz.results42,go_sem,q0,q1,q2,q3,q4,q5,q6,q7,q8,q9,q10,q11,q12,q13,q14]) rfl HE.out
end Go.Proofs.YtbbmjdddemahfaaGreat
