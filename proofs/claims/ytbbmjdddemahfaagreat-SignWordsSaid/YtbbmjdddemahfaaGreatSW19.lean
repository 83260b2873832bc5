/- Part of the proof. -/
import Derived.Test.YtbbmjdddemahfaaGreatSW13
import Derived.Test.YtbbmjdddemahfaaGreatSW18
import Derived.Test.YtbbmjdddemahfaaGreatSW15
set_option maxRecDepth 100000
namespace Go.Proofs.YtbbmjdddemahfaaGreat
open Go.RowKit

theorem results_c4 {P:Program}{fn:Func}{a:Tmp}{t:TypeId}(hf:fn.results=#[.cell a t]){w:World}(hagg:(isAgg t).run P w=.ok true w) (hsz:(sizeOf t).run P w=.ok 4 w) (tmps:Array Value){N:Nat}(ha:tmps.getD a undef=.pointer (some ⟨N,0,none⟩)){c0 c1 c2 c3:Value}{te:TypeId}(hrow:w.heap[N]?=some (.cells #[c0,c1,c2,c3] te (0,0))) :
  (results fn tmps).run P w=.ok (.agg #[c0,c1,c2,c3]) w:=by
 obtain ⟨h0,h1,h2,h3⟩:=qj_ hrow
 have ha' : (tmps[a]?).getD undef=.pointer (some ⟨N,0,none⟩):=by simpa using ha
 have g:∀ i v,w.cell? ⟨N,i,none⟩=some v→(load (Addr.add ⟨N,0,none⟩ i)).run P w=.ok v w:=fun i v h=>by
  rw[qo_,Nat.zero_add]
  unfold load
  simp only[Sem.run,h]
 have g2:(loadCells ⟨N,0,none⟩ 4).run P w=.ok #[c0,c1,c2,c3] w:=by
  simp[loadCells,loadCellsFrom,Sem.run_bind,g 0 _ h0,g 1 _ h1,g 2 _ h2,g 3 _ h3,Result.andThen]
 have g3:(loadVar t ⟨N,0,none⟩).run P w=.ok (.agg #[c0,c1,c2,c3]) w:=by
  simp[loadVar,Sem.run_bind,hagg,hsz,g2,Result.andThen]
 unfold results
 rw[hf]
 simp[ha', asAddr,g3]
def NmP (w:World) (en:Ending) (w' : World):Prop:=∃ m1 m2 m3 k1 k2 k3:Nat,en=.returned (.agg #[.slice none 0 0,.map (some m1),.map (some m2),.map (some m3)])∧w.heap.size≤m1∧w.heap.size≤m2∧w.heap.size≤m3∧m1≠m2∧m1≠m3∧m2≠m3∧w'.heap[m1]?=some (.map #[] k1)∧w'.heap[m2]?=some (.map #[] k2)∧w'.heap[m3]?=some (.map #[] k3)∧Below w.heap.size w w'
theorem rows4 (w:World) (o0 o1 o2 o3:Obj):((((w.alloc o0).alloc o1).alloc o2).alloc o3).heap.size=w.heap.size+4∧((((w.alloc o0).alloc o1).alloc o2).alloc o3).heap[w.heap.size]?=some o0∧((((w.alloc o0).alloc o1).alloc o2).alloc o3).heap[w.heap.size+1]?=some o1∧((((w.alloc o0).alloc o1).alloc o2).alloc o3).heap[w.heap.size+1+1]?=some o2∧((((w.alloc o0).alloc o1).alloc o2).alloc o3).heap[w.heap.size+1+1+1]?=some o3∧Below w.heap.size w ((((w.alloc o0).alloc o1).alloc o2).alloc o3):=by
 obtain ⟨h1,h2,h3,h4,h5⟩:=rows3 w o0 o1 o2
 have b:=qa_ (((w.alloc o0).alloc o1).alloc o2) o3
 have n:=heap_alloc_new (((w.alloc o0).alloc o1).alloc o2) o3
 rw[h1] at n
 exact ⟨by simp,(b.block _ (by omega)).trans h2,(b.block _ (by omega)).trans h3,(b.block _ (by omega)).trans h4,n,h5.trans (b.mono h5.size)⟩
set_option maxHeartbeats 1000000 in
theorem noneMet_any {w:World}:Calls Tryz.prog 23 #[] w (NmP w):=by
 have hmm:=@run_makeMap Tryz.prog
 obtain ⟨s1,r0,r1,r2,r3,hb⟩:=rows4 w (.cells #[.slice none 0 0,.map (some (w.heap.size+1)),.map (some (w.heap.size+1+1)),.map (some (w.heap.size+1+1+1))] 63) (.map #[] 0) (.map #[] 0) (.map #[] 0)
 have HR:Hid (NmP w (.returned (.agg #[.slice none 0 0,.map (some (w.heap.size+1)),.map (some (w.heap.size+1+1)),.map (some (w.heap.size+1+1+1))])) ((((w.alloc (.cells #[.slice none 0 0,.map (some (w.heap.size+1)),.map (some (w.heap.size+1+1)),.map (some (w.heap.size+1+1+1))] 63)).alloc (.map #[] 0)).alloc (.map #[] 0)).alloc (.map #[] 0))) :=
  ⟨_,_,_,0,0,0,rfl,by omega,by omega,by omega,by omega,by omega,by omega,r1,r2,r3,hb⟩
 have HQ:=ha_ r0
 clear s1 r0 r1 r2 r3 hb
 go_enter Tryz.func23,Tryz.ntmps23
 go_wp2_with fail
 generalize hW9:((((w.alloc (.cells #[.slice none 0 0,.map (some (w.heap.size+1)),.map (some (w.heap.size+1+1)),.map (some (w.heap.size+1+1+1))] 63)).alloc (.map #[] 0)).alloc (.map #[] 0)).alloc (.map #[] 0))=W9 at *
 exact bodyPost_ret (results_c4 (a:=0) rfl (Tryz.isAgg63 _) (Tryz.sizeOf63 _) _ rfl HQ.out) rfl HR.out
open M (Rg)

theorem setD_rds {w:World}{A:Option Addr}{n c:Nat}{L:List (List (Int × Int))}(h:RdG setD w (Bl w) A n c L):∃ gs,RdS w w.heap.size A n c gs∧listsOf gs=L:=by
 obtain ⟨h1,h2,h3,cs,h4,h5⟩:=h
 have hf:∀ i:Nat,∃ g:Given,∀ x,L[i]?=some x→cs i=[.slice g.A g.n g.c]∧Rd w w.heap.size g.A g.n g.c g.l∧g.l=x:=fun i=>by
  cases e:L[i]? with
  | none=>exact ⟨⟨none,0,0,[]⟩,fun x hx=>by cases hx⟩
  | some x =>
   obtain ⟨A', n', c', e1,hr⟩:=h5 i x e
   exact ⟨⟨A', n', c', x⟩,fun y hy=>by injection hy with hy;subst hy;exact ⟨e1,hr.rd,rfl⟩⟩
 obtain ⟨f,hf⟩:=Classical.skolem.1 hf
 have hg:∀ i (g:Given),((List.range L.length).map f)[i]?=some g→i<L.length∧g=f i:=fun i g hg=>by
  have hi:i<L.length:=by have:=(List.getElem?_eq_some_iff.1 hg).1;simpa using this
  rw[List.getElem?_map,List.getElem?_range hi] at hg
  exact ⟨hi,by injection hg with hg;exact hg.symm⟩
 refine ⟨(List.range L.length).map f,⟨by simp[h1],h2,h3,fun hn=>?_,fun g hgm=>?_⟩,?_⟩
 ·obtain ⟨b,off,e,hb,hcc⟩:=h4 hn
  refine ⟨b,off,e,hb,fun i g hi=>?_⟩
  obtain ⟨hil,rfl⟩:=hg i g hi
  obtain ⟨e1,_,_⟩:=hf i _ (List.getElem?_eq_getElem hil)
  have:=hcc i (by omega) 0
  rw[e1] at this
  have:=this _ rfl
  rwa [show setD.k=1 from rfl,Nat.mul_one,Nat.add_zero] at this
 ·obtain ⟨i,hi⟩:=List.getElem?_of_mem hgm
  obtain ⟨hil,rfl⟩:=hg i g hi
  exact (hf i _ (List.getElem?_eq_getElem hil)).2.1
 ·apply List.ext_getElem
  ·simp[listsOf]
  ·intro i q1 q2
   have:=(hf i _ (List.getElem?_eq_getElem q2)).2.2
   simp[listsOf]
   exact this
def rulesL (s:MSt) (rs:List Rl):MSt:=rs.foldl (fun s r=>twoL s [r.before,r.after]) s
theorem rulesL_take (s:MSt){rs:List Rl}{j:Nat}{r:Rl}(h:rs[j]?=some r):rulesL s (rs.take (j+1))=twoL (rulesL s (rs.take j)) [r.before,r.after]:=by
 unfold rulesL
 rw[List.take_add_one,h,List.foldl_append]
 rfl
theorem rulesL_sm:∀ {rs:List Rl}{s:MSt}{N:Nat},SmS s N→(∀ r∈rs,SmP r.before∧SmP r.after)→SmS (rulesL s rs) (N+220*rs.length)
 | [],_,_,h,_=>h
 | r :: t,s,N,h,hx=>by
  have h1:=twoL_sm (l:=[r.before,r.after]) h (fun y hy=>by
   rcases List.mem_cons.1 hy with e|hy
   ·rw[e];exact (hx r (by simp)).1
   ·rw[List.mem_singleton.1 hy];exact (hx r (by simp)).2)
  have:=rulesL_sm (rs:=t) h1 (fun y hy=>hx y (by simp[hy]))
  unfold rulesL at this ⊢
  rw[List.foldl_cons,List.length_cons,show N+220*(t.length+1)=N+110 * [r.before,r.after].length+220*t.length by simp;omega]
  exact this
def OkRs (rs:List Rl):Prop:=∀ (i:Nat) (r:Rl),rs[i]?=some r→SmP r.before∧SmP r.after∧r.before.kids=[]∧(r.after.kids=[]∨(i=0∧∀ y∈r.after.kids,y.kids=[]))
theorem lit2 {w:World}{S:Nat→Prop}{N:Nat}{x y:Pt}{p0 p1 p2 p3 q0 q1 q2 q3:Value}{t:TypeId}(hr:w.heap[N]?=some (.cells #[p0,p1,p2,p3,q0,q1,q2,q3] t (0,0))) (hp:PtAt w S [p0,p1,p2,p3] x) (hq:PtAt w S [q0,q1,q2,q3] y):RdP w (fun b=>S b∨b=N) (some ⟨N,0,none⟩) 2 2 [x,y]:=by
 refine ⟨rfl,Nat.le_refl _,by unfold maxLen;omega,fun i=>if i=0 then [p0,p1,p2,p3] else [q0,q1,q2,q3],fun _=>⟨N,0,rfl,.inr rfl,fun i hi j u hu=>?_⟩,fun i z hz=>?_⟩
 ·rw[cell_of_row _ _ _ _ _ _ hr]
  match i,hi with
  | 0,_ =>
   match j,hu with
   | 0,hu=>exact hu
   | 1,hu=>exact hu
   | 2,hu=>exact hu
   | 3,hu=>exact hu
   | j+4,hu=>cases hu
  | 1,_ =>
   match j,hu with
   | 0,hu=>exact hu
   | 1,hu=>exact hu
   | 2,hu=>exact hu
   | 3,hu=>exact hu
   | j+4,hu=>cases hu
 ·match i,hz with
  | 0,hz=>injection hz with hz;subst hz;exact hp.keep (fun _ h=>.inl h) (fun _ _=>rfl)
  | 1,hz=>injection hz with hz;subst hz;exact hq.keep (fun _ h=>.inl h) (fun _ _=>rfl)
  | i+2,hz=>cases hz
def stO (rs:List Rl):Nat→MSt
 | 0=>([],[],[])
 | _+1=>rulesL ([],[],[]) rs
theorem rule_cells11 {w:World}{S:Nat→Prop}{cs:List Value}{r:Rl}(h:ruleD.at_ w S cs r){b o:Nat}(hc:∀ j u,cs[j]?=some u→w.cell? ⟨b,o+j,none⟩=some u):∃ (sA:Option Addr) (sn sc:Nat) (gA:Option Addr) (gn gc:Nat) (kA:Option Addr) (kn kc:Nat) (sA2:Option Addr) (sn2 sc2:Nat) (gA2:Option Addr) (gn2 gc2:Nat) (kA2:Option Addr) (kn2 kc2:Nat),PtIn w S sA sn sc gA gn gc kA kn kc r.before∧PtIn w S sA2 sn2 sc2 gA2 gn2 gc2 kA2 kn2 kc2 r.after ∧
  w.cell? ⟨b,o,none⟩=some (.int .i64 r.number)∧w.cell? ⟨b,o+1,none⟩=some (.bool r.cut)∧w.cell? ⟨b,o+2,none⟩=some (.int .i64 r.before.kind)∧w.cell? ⟨b,o+3,none⟩=some (.slice sA sn sc)∧w.cell? ⟨b,o+4,none⟩=some (.slice gA gn gc)∧w.cell? ⟨b,o+5,none⟩=some (.slice kA kn kc)∧w.cell? ⟨b,o+6,none⟩=some (.int .i64 r.after.kind)∧w.cell? ⟨b,o+7,none⟩=some (.slice sA2 sn2 sc2)∧w.cell? ⟨b,o+8,none⟩=some (.slice gA2 gn2 gc2)∧w.cell? ⟨b,o+9,none⟩=some (.slice kA2 kn2 kc2)∧w.cell? ⟨b,o+10,none⟩=some (.int .i64 r.pos):=by
 obtain ⟨ps,qs,rfl,hp,hq⟩:=h
 obtain ⟨sA,sn,sc,gA,gn,gc,kA,kn,kc,rfl,hp2⟩:=hp.inv
 obtain ⟨sA2,sn2,sc2,gA2,gn2,gc2,kA2,kn2,kc2,rfl,hq2⟩:=hq.inv
 exact ⟨sA,sn,sc,gA,gn,gc,kA,kn,kc,sA2,sn2,sc2,gA2,gn2,gc2,kA2,kn2,kc2,hp2,hq2,hc 0 _ rfl,hc 1 _ rfl,hc 2 _ rfl,hc 3 _ rfl,hc 4 _ rfl,hc 5 _ rfl,hc 6 _ rfl,hc 7 _ rfl,hc 8 _ rfl,hc 9 _ rfl,hc 10 _ rfl⟩
def SOfP (w:World) (L:List (List (Int × Int))) (en:Ending) (w' : World):Prop:=∃ w7,OfPost w7 L en w' ∧ Below w.heap.size w w7
set_option maxHeartbeats 8000000 in
theorem sof_one {w:World}{S:Nat→Prop}(hS:∀ b,S b→b<w.heap.size){N:Nat}{vA iA uA:Option Addr}{vn vc iN ic un uc:Nat}{rA:Option Addr}{rn rc:Nat}{rs:List Rl}{t:TypeId}(hN:w.heap[N]?=some (.cells #[.slice vA vn vc,.slice rA rn rc,.slice iA iN ic,.slice uA un uc] t (0,0))) (hr:RdG ruleD w S rA rn rc rs) (hok:OkRs rs) (hrn:rn≤10) :
  Calls Tryz.prog 12 #[.slice (some ⟨N,0,none⟩) 1 1] w (SOfP w (rulesL ([],[],[]) rs).2.2):=by
 have HR:=ha_ hr
 have HOK:=ha_ hok
 have HSS:=ha_ hS
 have hrl:=hr.len
 have HNN:=ha_ hN
 have HC:=ha_ (noneMet_any (w:=w))
 clear hr hok hN
 go_enter Tryz.func12,Tryz.ntmps12
 go_wp2_with fail
 refine HC.out.mono ?_
 rintro en w1 ⟨m1,m2,m3,k1,k2,k3,rfl,l1,l2,l3,n1,n2,n3,r1,r2,r3,hb1⟩
 have hbx:=qa_ w1 (.cells #[.slice none 0 0,.map (some m1),.map (some m2),.map (some m3)] 63)
 have hrow:=heap_alloc_new w1 (.cells #[.slice none 0 0,.map (some m1),.map (some m2),.map (some m3)] 63)
 have hm:∀ {m k:Nat},w1.heap[m]?=some (.map #[] k)→m<w1.heap.size:=fun h=>by
  rename_i m k
  rcases Nat.lt_or_ge m w1.heap.size with hlt|hge
  ·exact hlt
  ·rw[Array.getElem?_eq_none hge] at h;cases h
 have hmet:Met w.heap.size w1.heap.size m1 m2 m3 [] [] true (.slice none 0 0) [] (w1.alloc (.cells #[.slice none 0 0,.map (some m1),.map (some m2),.map (some m3)] 63)) :=
  ⟨hrow,⟨#[],k1,(hbx.block _ (hm r1)).trans r1,rfl⟩,(fun p hp=>by cases hp),⟨#[],k2,(hbx.block _ (hm r2)).trans r2,rfl⟩,⟨#[],k3,(hbx.block _ (hm r3)).trans r3,fun _=>rfl⟩,OwnX.nil _ _ _ _ _,⟨hb1.size,l1,l2,l3⟩,⟨n1,n2,n3⟩,(fun e=>by cases e)⟩
 have HM0:=ha_ hmet
 have HB0:Hid (Below w.heap.size w (w1.alloc (.cells #[.slice none 0 0,.map (some m1),.map (some m2),.map (some m3)] 63))):=hb1.trans (hbx.mono hb1.size)
 clear l1 l2 l3 n1 n2 n3 r1 r2 r3 hb1 hbx hrow hm hmet HC
 go_upto_region 2 with fail
 generalize hW0:w1.alloc (.cells #[.slice none 0 0,.map (some m1),.map (some m2),.map (some m3)] 63)=W0 at *
 clear hW0
 generalize hbxx:w1.heap.size=bx at *
 clear hbxx
 have hNl:N<w.heap.size:=by
  rcases Nat.lt_or_ge N w.heap.size with hlt|hge
  ·exact hlt
  ·have:=HNN.out;rw[Array.getElem?_eq_none hge] at this;cases this
 go_wp2_with fail
 go_loopw [12] (fun iv wx=>∃ (j:Nat) (g:Bool) (sv:Value),j≤1∧iv=.int .i64 j∧Hid (j=0→g=true)∧Hid (Met w.heap.size bx m1 m2 m3 (stO rs j).1 (stO rs j).2.1 g sv (stO rs j).2.2 wx)∧Hid (Below w.heap.size w wx)) (fun iv _=>1 - (intOf iv).toNat)
 case atStart=>exact ⟨0,true,.slice none 0 0,by omega,rfl,fun _=>rfl,HM0.out,HB0.out⟩
 case round =>
  obtain ⟨j,g,sv,hj,rfl,HG,HM,HB⟩:=hrel
  rcases (⟨wr,rfl⟩:∃ WL:World,WL=wr) with ⟨WL,rfl⟩
  clear HM0 HB0
  have hj01:j=0∨j=1:=by omega
  rcases hj01 with hj0|hj1
  ·subst hj0
   have hg:g=true:=HG.out rfl
   subst hg
   have HNL:=ha_ ((HB.out.block N hNl).trans HNN.out)
   obtain ⟨c0,c1,c2,c3⟩:=qj_ HNL.out
   have HBK:Hid (Below WL.heap.size WL (WL.alloc (.cells #[.slice vA vn vc,.slice rA rn rc,.slice iA iN ic,.slice uA un uc] 36))):=qa_ _ _
   have HRK:=ha_ (heap_alloc_new WL (.cells #[.slice vA vn vc,.slice rA rn rc,.slice iA iN ic,.slice uA un uc] 36))
   have HM6:Hid (Met w.heap.size bx m1 m2 m3 [] [] true sv [] (WL.alloc (.cells #[.slice vA vn vc,.slice rA rn rc,.slice iA iN ic,.slice uA un uc] 36))):=HM.out.on HBK.out
   have HB6:=ha_ (HB.out.trans (HBK.out.mono HB.out.size))
   clear HM HB HBK HNL HG
   go_upto_region 5 with fail
   generalize hW6:WL.alloc (.cells #[.slice vA vn vc,.slice rA rn rc,.slice iA iN ic,.slice uA un uc] 36)=W6 at *
   clear hW6 c0 c1 c2 c3
   obtain ⟨c0,c1,c2,c3⟩:=qj_ HRK.out
   go_wp2_with fail
   go_loopw [19] (fun iv wx=>∃ (i:Nat) (g:Bool) (sv:Value),i≤rn∧iv=.int .i64 i∧Hid (i=0→g=true)∧Hid (Met w.heap.size bx m1 m2 m3 (rulesL ([],[],[]) (rs.take i)).1 (rulesL ([],[],[]) (rs.take i)).2.1 g sv (rulesL ([],[],[]) (rs.take i)).2.2 wx)∧Hid (Below w.heap.size w wx)) (fun iv _=>rn - (intOf iv).toNat)
   case atStart=>exact ⟨0,true,sv,by omega,rfl,fun _=>rfl,HM6.out,HB6.out⟩
   case round =>
    obtain ⟨i,g,sv,hi,rfl,HG,HM,HB⟩:=hrel
    rcases (⟨wr,rfl⟩:∃ WK:World,WK=wr) with ⟨WK,rfl⟩
    clear HM6 HB6 HRK c0 c1 c2 c3
    by_cases hlt:i<rn
    ·have hi0:(0:Int)≤(i:Int):=by omega
     have hi1:(i:Int)<(rn:Int):=by omega
     have HR2:Hid (RdG ruleD WK S rA rn rc rs):=HR.out.keep (fun _ h=>h) (fun p hp=>HB.out.cell (HSS.out _ hp))
     obtain ⟨b1,o1,r,cs,eA,hb,hx,hat,hc⟩:=HR2.out.got hlt
     subst eA
     obtain ⟨sA,sn,sc,gA,gn,gc,kA,kn,kc,sA2,sn2,sc2,gA2,gn2,gc2,kA2,kn2,kc2,hp,hq,s0,s1,s2,s3,s4,s5,s6,s7,s8,s9,s10⟩:=rule_cells11 hat hc
     have hd:ruleD.k=11:=rfl
     rw[hd] at s0 s1 s2 s3 s4 s5 s6 s7 s8 s9 s10
     obtain ⟨q1,q2,q3,q4⟩:=HOK.out i r hx
     have HTK:=ha_ (rulesL_take ([],[],[]) hx)
     have HSM:Hid (SmS (rulesL ([],[],[]) (rs.take i)) 5000):=by
      have h1:=rulesL_sm (rs:=rs.take i) (s:=([],[],[])) (N:=0) ⟨(fun p hp=>by cases hp),Nat.le_refl _,Nat.le_refl _⟩ (fun y hy=>by
       obtain ⟨k,hk⟩:=List.getElem?_of_mem (List.mem_of_mem_take hy)
       obtain ⟨a,b,_,_⟩:=HOK.out k y hk
       exact ⟨a,b⟩)
      have h2:(rs.take i).length≤10:=by rw[List.length_take];omega
      exact ⟨h1.1,by have:=h1.2.1;omega,by have:=h1.2.2;omega⟩
     have HLV:Hid (Lvl true g [r.before,r.after]):=fun k y hy=>by
      match k,hy with
      | 0,hy=>injection hy with hy;subst hy;exact .inl q3
      | 1,hy =>
       injection hy with hy;subst hy
       rcases q4 with h|⟨h1,h2⟩
       ·exact .inl h
       ·exact .inr ⟨rfl,rfl,HG.out h1,h2⟩
      | k+2,hy=>cases hy
     have HSP:Hid (∀ y∈[r.before,r.after],SmP y):=fun y hy=>by
      rcases List.mem_cons.1 hy with e|hy
      ·rw[e];exact q1
      ·rw[List.mem_singleton.1 hy];exact q2
     have HB1:Hid (Below WK.heap.size WK (WK.alloc (.cells #[.int .i64 r.number,.bool r.cut,.int .i64 r.before.kind,.slice sA sn sc,.slice gA gn gc,.slice kA kn kc,.int .i64 r.after.kind,.slice sA2 sn2 sc2,.slice gA2 gn2 gc2,.slice kA2 kn2 kc2,.int .i64 r.pos] 49))):=qa_ _ _
     have HRW:=ha_ (heap_alloc_new WK (.cells #[.int .i64 r.number,.bool r.cut,.int .i64 r.before.kind,.slice sA sn sc,.slice gA gn gc,.slice kA kn kc,.int .i64 r.after.kind,.slice sA2 sn2 sc2,.slice gA2 gn2 gc2,.slice kA2 kn2 kc2,.int .i64 r.pos] 49))
     have HM1:=ha_ (HM.out.on HB1.out)
     have HBW1:=ha_ (HB.out.trans (HB1.out.mono HB.out.size))
     have HPA:Hid (PtAt (WK.alloc (.cells #[.int .i64 r.number,.bool r.cut,.int .i64 r.before.kind,.slice sA sn sc,.slice gA gn gc,.slice kA kn kc,.int .i64 r.after.kind,.slice sA2 sn2 sc2,.slice gA2 gn2 gc2,.slice kA2 kn2 kc2,.int .i64 r.pos] 49)) S [.int .i64 r.before.kind,.slice sA sn sc,.slice gA gn gc,.slice kA kn kc] r.before):=(PtAt.of hp).keep (fun _ h=>h) (fun p hp=>HB1.out.cell (Nat.lt_of_lt_of_le (HSS.out _ hp) HB.out.size))
     have HPB:Hid (PtAt (WK.alloc (.cells #[.int .i64 r.number,.bool r.cut,.int .i64 r.before.kind,.slice sA sn sc,.slice gA gn gc,.slice kA kn kc,.int .i64 r.after.kind,.slice sA2 sn2 sc2,.slice gA2 gn2 gc2,.slice kA2 kn2 kc2,.int .i64 r.pos] 49)) S [.int .i64 r.after.kind,.slice sA2 sn2 sc2,.slice gA2 gn2 gc2,.slice kA2 kn2 kc2] r.after):=(PtAt.of hq).keep (fun _ h=>h) (fun p hp=>HB1.out.cell (Nat.lt_of_lt_of_le (HSS.out _ hp) HB.out.size))
     clear hp hq hat hc hb hx q1 q2 q3 q4 HM HB HB1 HR2 HG
     go_upto_region 8 with fail
     generalize hW1:WK.alloc (.cells #[.int .i64 r.number,.bool r.cut,.int .i64 r.before.kind,.slice sA sn sc,.slice gA gn gc,.slice kA kn kc,.int .i64 r.after.kind,.slice sA2 sn2 sc2,.slice gA2 gn2 gc2,.slice kA2 kn2 kc2,.int .i64 r.pos] 49)=W1 at *
     clear hW1 s0 s1 s2 s3 s4 s5 s6 s7 s8 s9 s10
     obtain ⟨s0,s1,s2,s3,s4,s5,s6,s7,s8,s9,s10⟩:=dcells11 HRW.out
     have HB2:Hid (Below W1.heap.size W1 (W1.alloc (.cells #[.int .i64 r.before.kind,.slice sA sn sc,.slice gA gn gc,.slice kA kn kc,.int .i64 r.after.kind,.slice sA2 sn2 sc2,.slice gA2 gn2 gc2,.slice kA2 kn2 kc2] 47))):=qa_ _ _
     have hz2:(W1.alloc (.cells #[.int .i64 r.before.kind,.slice sA sn sc,.slice gA gn gc,.slice kA kn kc,.int .i64 r.after.kind,.slice sA2 sn2 sc2,.slice gA2 gn2 gc2,.slice kA2 kn2 kc2] 47)).heap.size=W1.heap.size+1:=by simp
     have HLIT:=ha_ (heap_alloc_new W1 (.cells #[.int .i64 r.before.kind,.slice sA sn sc,.slice gA gn gc,.slice kA kn kc,.int .i64 r.after.kind,.slice sA2 sn2 sc2,.slice gA2 gn2 gc2,.slice kA2 kn2 kc2] 47))
     have HM2:=ha_ (HM1.out.on HB2.out)
     have HBW2:=ha_ (HBW1.out.trans (HB2.out.mono HBW1.out.size))
     have HRD:Hid (RdP (W1.alloc (.cells #[.int .i64 r.before.kind,.slice sA sn sc,.slice gA gn gc,.slice kA kn kc,.int .i64 r.after.kind,.slice sA2 sn2 sc2,.slice gA2 gn2 gc2,.slice kA2 kn2 kc2] 47)) (fun b=>S b∨b=W1.heap.size) (some ⟨W1.heap.size,0,none⟩) 2 2 [r.before,r.after]):=lit2 HLIT.out (HPA.out.keep (fun _ h=>h) (fun p hp=>HB2.out.cell (Nat.lt_of_lt_of_le (HSS.out _ hp) HBW1.out.size))) (HPB.out.keep (fun _ h=>h) (fun p hp=>HB2.out.cell (Nat.lt_of_lt_of_le (HSS.out _ hp) HBW1.out.size)))
     have HC:=ha_ (meet_two _ _ _ _ _ _ _ _ _ _ _ HM2.out [r.before,r.after] HLV.out HSP.out (by simp) HSM.out (fun b=>S b∨b=W1.heap.size) (fun b hb=>by
      rcases hb with hb|hb
      ·have h1:=HSS.out b hb
       have h2:=HBW2.out.size
       exact ⟨by omega,HM2.out.old b h1⟩
      ·subst hb
       refine ⟨by omega,fun e=>?_⟩
       have h1:=HM1.out.blt
       have h2:=HM1.out.lists.lt
       have h3:=HM1.out.known.lt
       have h4:=HM1.out.glt
       rcases e with e|e|e|e|e
       ·omega
       ·omega
       ·omega
       ·omega
       ·have:=(HM1.out.sets.block _ e).2;omega) _ _ _ HRD.out)
     have HM2O:=ha_ HM2.out.old
     clear HM1 HM2 HLIT HRD HPA HPB HRW HLV HSP HSM
     go_wp2_with fail
     refine HC.out.mono ?_
     rintro en w9 ⟨g9,sv9,rfl,hm9,hf9⟩
     have HM9:Hid (Met w.heap.size bx m1 m2 m3 (rulesL ([],[],[]) (rs.take (i+1))).1 (rulesL ([],[],[]) (rs.take (i+1))).2.1 g9 sv9 (rulesL ([],[],[]) (rs.take (i+1))).2.2 w9):=by
      show Met _ _ _ _ _ _ _ _ _ _ _
      rw[HTK.out];exact hm9
     have HB9:Hid (Below w.heap.size w w9):=(by
      have h:=HM2O.out
      exact ⟨hf9.fx.os.trans HBW2.out.os,hf9.fx.tape.trans HBW2.out.tape,hf9.fx.output.trans HBW2.out.output,Nat.le_trans HBW2.out.size hf9.fx.size,fun k hk=>(hf9.fx.block k (Nat.lt_of_lt_of_le hk HBW2.out.size) (h k hk)).trans (HBW2.out.block k hk)⟩)
     clear hm9 hf9 HC HM2O HBW1 HBW2 HB2
     go_wp2_with fail
     go_roundw
     case rel=>(repeat apply Exists.intro);exact ⟨⟨i+1,g9,sv9,by omega,by go_num,(fun h=>absurd h (Nat.succ_ne_zero i)),HM9.out,HB9.out⟩,rfl⟩
     case measure=>simp[intOf];omega
    ·obtain rfl:i=rn:=by omega
     have ht:rs.take i=rs:=List.take_of_length_le (by omega)
     rw[ht] at HM
     clear HG ht
     go_wp2_with fail
     go_roundw
     case rel=>exact ⟨1,g,sv,by omega,by go_num,(fun h=>absurd h (by decide)),HM.out,HB.out⟩
     case measure=>simp[intOf]
  ·subst hj1
   have hm:Met w.heap.size bx m1 m2 m3 (rulesL ([],[],[]) rs).1 (rulesL ([],[],[]) rs).2.1 g sv (rulesL ([],[],[]) rs).2.2 WL:=HM.out
   obtain ⟨sA,sc,e1,hrd⟩:=hm.sets.rd
   subst e1
   obtain ⟨gs,hgs,hls⟩:=setD_rds (hrd.keep (S' := Bl WL) (fun b hb=>hb.1) (fun _ _=>rfl))
   have HC:=ha_ (sof_any hgs)
   rw[hls] at HC
   obtain ⟨c0,c1,c2,c3⟩:=qj_ hm.box
   clear hm hrd hgs hls HM HG
   go_wp2_with fail
   refine HC.out.mono ?_
   rintro en w9 h9
   have HP:Hid (SOfP w (rulesL ([],[],[]) rs).2.2 en w9):=⟨WL,h9,HB.out⟩
   obtain ⟨res,q1,q2,q3,q4⟩:=h9
   cases res with
   | none =>
    obtain rfl:=q2 rfl
    clear q1 q2 q3 q4 HC
    go_wp2_with fail
    refine bodyPost_ret (v:=.tuple #[.slice none 0 0,.int .i64 9]) (by simp[results,Tryz.results12,go_sem]) rfl ?_
    exact HP.out
   | some R =>
    obtain ⟨A9,n9,c9,gs9,rfl,_,_⟩:=q3 R rfl
    clear q1 q2 q3 q4 HC
    go_wp2_with fail
    refine bodyPost_ret (v:=.tuple #[.slice A9 n9 c9,.int .i64 0]) (by simp[results,Tryz.results12,go_sem]) rfl ?_
    exact HP.out

theorem lit1 {w:World}{S:Nat→Prop}{N:Nat}{x:Pt}{p0 p1 p2 p3:Value}{t:TypeId}(hr:w.heap[N]?=some (.cells #[p0,p1,p2,p3] t (0,0))) (hp:PtAt w S [p0,p1,p2,p3] x):RdP w (fun b=>S b∨b=N) (some ⟨N,0,none⟩) 1 1 [x]:=by
 refine ⟨rfl,Nat.le_refl _,by unfold maxLen;omega,fun _=>[p0,p1,p2,p3],fun _=>⟨N,0,rfl,.inr rfl,fun i hi j u hu=>?_⟩,fun i z hz=>?_⟩
 ·obtain rfl:i=0:=by omega
  rw[cell_of_row _ _ _ _ _ _ hr]
  match j,hu with
  | 0,hu=>exact hu
  | 1,hu=>exact hu
  | 2,hu=>exact hu
  | 3,hu=>exact hu
  | j+4,hu=>cases hu
 ·match i,hz with
  | 0,hz=>injection hz with hz;subst hz;exact hp.keep (fun _ h=>.inl h) (fun _ _=>rfl)
  | i+1,hz=>cases hz
def SetsP (w:World) (k:Nat) (en:Ending) (w' : World):Prop:=∃ A c,en=.returned (.slice A k c)∧Below w.heap.size w w'
set_option maxHeartbeats 4000000 in
theorem sets_one {w:World}{S:Nat→Prop}(hS:∀ b,S b→b<w.heap.size){x:Pt}{sA gA kA:Option Addr}{sn sc gn gc kn kc:Nat}(hp:PtIn w S sA sn sc gA gn gc kA kn kc x) (hsp:SmP x) (hkk:∀ y∈x.kids,y.kids=[]) :
  Calls Tryz.prog 14 #[.agg #[.int .i64 x.kind,.slice sA sn sc,.slice gA gn gc,.slice kA kn kc]] w (SetsP w (twoL ([],[],[]) [x]).2.2.length):=by
 have HSS:=ha_ hS
 have HSP:=ha_ hsp
 have HKK:=ha_ hkk
 have HP0:Hid (Below w.heap.size w (w.alloc (.cells #[.int .i64 x.kind,.slice sA sn sc,.slice gA gn gc,.slice kA kn kc] 47))):=qa_ _ _
 have HRX:=ha_ (heap_alloc_new w (.cells #[.int .i64 x.kind,.slice sA sn sc,.slice gA gn gc,.slice kA kn kc] 47))
 have HPT:Hid (PtAt (w.alloc (.cells #[.int .i64 x.kind,.slice sA sn sc,.slice gA gn gc,.slice kA kn kc] 47)) S [.int .i64 x.kind,.slice sA sn sc,.slice gA gn gc,.slice kA kn kc] x):=(PtAt.of hp).keep (fun _ h=>h) (fun p hp=>HP0.out.cell (hS _ hp))
 have hz0:(w.alloc (.cells #[.int .i64 x.kind,.slice sA sn sc,.slice gA gn gc,.slice kA kn kc] 47)).heap.size=w.heap.size+1:=by simp
 have HC:=ha_ (noneMet_any (w:=w.alloc (.cells #[.int .i64 x.kind,.slice sA sn sc,.slice gA gn gc,.slice kA kn kc] 47)))
 clear hp hsp hS hkk
 go_enter Tryz.func14,Tryz.ntmps14
 go_upto_region 1 with fail
 generalize hWx:w.alloc (.cells #[.int .i64 x.kind,.slice sA sn sc,.slice gA gn gc,.slice kA kn kc] 47)=w0 at *
 clear hWx
 go_wp2_with fail
 refine HC.out.mono ?_
 rintro en w1 ⟨m1,m2,m3,k1,k2,k3,rfl,l1,l2,l3,n1,n2,n3,r1,r2,r3,hb1⟩
 have hbx:=qa_ w1 (.cells #[.slice none 0 0,.map (some m1),.map (some m2),.map (some m3)] 63)
 have hrow:=heap_alloc_new w1 (.cells #[.slice none 0 0,.map (some m1),.map (some m2),.map (some m3)] 63)
 have hm:∀ {m k:Nat},w1.heap[m]?=some (.map #[] k)→m<w1.heap.size:=fun h=>by
  rename_i m k
  rcases Nat.lt_or_ge m w1.heap.size with hlt|hge
  ·exact hlt
  ·rw[Array.getElem?_eq_none hge] at h;cases h
 have hmet:Met w0.heap.size w1.heap.size m1 m2 m3 [] [] true (.slice none 0 0) [] (w1.alloc (.cells #[.slice none 0 0,.map (some m1),.map (some m2),.map (some m3)] 63)) :=
  ⟨hrow,⟨#[],k1,(hbx.block _ (hm r1)).trans r1,rfl⟩,(fun p hp=>by cases hp),⟨#[],k2,(hbx.block _ (hm r2)).trans r2,rfl⟩,⟨#[],k3,(hbx.block _ (hm r3)).trans r3,fun _=>rfl⟩,OwnX.nil _ _ _ _ _,⟨hb1.size,l1,l2,l3⟩,⟨n1,n2,n3⟩,(fun e=>by cases e)⟩
 have HM0:=ha_ hmet
 have HB0:Hid (Below w0.heap.size w0 (w1.alloc (.cells #[.slice none 0 0,.map (some m1),.map (some m2),.map (some m3)] 63))):=hb1.trans (hbx.mono hb1.size)
 clear l1 l2 l3 n1 n2 n3 r1 r2 r3 hb1 hbx hrow hm hmet HC
 go_upto_region 2 with fail
 generalize hW0:w1.alloc (.cells #[.slice none 0 0,.map (some m1),.map (some m2),.map (some m3)] 63)=W1 at *
 clear hW0
 generalize hbxx:w1.heap.size=bx at *
 clear hbxx
 have HRX1:=ha_ ((HB0.out.block w.heap.size (by omega)).trans HRX.out)
 obtain ⟨c0,c1,c2,c3⟩:=qj_ HRX1.out
 have HB2:Hid (Below W1.heap.size W1 (W1.alloc (.cells #[.int .i64 x.kind,.slice sA sn sc,.slice gA gn gc,.slice kA kn kc] 47))):=qa_ _ _
 have hz2:(W1.alloc (.cells #[.int .i64 x.kind,.slice sA sn sc,.slice gA gn gc,.slice kA kn kc] 47)).heap.size=W1.heap.size+1:=by simp
 have HLIT:=ha_ (heap_alloc_new W1 (.cells #[.int .i64 x.kind,.slice sA sn sc,.slice gA gn gc,.slice kA kn kc] 47))
 have HM2:=ha_ (HM0.out.on HB2.out)
 have HBW2:=ha_ (HB0.out.trans (HB2.out.mono HB0.out.size))
 have HRD:Hid (RdP (W1.alloc (.cells #[.int .i64 x.kind,.slice sA sn sc,.slice gA gn gc,.slice kA kn kc] 47)) (fun b=>S b∨b=W1.heap.size) (some ⟨W1.heap.size,0,none⟩) 1 1 [x]):=lit1 HLIT.out (HPT.out.keep (fun _ h=>h) (fun p hp=>HBW2.out.cell (by have:=HSS.out _ hp;omega)))
 have HC:=ha_ (meet_two _ _ _ _ _ _ _ _ _ _ _ HM2.out [x] (fun k y hy=>by
   match k,hy with
   | 0,hy=>injection hy with hy;subst hy;exact .inr ⟨rfl,rfl,rfl,HKK.out⟩
   | k+1,hy=>cases hy) (fun y hy=>by rw[List.mem_singleton.1 hy];exact HSP.out) (by simp) ⟨(fun p hp=>by cases hp),Nat.zero_le _,Nat.zero_le _⟩ (fun b=>S b∨b=W1.heap.size) (fun b hb=>by
   rcases hb with hb|hb
   ·have h1:=HSS.out b hb
    have h2:=HBW2.out.size
    exact ⟨by omega,HM2.out.old b (by omega)⟩
   ·subst hb
    refine ⟨by omega,fun e=>?_⟩
    have h1:=HM0.out.blt
    have h2:=HM0.out.lists.lt
    have h3:=HM0.out.known.lt
    have h4:=HM0.out.glt
    rcases e with e|e|e|e|e
    ·omega
    ·omega
    ·omega
    ·omega
    ·have:=(HM0.out.sets.block _ e).2;omega) _ _ _ HRD.out)
 have HM2O:=ha_ HM2.out.old
 clear HM0 HM2 HLIT HRD HPT HRX HB2
 go_wp2_with fail
 refine HC.out.mono ?_
 rintro en w9 ⟨g9,sv9,rfl,hm9,hf9⟩
 have HB9:Hid (Below w.heap.size w w9):=HP0.out.trans ((show Below w0.heap.size w0 w9 from ⟨hf9.fx.os.trans HBW2.out.os,hf9.fx.tape.trans HBW2.out.tape,hf9.fx.output.trans HBW2.out.output,Nat.le_trans HBW2.out.size hf9.fx.size,fun k hk=>(hf9.fx.block k (Nat.lt_of_lt_of_le hk HBW2.out.size) (HM2O.out k hk)).trans (HBW2.out.block k hk)⟩).mono HP0.out.size)
 obtain ⟨sA9,sc9,e9,_⟩:=hm9.sets.rd
 subst e9
 obtain ⟨d0,d1,d2,d3⟩:=qj_ hm9.box
 clear hm9 hf9 HC
 go_wp2_with fail
 go_ret
 exact ⟨sA9,sc9,rfl,HB9.out⟩
open Go.RowKit Go.Shelf

theorem inAt_new {w w1 wr:World}{e:TypeId}{A:Option Addr}{n c:Nat}{L:List Int}(h:wr.ownsRow w1.heap.size e 1 (.slice A n c) n (cellsI L)) (hs:w.heap.size≤w1.heap.size):InAt wr (Nw w wr) A n c L:=by
 have hl:L.length=n:=by have:=h.1;simp[cellsI] at this;omega
 rcases h.2 with ⟨h1,h2⟩|⟨g,cap,cur,h1,hB,hg,h3,h4,_,_⟩
 ·injection h1 with a1 a2 a3;subst a1 a3;exact ⟨hl,by omega,by simp[maxLen],fun h=>absurd h (by omega)⟩
 ·injection h1 with a1 a2 a3;subst a1 a3
  have hlt:g<wr.heap.size:=by
   rcases Nat.lt_or_ge g wr.heap.size with hlt|hge
   ·exact hlt
   ·rw[Array.getElem?_eq_none hge] at hg;cases hg
  refine ⟨hl,h3,h4,fun _=>⟨g,0,rfl,⟨Nat.le_trans hs hB,hlt⟩,fun j x hx=>?_⟩⟩
  have:=World.ownsRow.cells h (g:=g) rfl j (.int .i64 x) (by simp[cellsI,hx])
  rwa [qo_] at this
def FreshN (w:World) (L:List Int) (e:Ending) (w' : World):Prop:=∃ A n c,e=.returned (.slice A n c)∧InAt w' (Nw w w') A n c L∧Below w.heap.size w w'
set_option maxHeartbeats 1000000 in
theorem sfirsts_new {w:World}{A:Option Addr}{n c:Nat}{gs:List Given}(hg:RdS w w.heap.size A n c gs) (hs:gs.length≤100000) :
  Calls Tryz.prog 19 #[.slice A n c] w (FreshN w (firstsF (listsOf gs))):=by
 obtain ⟨i0,hi0,hz0,hz1,hz2⟩:=info_parts info_I
 have hn:n≤100000:=by rw[← hg.len];exact hs
 have HG:=ha_ hg
 clear hg hs
 go_enter Tryz.func19,Tryz.ntmps19
 go_wp2_with fail
 go_loopw [3,8] (fun v i wr=>∃ k:Nat,k≤n∧i=.int .i64 k∧GathI w (firstsF (listsOf (gs.take k))) v wr) (fun _ i _=>n - (intOf i).toNat)
 case atStart=>exact ⟨0,Nat.zero_le _,rfl,none,0,0,rfl,World.ownsRow_nil _ _ _ _,Below.refl _ _⟩
 case round =>
  obtain ⟨k,hk,rfl,A1,m1,c1,rfl,hown,hbel⟩:=hrel
  by_cases hlt:k<n
  ·obtain ⟨b1,o1,g,rfl,hlt1,hr,k1,hrd⟩:=HG.out.got hlt
   have HT:=ha_ (firsts_take hr)
   have k1' := (hbel.cell (p:=⟨b1,o1+k,none⟩) hlt1).trans k1
   have RD:=ha_ (hrd.on hbel)
   have hm1:m1≤k:=by
    have h1:=hown.1
    simp[cellsI,firstsF,listsOf] at h1;omega
   have HO:=ha_ hown
   have HB:=ha_ hbel
   clear hr hrd k1 hown hbel
   obtain ⟨gA,gn,gc,gl⟩:=g
   go_wp2_with fail
   refine (first_any RD.out).mono ?_
   rintro e w1 ⟨rfl,hb1⟩
   have HO1:Hid (w1.ownsRow w.heap.size 3 1 (.slice A1 m1 c1) m1 (cellsI (firstsF (listsOf (gs.take k))))):=zg_ HO.out hb1
   have HB1:=ha_ (HB.out.trans (hb1.mono HB.out.size))
   clear hb1 HO HB
   generalize hf:firstF (M.plainL gl)=f at *
   have HF:=ha_ hf
   clear hf
   go_wp2_with (at_builtin;refine wpList_append_own _ rfl _ _ 23 rfl w.heap.size 3 i0 (.int .i64 0) 1 8 Tryz.underlying23 hi0 hz0 hz1 hz2 rfl (by decide) _ _ _ rfl (World.ownsRow.alloc HO1.out _) ⟨w1.heap.size,0,none⟩ 1 1 [.int .i64 f] rfl rfl ?c1 (one_x _) ?c3 ?c4 ?c5 ?_)
   case c1=>exact newsI_at _ _ rfl _ _
   case c3=>simp only[maxLen];omega
   case c4=>omega
   case c5=>have:=HB1.out.size;simp;omega
   intro v' w2 hown' hgrow _
   have hb2:Below w.heap.size w w2:=(HB1.out.alloc HB1.out.size _).grown hgrow (by have:=HB1.out.size;simp;omega) (fun k hk=>(HO1.out.lt k hk).1)
   have R:GathI w (firstsF (listsOf (gs.take (k+1)))) v' w2:=gathI_of (n:=m1+1) (by rw[HT.out];simpa [cellsI] using hown') hb2
   have RR:=ha_ R
   clear R hown' hgrow hb2
   go_wp2
   go_roundw
   case rel=>exact ⟨k+1,by omega,by go_num,RR.out⟩
   case measure=>simp[intOf];omega
  ·have ht:gs.take k=gs:=List.take_of_length_le (by rw[HG.out.len];omega)
   rw[ht] at hown
   have R:FreshN w (firstsF (listsOf gs)) (.returned (.slice A1 m1 c1)) wr:=⟨A1,m1,c1,rfl,inAt_new hown (Nat.le_refl _),hbel⟩
   have RR:=ha_ R
   clear R hown hbel ht
   go_wp2
   go_ret
   exact RR.out
set_option maxHeartbeats 1000000 in
theorem swithin_new {w:World}{A A' : Option Addr}{n c m d:Nat}{gs:List Given}{l:List Rg}(hg:RdS w w.heap.size A n c gs) (hs:gs.length≤100000) (hl:Rd w w.heap.size A' m d l) :
  Calls Tryz.prog 73 #[.slice A n c,.slice A' m d] w (FreshN w (withinF (listsOf gs) l)):=by
 obtain ⟨i0,hi0,hz0,hz1,hz2⟩:=info_parts info_I
 have HC:=ha_ (sfirsts_any hg hs)
 have HL:=ha_ hl
 have HN:Hid ((firstsF (listsOf gs)).length≤100000):=by show (firstsF (listsOf gs)).length≤100000;simpa [firstsF,listsOf] using hs
 clear hg hs hl
 go_enter Tryz.func73,Tryz.ntmps73
 go_wp2_with fail
 refine HC.out.mono ?_
 rintro e w1 ⟨A1,n1,c1,rfl,hr1,hb1⟩
 have RI:=ha_ hr1
 have RL:=ha_ (HL.out.on hb1)
 have B1:=ha_ hb1
 have hn1:n1≤100000:=by rw[← hr1.len];exact HN.out
 clear hr1 hb1 HC HL HN
 generalize hfs:firstsF (listsOf gs)=fs at *
 have HFS:=ha_ hfs
 clear hfs
 go_wp2_with fail
 go_loopw [5,11] (fun v i wr=>∃ k:Nat,k≤n1∧i=.int .i64 k∧GathI w1 (withinFrom l 0 (fs.take k)) v wr) (fun _ i _=>n1 - (intOf i).toNat)
 case atStart=>exact ⟨0,Nat.zero_le _,rfl,none,0,0,rfl,World.ownsRow_nil _ _ _ _,Below.refl _ _⟩
 case round =>
  obtain ⟨k,hk,rfl,A2,m2,c2,rfl,hown,hbel⟩:=hrel
  by_cases hlt:k<n1
  ·obtain ⟨b1,o1,f,rfl,hlt1,hr,k1⟩:=RI.out.got hlt
   have HT:=ha_ (within_take (l:=l) hr)
   have k1' := (hbel.cell (p:=⟨b1,o1+k,none⟩) hlt1).trans k1
   have RL' := ha_ (RL.out.on hbel)
   have hm2:m2≤k:=by
    have h1:=hown.1
    have h2:=within_len l 0 (fs.take k)
    simp[cellsI] at h1 h2;omega
   have HO:=ha_ hown
   have HB:=ha_ hbel
   clear hr k1 hown hbel
   cases hx:M.hasB l f
   ·have HX:=ha_ hx
    have R:GathI w1 (withinFrom l 0 (fs.take (k+1))) (.slice A2 m2 c2) wr:=⟨A2,m2,c2,rfl,by rw[HT.out,hx];simpa using HO.out,HB.out⟩
    have RR:=ha_ R
    clear R hx
    go_wp2_with fail
    refine (has_any RL'.out f).mono ?_
    rintro e w2 ⟨rfl,hbh⟩
    rw[HX.out]
    have RR2:=ha_ (RR.out.on hbh)
    clear hbh
    go_wp2
    go_roundw
    case rel=>exact ⟨k+1,by omega,by go_num,RR2.out⟩
    case measure=>simp[intOf];omega
   ·have HX:=ha_ hx
    clear hx
    go_wp2_with fail
    refine (has_any RL'.out f).mono ?_
    rintro e wh ⟨rfl,hbh⟩
    rw[HX.out]
    have HOh:=ha_ (zg_ HO.out hbh)
    have HBh:=ha_ (HB.out.trans (hbh.mono HB.out.size))
    clear hbh
    go_wp2_with (at_builtin;refine wpList_append_own _ rfl _ _ 23 rfl w1.heap.size 3 i0 (.int .i64 0) 1 8 Tryz.underlying23 hi0 hz0 hz1 hz2 rfl (by decide) _ _ _ rfl (World.ownsRow.alloc HOh.out _) ⟨wh.heap.size,0,none⟩ 1 1 [.int .i64 (k:Int)] rfl rfl ?c1 (one_x _) ?c3 ?c4 ?c5 ?_)
    case c1=>exact newsI_at _ _ rfl _ _
    case c3=>simp only[maxLen];omega
    case c4=>omega
    case c5=>have:=HBh.out.size;simp;omega
    intro v' w2 hown' hgrow _
    have hb2:Below w1.heap.size w1 w2:=(HBh.out.alloc HBh.out.size _).grown hgrow (by have:=HBh.out.size;simp;omega) (fun k hk=>(HOh.out.lt k hk).1)
    have R:GathI w1 (withinFrom l 0 (fs.take (k+1))) v' w2:=gathI_of (n:=m2+1) (by rw[HT.out,HX.out];simpa [cellsI] using hown') hb2
    have RR:=ha_ R
    clear R hown' hgrow hb2
    go_wp2
    go_roundw
    case rel=>exact ⟨k+1,by omega,by go_num,RR.out⟩
    case measure=>simp[intOf];omega
  ·have ht:fs.take k=fs:=List.take_of_length_le (by rw[RI.out.len];omega)
   rw[ht] at hown
   have R:FreshN w (withinFrom l 0 fs) (.returned (.slice A2 m2 c2)) wr:=⟨A2,m2,c2,rfl,inAt_new hown B1.out.size,B1.out.trans (hbel.mono B1.out.size)⟩
   have RR:=ha_ R
   clear R hown hbel ht
   go_wp2
   go_ret
   show FreshN w (withinFrom l 0 (firstsF (listsOf gs))) _ _
   rw[HFS.out]
   exact RR.out
def TW (bx m1 m2 m3:Nat) (b:Nat):Prop:=b=bx∨b=m1∨b=m2∨b=m3
abbrev SgL:=List (Int × List Int)
def idxs (k:Int):SgL→Option (List Int)
 | []=>none
 | p :: t=>if k=p.1 then some p.2 else idxs k t
def SgOk (w:World) (S:Nat→Prop):List (Int × Value)→SgL→Prop
 | [],[]=>True
 | p :: t,q :: u=>(p.1=q.1∧∃ A n c,p.2=.slice A n c∧InAt w S A n c q.2)∧SgOk w S t u
 | _,_=>False
theorem SgOk.keep {w w' : World}{S S' : Nat→Prop}(hS:∀ b,S b→S' b) (hk:∀ p:Addr,S p.block→w'.cell? p=w.cell? p):∀ {V:List (Int × Value)}{G:SgL},SgOk w S V G→SgOk w' S' V G
 | [],[],_=>trivial
 | _ :: _,_ :: _,⟨⟨h1,A,n,c,h2,h3⟩,h4⟩=>⟨⟨h1,A,n,c,h2,h3.keep hS hk⟩,SgOk.keep hS hk h4⟩
 | [],_ :: _,h=>h.elim
 | _ :: _,[],h=>h.elim
theorem SgOk.find {w:World}{S:Nat→Prop}(k:Int):∀ {V:List (Int × Value)}{G:SgL}(i:Nat),SgOk w S V G→(idxs k G=none→idxv k V i=none)∧(∀ l,idxs k G=some l→∃ j A n c,idxv k V i=some (j,.slice A n c)∧InAt w S A n c l)
 | [],[],_,_=>⟨fun _=>rfl,fun l h=>by cases h⟩
 | p :: t,q :: u,i,⟨⟨h1,A,n,c,h2,h3⟩,h4⟩=>by
  obtain ⟨r1,r2⟩:=SgOk.find k (i+1) h4
  unfold idxs idxv
  by_cases hk:k=q.1
  ·rw[if_pos hk,if_pos (by rw[h1];exact hk)]
   refine ⟨(fun h=>by cases h),fun l h=>?_⟩
   injection h with h
   subst h
   exact ⟨i,A,n,c,by rw[h2],h3⟩
  ·rw[if_neg hk,if_neg (by rw[h1];exact hk)]
   exact ⟨r1,r2⟩
 | [],_ :: _,_,h=>h.elim
 | _ :: _,[],_,h=>h.elim
theorem SgOk.snoc {w:World}{S:Nat→Prop}{k:Int}{A:Option Addr}{n c:Nat}{l:List Int}(hx:InAt w S A n c l):∀ {V:List (Int × Value)}{G:SgL},SgOk w S V G→SgOk w S (V++[(k,.slice A n c)]) (G++[(k,l)])
 | [],[],_=>⟨⟨rfl,A,n,c,rfl,hx⟩,trivial⟩
 | _ :: _,_ :: _,⟨h1,h2⟩=>⟨h1,SgOk.snoc hx h2⟩
 | [],_ :: _,h=>h.elim
 | _ :: _,[],h=>h.elim
structure Tel (bx m1 m2 m3:Nat) (E:Nat→Prop) (H:List (List Rg)) (M:List ((Int × Int × Int) × Value)) (G:SgL) (g:Bool) (k:Int) (w:World):Prop where
 box:∃ hA hc,w.heap[bx]?=some (.cells #[.slice hA H.length hc,.map (some m1),.map (some m2),.map (some m3),.int .i64 k] 115 (0,0))∧RdG setD w (fun b=>b<w.heap.size∧¬ TW bx m1 m2 m3 b∧¬ E b) hA H.length hc H
 lists:EMap encT w M m1
 ints:AllInt M
 signs:∃ V,EMap encI w V m2∧SgOk w (fun b=>b<w.heap.size∧¬ TW bx m1 m2 m3 b∧¬ E b) V G
 gone:∃ es ck,w.heap[m3]?=some (.map es ck)∧(g=true→es=#[])
 ne:m1≠m2∧m1≠m3∧m2≠m3
section
variable {bx m1 m2 m3:Nat}{E:Nat→Prop}{H:List (List Rg)}{M M' : List ((Int × Int × Int) × Value)}{G:SgL}{g:Bool}{k:Int}{w w' : World}
theorem qq_ {w:World}{b:Nat}{o:Obj}(h:w.heap[b]?=some o):b<w.heap.size:=by
 rcases Nat.lt_or_ge b w.heap.size with hlt|hge
 ·exact hlt
 ·rw[Array.getElem?_eq_none hge] at h;cases h
theorem Tel.nb (h:Tel bx m1 m2 m3 E H M G g k w):bx≠m1∧bx≠m2∧bx≠m3:=by
 obtain ⟨hA,hc,hb,_⟩:=h.box
 refine ⟨fun e=>?_,fun e=>?_,fun e=>?_⟩
 ·obtain ⟨es,ck,h1,_⟩:=h.lists
  exact zb_ (e ▸ h1) hb
 ·obtain ⟨V,⟨es,ck,h1,_⟩,_⟩:=h.signs
  exact zb_ (e ▸ h1) hb
 ·obtain ⟨es,ck,h1,_⟩:=h.gone
  exact zb_ (e ▸ h1) hb
theorem Tel.lt (h:Tel bx m1 m2 m3 E H M G g k w):bx<w.heap.size∧m1<w.heap.size∧m2<w.heap.size∧m3<w.heap.size:=by
 obtain ⟨hA,hc,hb,_⟩:=h.box
 obtain ⟨V,hs,_⟩:=h.signs
 obtain ⟨es,ck,h1,_⟩:=h.gone
 exact ⟨qq_ hb,h.lists.lt,hs.lt,qq_ h1⟩
theorem keepT {Y:Nat→Prop}(hf:Fx Y w w') (hY:∀ b,Y b→TW bx m1 m2 m3 b):(∀ b,(b<w.heap.size∧¬ TW bx m1 m2 m3 b∧¬ E b)→b<w'.heap.size∧¬ TW bx m1 m2 m3 b∧¬ E b)∧∀ p:Addr,(p.block<w.heap.size∧¬ TW bx m1 m2 m3 p.block∧¬ E p.block)→w'.cell? p=w.cell? p :=
 ⟨fun b h=>⟨Nat.lt_of_lt_of_le h.1 hf.size,h.2⟩,fun p h=>hf.cell h.1 (fun e=>h.2.1 (hY _ e))⟩
theorem Tel.on (h:Tel bx m1 m2 m3 E H M G g k w) (hb:Below w.heap.size w w'):Tel bx m1 m2 m3 E H M G g k w' := by
 obtain ⟨l0,l1,l2,l3⟩:=h.lt
 obtain ⟨hA,hc,hbx,hr⟩:=h.box
 obtain ⟨V,hs,ho⟩:=h.signs
 obtain ⟨es,ck,h1,h2⟩:=h.gone
 obtain ⟨q1,q2⟩:=keepT (bx:=bx) (m1:=m1) (m2:=m2) (m3:=m3) (E:=E) (Fx.of hb (fun _=>False)) (fun _ h=>h.elim)
 exact ⟨⟨hA,hc,(hb.block _ l0).trans hbx,hr.keep q1 q2⟩,h.lists.on hb,h.ints,⟨V,hs.on hb,ho.keep q1 q2⟩,⟨es,ck,(hb.block _ l3).trans h1,h2⟩,h.ne⟩
theorem Tel.num (h:Tel bx m1 m2 m3 E H M G g k w) (hE:EMap encT w' M' m1) (hi:AllInt M') (hf:Fx (fun b=>b=m1) w w'):Tel bx m1 m2 m3 E H M' G g k w' := by
 obtain ⟨l0,l1,l2,l3⟩:=h.lt
 obtain ⟨n1,n2,n3⟩:=h.nb
 obtain ⟨hA,hc,hbx,hr⟩:=h.box
 obtain ⟨V,hs,ho⟩:=h.signs
 obtain ⟨es,ck,h1,h2⟩:=h.gone
 obtain ⟨q1,q2⟩:=keepT (bx:=bx) (m1:=m1) (m2:=m2) (m3:=m3) (E:=E) hf (fun _ h=>.inr (.inl h))
 exact ⟨⟨hA,hc,(hf.block _ l0 n1).trans hbx,hr.keep q1 q2⟩,hE,hi,⟨V,hs.keep (hf.block _ l2 (fun e=>h.ne.1 e.symm)),ho.keep q1 q2⟩,⟨es,ck,(hf.block _ l3 (fun e=>h.ne.2.1 e.symm)).trans h1,h2⟩,h.ne⟩
theorem Tel.sgn (h:Tel bx m1 m2 m3 E H M G g k w){V' : List (Int × Value)}{G' : SgL}(hE:EMap encI w' V' m2) (ho' : SgOk w (fun b=>b<w.heap.size∧¬ TW bx m1 m2 m3 b∧¬ E b) V' G') (hf:Fx (fun b=>b=m2) w w'):Tel bx m1 m2 m3 E H M G' g k w' := by
 obtain ⟨l0,l1,l2,l3⟩:=h.lt
 obtain ⟨n1,n2,n3⟩:=h.nb
 obtain ⟨hA,hc,hbx,hr⟩:=h.box
 obtain ⟨es,ck,h1,h2⟩:=h.gone
 obtain ⟨q1,q2⟩:=keepT (bx:=bx) (m1:=m1) (m2:=m2) (m3:=m3) (E:=E) hf (fun _ h=>.inr (.inr (.inl h)))
 exact ⟨⟨hA,hc,(hf.block _ l0 n2).trans hbx,hr.keep q1 q2⟩,h.lists.keep (hf.block _ l1 h.ne.1),h.ints,⟨V', hE,ho'.keep q1 q2⟩,⟨es,ck,(hf.block _ l3 (fun e=>h.ne.2.2 e.symm)).trans h1,h2⟩,h.ne⟩
theorem Tel.go (h:Tel bx m1 m2 m3 E H M G g k w) (es:Array MapEntry) (ck:Nat):Tel bx m1 m2 m3 E H M G false k { w with heap:=w.heap.setIfInBounds m3 (.map es ck) }:=by
 obtain ⟨l0,l1,l2,l3⟩:=h.lt
 obtain ⟨n1,n2,n3⟩:=h.nb
 obtain ⟨hA,hc,hbx,hr⟩:=h.box
 obtain ⟨V,hs,ho⟩:=h.signs
 have hf:Fx (fun b=>b=m3) w { w with heap:=w.heap.setIfInBounds m3 (.map es ck) }:=Fx.put (X:=fun b=>b=m3) w rfl _
 obtain ⟨q1,q2⟩:=keepT (bx:=bx) (m1:=m1) (m2:=m2) (m3:=m3) (E:=E) hf (fun _ h=>.inr (.inr (.inr h)))
 refine ⟨⟨hA,hc,(hf.block _ l0 n3).trans hbx,hr.keep q1 q2⟩,h.lists.keep (hf.block _ l1 h.ne.2.1),h.ints,⟨V,hs.keep (hf.block _ l2 h.ne.2.2),ho.keep q1 q2⟩,⟨es,ck,?_,fun e=>by cases e⟩,h.ne⟩
 show (w.heap.setIfInBounds m3 _)[m3]?=_
 rw[Array.getElem?_setIfInBounds_self_of_lt l3]
theorem Tel.node (h:Tel bx m1 m2 m3 E H M G g k w) (k' : Int):Tel bx m1 m2 m3 E H M G g k' (w.setCell ⟨bx,4,none⟩ (.int .i64 k')):=by
 obtain ⟨l0,l1,l2,l3⟩:=h.lt
 obtain ⟨n1,n2,n3⟩:=h.nb
 obtain ⟨hA,hc,hbx,hr⟩:=h.box
 obtain ⟨V,hs,ho⟩:=h.signs
 obtain ⟨es,ck,h1,h2⟩:=h.gone
 have hf:Fx (fun b=>b=bx) w (w.setCell ⟨bx,4,none⟩ (.int .i64 k')):=Fx.setCell (X:=fun b=>b=bx) rfl 4 _
 obtain ⟨q1,q2⟩:=keepT (bx:=bx) (m1:=m1) (m2:=m2) (m3:=m3) (E:=E) hf (fun _ h=>.inl h)
 exact ⟨⟨hA,hc,heap_setCell_same _ _ _ _ _ _ hbx,hr.keep q1 q2⟩,h.lists.keep (hf.block _ l1 (fun e=>n1 e.symm)),h.ints,⟨V,hs.keep (hf.block _ l2 (fun e=>n2 e.symm)),ho.keep q1 q2⟩,⟨es,ck,(hf.block _ l3 (fun e=>n3 e.symm)).trans h1,h2⟩,h.ne⟩
theorem Tel.other (h:Tel bx m1 m2 m3 E H M G g k w){Y:Nat→Prop}(hf:Fx Y w w') (hY:∀ b,Y b→E b∧¬ TW bx m1 m2 m3 b):Tel bx m1 m2 m3 E H M G g k w' := by
 obtain ⟨l0,l1,l2,l3⟩:=h.lt
 obtain ⟨hA,hc,hbx,hr⟩:=h.box
 obtain ⟨V,hs,ho⟩:=h.signs
 obtain ⟨es,ck,h1,h2⟩:=h.gone
 have q1:∀ b,(b<w.heap.size∧¬ TW bx m1 m2 m3 b∧¬ E b)→b<w'.heap.size∧¬ TW bx m1 m2 m3 b∧¬ E b:=fun b h=>⟨Nat.lt_of_lt_of_le h.1 hf.size,h.2⟩
 have q2:∀ p:Addr,(p.block<w.heap.size∧¬ TW bx m1 m2 m3 p.block∧¬ E p.block)→w'.cell? p=w.cell? p:=fun p h=>hf.cell h.1 (fun e=>h.2.2 (hY _ e).1)
 exact ⟨⟨hA,hc,(hf.block _ l0 (fun e=>(hY _ e).2 (.inl rfl))).trans hbx,hr.keep q1 q2⟩,h.lists.keep (hf.block _ l1 (fun e=>(hY _ e).2 (.inr (.inl rfl)))),h.ints,⟨V,hs.keep (hf.block _ l2 (fun e=>(hY _ e).2 (.inr (.inr (.inl rfl))))),ho.keep q1 q2⟩,⟨es,ck,(hf.block _ l3 (fun e=>(hY _ e).2 (.inr (.inr (.inr rfl))))).trans h1,h2⟩,h.ne⟩
theorem Tel.more (h:Tel bx m1 m2 m3 E H M G g k w){F:Nat→Prop}(hF:∀ b,b<w.heap.size→F b→E b):Tel bx m1 m2 m3 F H M G g k w:=by
 obtain ⟨hA,hc,hbx,hr⟩:=h.box
 obtain ⟨V,hs,ho⟩:=h.signs
 have q1:∀ b,(b<w.heap.size∧¬ TW bx m1 m2 m3 b∧¬ E b)→b<w.heap.size∧¬ TW bx m1 m2 m3 b∧¬ F b:=fun b h=>⟨h.1,h.2.1,fun e=>h.2.2 (hF b h.1 e)⟩
 exact ⟨⟨hA,hc,hbx,hr.keep q1 (fun _ _=>rfl)⟩,h.lists,h.ints,⟨V,hs,ho.keep q1 (fun _ _=>rfl)⟩,h.gone,h.ne⟩
end
theorem tcells5 {w:World}{N:Nat}{x0 x1 x2 x3 x4:Value}{t:TypeId}(h:w.heap[N]?=some (.cells #[x0,x1,x2,x3,x4] t (0,0))):w.cell? ⟨N,0,none⟩=some x0∧w.cell? ⟨N,1,none⟩=some x1∧w.cell? ⟨N,2,none⟩=some x2∧w.cell? ⟨N,3,none⟩=some x3∧w.cell? ⟨N,4,none⟩=some x4:=by
 refine ⟨?_,?_,?_,?_,?_⟩ <;> (rw[cell_of_row _ _ _ _ _ _ h];rfl)
def wiS (H:List (List Rg)) (s:List ((Int × Int × Int) × Value) × SgL) (x:List Rg):(List ((Int × Int × Int) × Value) × SgL) × List Int :=
 match idxs (numL s.1 x).2 s.2 with
 | some l=>(((numL s.1 x).1,s.2),l)
 | none=>(((numL s.1 x).1,s.2++[((numL s.1 x).2,withinF H x)]),withinF H x)
theorem zero_ints (w:World):(zeroValue 23).run Tryz.prog w=.ok (.slice none 0 0) w:=by
 have h:(Tryz.prog.info? 23).map (·.zero)=some (some (.slice none 0 0)):=by kernel_rfl
 cases e:Tryz.prog.info? 23 with
 | none=>rw[e] at h;cases h
 | some j =>
  rw[e] at h
  simp at h
  simp[zeroValue,typeInfo,e,h]
def WiP (bx m1 m2 m3:Nat) (E:Nat→Prop) (H:List (List Rg)) (g:Bool) (k:Int) (r:(List ((Int × Int × Int) × Value) × SgL) × List Int) (w:World) (en:Ending) (w' : World):Prop:=∃ A n c,en=.returned (.slice A n c)∧InAt w' (fun b=>b<w'.heap.size∧¬ TW bx m1 m2 m3 b∧¬ E b) A n c r.2∧Tel bx m1 m2 m3 E H r.1.1 r.1.2 g k w' ∧ Fx (TW bx m1 m2 m3) w w'
set_option maxHeartbeats 4000000 in
theorem tellwithin_any {bx m1 m2 m3:Nat}{E:Nat→Prop}{H:List (List Rg)}{M:List ((Int × Int × Int) × Value)}{G:SgL}{g:Bool}{k:Int}{w:World}(h:Tel bx m1 m2 m3 E H M G g k w) (hE:∀ b,E b→b<w.heap.size) (hH:H.length≤100) (hm5:M.length≤10000){S:Nat→Prop}(hS:∀ b,S b→b<w.heap.size∧¬ TW bx m1 m2 m3 b){A:Option Addr}{n c:Nat}{x:List Rg}(hx:RgAt w S A n c x) (hn:n≤1000) :
  Calls Tryz.prog 55 #[.pointer (some ⟨bx,0,none⟩),.slice A n c] w (WiP bx m1 m2 m3 E H g k (wiS H (M,G) x) w):=by
 obtain ⟨hA,hc,hbx,hhr⟩:=h.box
 have HT:=ha_ h
 have HEE:=ha_ hE
 have HSS:=ha_ hS
 have HX:=ha_ hx
 have HN:=ha_ (number_any h.lists h.ints (by omega) (hx.keep (S' := fun b=>b<w.heap.size∧b≠m1) (fun b hb=>⟨(hS b hb).1,fun e=>(hS b hb).2 (.inr (.inl e))⟩) (fun _ _=>rfl)) (by omega))
 have HIO:=ha_ (numT_ok h.ints x)
 obtain ⟨c0,c1,c2,c3,c4⟩:=tcells5 hbx
 clear h hS hx hbx hhr hE
 go_enter Tryz.func55,Tryz.ntmps55
 go_wp2_with fail
 refine HN.out.mono ?_
 rintro en w1 ⟨rfl,hE1,hF1⟩
 have HT1:=ha_ (HT.out.num hE1 HIO.out.1 hF1)
 have HF1:Hid (Fx (TW bx m1 m2 m3) w w1):=hF1.mono (fun i _ e=>.inr (.inl e))
 have HX1:Hid (RgAt w1 S A n c x):=HX.out.keep (fun _ h=>h) (fun p hp=>HF1.out.cell (HSS.out _ hp).1 (HSS.out _ hp).2)
 have HWS:Hid (wiS H (M,G) x=match idxs (numL M x).2 G with|some l=>(((numL M x).1,G),l)|none=>(((numL M x).1,G++[((numL M x).2,withinF H x)]),withinF H x)):=rfl
 clear hE1 hF1 HN HT HX c0 c1 c2 c3 c4
 generalize hnn:(numL M x).2=nn at *
 generalize hmm:(numL M x).1=M' at *
 obtain ⟨hA1,hc1,hbx1,hhr1⟩:=HT1.out.box
 obtain ⟨V,hV,hSg⟩:=HT1.out.signs
 obtain ⟨f1,f2⟩:=hSg.find nn 0
 obtain ⟨c0,c1,c2,c3,c4⟩:=tcells5 hbx1
 have hz:=zero_ints w1
 cases hi:idxs nn G with
 | some l =>
  obtain ⟨j,A', n', c', hj,hin⟩:=f2 l hi
  have hl9:=elookup keyI hV (mt:=112) Tryz.underlying112 hz nn (r:=.tuple #[.slice A' n' c', .bool true]) (by rw[hj])
  have hl9:Sem.run Tryz.prog (Instr.lookup 112 (.map (some m2)) (.int .i64 nn) true) w1=.ok (.tuple #[.slice A' n' c', .bool true]) w1:=hl9
  have HR:Hid (WiP bx m1 m2 m3 E H g k (wiS H (M,G) x) w (.returned (.slice A' n' c')) w1):=by
   show WiP _ _ _ _ _ _ _ _ _ _ _ _
   rw[HWS.out,hi]
   exact ⟨A', n', c', rfl,hin,HT1.out,HF1.out⟩
  clear hi hj hin f1 f2 hSg hV hz hhr1 hbx1 HT1 HF1 HX1 HWS HIO
  go_wp2_with fail
  go_ret
  exact HR.out
 | none =>
  have hj:=f1 hi
  have hl9:=elookup keyI hV (mt:=112) Tryz.underlying112 hz nn (r:=.tuple #[.slice none 0 0,.bool false]) (by rw[hj])
  have hl9:Sem.run Tryz.prog (Instr.lookup 112 (.map (some m2)) (.int .i64 nn) true) w1=.ok (.tuple #[.slice none 0 0,.bool false]) w1:=hl9
  obtain ⟨gs,hgs,hls⟩:=setD_rds (hhr1.keep (S' := Bl w1) (fun b hb=>hb.1) (fun _ _=>rfl))
  have hgl:gs.length≤100000:=by have:=hgs.len;omega
  have HC:=ha_ (swithin_new hgs hgl ((HX1.out.keep (S' := Bl w1) (fun b hb=>Nat.lt_of_lt_of_le (HSS.out b hb).1 HF1.out.size) (fun _ _=>rfl)).rd))
  rw[hls] at HC
  have HVV:=ha_ hV
  have HSG:=ha_ hSg
  have HJ:=ha_ hj
  clear f1 f2 hz hhr1 hgs hls hgl hV hSg hj
  go_wp2_with fail
  refine HC.out.mono ?_
  rintro en w2 ⟨A2,n2,c2', rfl,hin2,hb2⟩
  have HT2:=ha_ (HT1.out.on hb2)
  have HIN2:Hid (InAt w2 (fun b=>b<w2.heap.size∧¬ TW bx m1 m2 m3 b∧¬ E b) A2 n2 c2' (withinF H x)):=hin2.keep (fun b hb=>⟨hb.2,(fun e=>by
   obtain ⟨l0,l1,l2,l3⟩:=HT1.out.lt
   have:=hb.1
   rcases e with e|e|e|e <;> omega),fun e=>by have:=HEE.out b e;have:=hb.1;have:=HF1.out.size;omega⟩) (fun _ _=>rfl)
  have HV2:=ha_ (HVV.out.on hb2)
  obtain ⟨q1,q2⟩:=keepT (bx:=bx) (m1:=m1) (m2:=m2) (m3:=m3) (E:=E) (Fx.of hb2 (fun _=>False)) (fun _ h=>h.elim)
  have HSG2:=ha_ ((HSG.out.keep q1 q2).snoc (k:=nn) HIN2.out)
  obtain ⟨es,ck,hu,he⟩:=eupdate keyI HV2.out (mt:=112) Tryz.underlying112 nn HJ.out (.slice A2 n2 c2')
  have hu:Sem.run Tryz.prog (Instr.mapUpdate 112 (.map (some m2)) (.int .i64 nn) (.slice A2 n2 c2')) w2=.ok () { w2 with heap:=w2.heap.setIfInBounds m2 (.map es ck) }:=hu
  have hF3:Fx (fun b=>b=m2) w2 { w2 with heap:=w2.heap.setIfInBounds m2 (.map es ck) }:=Fx.put (X:=fun b=>b=m2) w2 rfl _
  have HT3:=ha_ (HT2.out.sgn he HSG2.out hF3)
  have HF3:Hid (Fx (TW bx m1 m2 m3) w { w2 with heap:=w2.heap.setIfInBounds m2 (.map es ck) }):=(HF1.out.below hb2).trans hF3 (fun i _ e=>.inr (.inr (.inl e)))
  have HIN3:Hid (InAt { w2 with heap:=w2.heap.setIfInBounds m2 (.map es ck) } (fun b=>b<({ w2 with heap:=w2.heap.setIfInBounds m2 (.map es ck) }:World).heap.size∧¬ TW bx m1 m2 m3 b∧¬ E b) A2 n2 c2' (withinF H x)):=by
   obtain ⟨r1,r2⟩:=keepT (bx:=bx) (m1:=m1) (m2:=m2) (m3:=m3) (E:=E) hF3 (fun _ h=>.inr (.inr (.inl h)))
   exact HIN2.out.keep r1 r2
  obtain ⟨hA2,hc2,hbx2,_⟩:=HT2.out.box
  generalize hW3:({ w2 with heap:=w2.heap.setIfInBounds m2 (.map es ck) }:World)=W3 at *
  have HR:Hid (WiP bx m1 m2 m3 E H g k (wiS H (M,G) x) w (.returned (.slice A2 n2 c2')) W3):=by
   show WiP _ _ _ _ _ _ _ _ _ _ _ _
   rw[HWS.out,hi]
   exact ⟨A2,n2,c2', rfl,HIN3.out,HT3.out,HF3.out⟩
  clear hW3 hin2 hb2 q1 q2 he hF3 HIN3 HT3 HF3 HT2 HIN2 HV2 HSG2 HC HT1 HF1 HX1 HWS HVV HSG HJ HIO hi c0 c1 c2 c3 c4 hbx1
  obtain ⟨c0,c1,c2,c3,c4⟩:=tcells5 hbx2
  clear hbx2
  go_wp2_with fail
  go_ret
  exact HR.out
end Go.Proofs.YtbbmjdddemahfaaGreat
