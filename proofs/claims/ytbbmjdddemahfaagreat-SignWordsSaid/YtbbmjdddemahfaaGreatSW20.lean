/- Part of the proof. -/
import Derived.Test.YtbbmjdddemahfaaGreatSW13
import Derived.Test.YtbbmjdddemahfaaGreatSW12
set_option maxRecDepth 100000
namespace Go.Proofs.YtbbmjdddemahfaaGreat
open Go.RowKit
open M (Rg)
open Y (Nd It)

def NoInt (w:World) (N:Nat):Prop:=∀ (o:Nat) (x:Int),w.cell? ⟨N,o,none⟩≠some (.int .i64 x)
theorem RgAt.not {w:World}{S:Nat→Prop}{A:Option Addr}{n c:Nat}{L:List (Int × Int)}(h:RgAt w S A n c L){N:Nat}(hN:NoInt w N):RgAt w (fun b=>S b∧b≠N) A n c L :=
 ⟨h.len,h.cap,h.capm,fun hn=>by
  obtain ⟨b,off,e,hb,hc⟩:=h.at_ hn
  have:=(hc 0 _ (List.getElem?_eq_getElem (by have:=h.len;omega))).1
  exact ⟨b,off,e,⟨hb,fun e=>hN _ _ (e ▸ this)⟩,hc⟩⟩
theorem InAt.not {w:World}{S:Nat→Prop}{A:Option Addr}{n c:Nat}{L:List Int}(h:InAt w S A n c L){N:Nat}(hN:NoInt w N):InAt w (fun b=>S b∧b≠N) A n c L :=
 ⟨h.len,h.cap,h.capm,fun hn=>by
  obtain ⟨b,off,e,hb,hc⟩:=h.at_ hn
  have:=hc 0 _ (List.getElem?_eq_getElem (by have:=h.len;omega))
  exact ⟨b,off,e,⟨hb,fun e=>hN _ _ (e ▸ this)⟩,hc⟩⟩
theorem PtAt.not {w:World}{S:Nat→Prop}{cs:List Value}{x:Pt}(h:PtAt w S cs x){N:Nat}(hN:NoInt w N):PtAt w (fun b=>S b∧b≠N) cs x:=by
 induction h with
 | mk k sA sn sc L gA gn gc G A n c kids cs hs hg hl hc hm hA hk ih =>
  refine .mk k sA sn sc L gA gn gc G A n c kids cs (hs.not hN) (hg.not hN) hl hc hm (fun hn=>?_) ih
  obtain ⟨b,off,e,hb,hcc⟩:=hA hn
  obtain ⟨_,_,_,_,_,_,_,_,_,e5,_⟩:=(hk 0 _ (List.getElem?_eq_getElem (by omega))).inv
  have h0:=hcc 0 hn 0
  rw[e5] at h0
  exact ⟨b,off,e,⟨hb,fun e=>hN _ _ (e ▸ h0 _ rfl)⟩,hcc⟩
theorem vars_not {w:World}{S:Nat→Prop}{A:Option Addr}{n c:Nat}{l:List Vr}(h:RdG varD w S A n c l){N:Nat}(hN:NoInt w N):RdG varD w (fun b=>S b∧b≠N) A n c l:=by
 obtain ⟨h1,h2,h3,cs,h4,h5⟩:=h
 refine ⟨h1,h2,h3,cs,fun hn=>?_,fun i x hx=>?_⟩
 ·obtain ⟨b,off,e,hb,hcc⟩:=h4 hn
  obtain ⟨ps,e5,hp⟩:=h5 0 _ (List.getElem?_eq_getElem (by omega))
  obtain ⟨_,_,_,_,_,_,_,_,_,e6,_⟩:=hp.inv
  have h0:=hcc 0 hn 1
  rw[e5,e6] at h0
  exact ⟨b,off,e,⟨hb,fun e=>hN _ _ (e ▸ h0 _ rfl)⟩,hcc⟩
 ·obtain ⟨ps,e5,hp⟩:=h5 i x hx
  exact ⟨ps,e5,hp.not hN⟩
theorem rules_not {w:World}{S:Nat→Prop}{A:Option Addr}{n c:Nat}{l:List Rl}(h:RdG ruleD w S A n c l){N:Nat}(hN:NoInt w N):RdG ruleD w (fun b=>S b∧b≠N) A n c l:=by
 obtain ⟨h1,h2,h3,cs,h4,h5⟩:=h
 refine ⟨h1,h2,h3,cs,fun hn=>?_,fun i x hx=>?_⟩
 ·obtain ⟨b,off,e,hb,hcc⟩:=h4 hn
  obtain ⟨ps,qs,e5,hp,_⟩:=h5 0 _ (List.getElem?_eq_getElem (by omega))
  have h0:=hcc 0 hn 0
  rw[e5] at h0
  exact ⟨b,off,e,⟨hb,fun e=>hN _ _ (e ▸ h0 _ rfl)⟩,hcc⟩
 ·obtain ⟨ps,qs,e5,hp,hq⟩:=h5 i x hx
  exact ⟨ps,qs,e5,hp.not hN,hq.not hN⟩
theorem book_noInt {w:World}{N:Nat}{a0 a1 a2 a3:Option Addr}{n0 n1 n2 n3 c0 c1 c2 c3:Nat}{t:TypeId}(h:w.heap[N]?=some (.cells #[.slice a0 n0 c0,.slice a1 n1 c1,.slice a2 n2 c2,.slice a3 n3 c3] t (0,0))):NoInt w N:=by
 intro o x e
 rw[cell_of_row _ _ _ _ _ _ h] at e
 match o,e with
 | 0,e=>cases e
 | 1,e=>cases e
 | 2,e=>cases e
 | 3,e=>cases e
 | o+4,e=>cases e
def DOnR (V:Nat) (SR:Nat→Prop) (vA:Option Addr) (vn vc:Nat) (w:World) (iA:Option Addr) (iN ic:Nat) (uA:Option Addr) (un uc:Nat) (L:List Rl) (e:Ending) (w' : World):Prop:=∃ (rA:Option Addr) (rn rc:Nat),e=.returned (.tuple #[.agg #[.slice vA vn vc,.slice rA rn rc,.slice iA iN ic,.slice uA un uc],.int .i64 0])∧RdG ruleD w' (fun i=>(SR i∨i<V)∨(w.heap.size≤i∧i<w'.heap.size)) rA rn rc L∧(rn=0→rA=none∧rc=0)∧Below w.heap.size w w'
def DOnN (rA:Option Addr) (rn rc:Nat) (w:World) (iA:Option Addr) (iN ic:Nat) (uA:Option Addr) (un uc:Nat) (L:List Vr) (e:Ending) (w' : World):Prop:=∃ (vA:Option Addr) (vn vc:Nat),e=.returned (.tuple #[.agg #[.slice vA vn vc,.slice rA rn rc,.slice iA iN ic,.slice uA un uc],.int .i64 0])∧RdG varD w' (fun i=>w.heap.size≤i∧i<w'.heap.size) vA vn vc L∧Below w.heap.size w w'
set_option maxHeartbeats 2000000 in
theorem done_name2 {x:It}(hk:x.kind=1) (hok:(dExpand [] x.before).1=0) (h4:x.before.kind=4) (hsz:x.before.size≤100000){w:World}{Ab Aa rA iA uA:Option Addr}{nb cb na ca rn rc iN ic un uc:Nat}(hb:RdN w (Bl w) Ab nb cb x.before.kids) :
  Calls Tryz.prog 44 #[.agg #[.slice none 0 0,.slice rA rn rc,.slice iA iN ic,.slice uA un uc],.agg #[.int .i64 x.kind,.string x.name,.int .i64 x.number,.bool x.cut,.int .i64 x.before.kind,.string x.before.name,.int .i64 x.before.low,.int .i64 x.before.high,.slice Ab nb cb,.int .i64 x.after.kind,.string x.after.name,.int .i64 x.after.low,.int .i64 x.after.high,.slice Aa na ca,.int .i64 x.pos]] w (DOnN rA rn rc w iA iN ic uA un uc [⟨x.name,(dExpand [] x.before).2,true,x.pos⟩]):=by
 obtain ⟨hz,q0,q1,q2,qb⟩:=rows3 w (.cells #[.slice none 0 0,.slice rA rn rc,.slice iA iN ic,.slice uA un uc] 36) (.cells #[.int .i64 x.kind,.string x.name,.int .i64 x.number,.bool x.cut,.int .i64 x.before.kind,.string x.before.name,.int .i64 x.before.low,.int .i64 x.before.high,.slice Ab nb cb,.int .i64 x.after.kind,.string x.after.name,.int .i64 x.after.low,.int .i64 x.after.high,.slice Aa na ca,.int .i64 x.pos] 79) (.cells #[.slice none 0 0,.slice none 0 0,.slice none 0 0,.slice none 0 0] 36)
 have HP:=ha_ qb
 have HR0:=ha_ q0
 have HR1:=ha_ q1
 have HR2:=ha_ q2
 have HG:=ha_ (dgive_nil hk hok h4 hsz (hb.bl qb) (Aa:=Aa) (na:=na) (ca:=ca))
 have g1:(x.kind == 1)=true:=by rw[hk];rfl
 clear q0 q1 q2 qb hb hok hk h4
 go_enter Tryz.func44,Tryz.ntmps44
 go_upto_region 1 with fail
 generalize hW3:(((w.alloc (.cells #[.slice none 0 0,.slice rA rn rc,.slice iA iN ic,.slice uA un uc] 36)).alloc (.cells #[.int .i64 x.kind,.string x.name,.int .i64 x.number,.bool x.cut,.int .i64 x.before.kind,.string x.before.name,.int .i64 x.before.low,.int .i64 x.before.high,.slice Ab nb cb,.int .i64 x.after.kind,.string x.after.name,.int .i64 x.after.low,.int .i64 x.after.high,.slice Aa na ca,.int .i64 x.pos] 79)).alloc (.cells #[.slice none 0 0,.slice none 0 0,.slice none 0 0,.slice none 0 0] 36))=W3 at *
 clear hW3
 have HZ:Hid (W3.heap.size=w.heap.size+3):=hz
 clear hz
 obtain ⟨c0,c1,c2,c3⟩:=qi_ HR0.out
 obtain ⟨r0,r1,r2,r3,r4,r5,r6,r7,r8,r9,r10,r11,r12,r13,r14⟩:=dcells15 HR1.out
 go_wp2_with fail
 refine HG.out.mono ?_
 rintro en w4 ⟨vA,vn,vc,rfl,hv,hb4⟩
 have HV:=ha_ hv
 have HS4:Hid (w.heap.size+3≤w4.heap.size):=by have:=hb4.size;have:=HZ.out;show _≤_;omega
 have HB4:=ha_ (HP.out.trans (hb4.mono HP.out.size))
 have HQ0:=ha_ ((hb4.block w.heap.size (by have:=HZ.out;omega)).trans HR0.out)
 have HQ2:=ha_ ((hb4.block (w.heap.size+1+1) (by have:=HZ.out;omega)).trans HR2.out)
 have HVN:Hid (∀ i,Ov 0 W3 w4 i→w.heap.size+3≤i∧i<w4.heap.size):=fun i hi=>by
  rcases hi with hi|hi
  ·omega
  ·have:=HZ.out;exact ⟨by omega,hi.2⟩
 clear hv hb4 HG c0 c1 c2 c3 r0 r1 r2 r3 r4 r5 r6 r7 r8 r9 r10 r11 r12 r13 r14
 obtain ⟨c0,c1,c2,c3⟩:=qi_ HQ0.out
 obtain ⟨d0,d1,d2,d3⟩:=qi_ HQ2.out
 have fr:=qv_ HQ0.out
 have fr2:=qv_ HQ2.out
 have HNE:Hid (w.heap.size≠w.heap.size+1+1):=by show _≠_;omega
 have HBS:Hid (Below w.heap.size w (set4 (w4.setCell ⟨w.heap.size,0,none⟩ (.slice vA vn vc)) (w.heap.size+1+1) (.slice vA vn vc) (.slice rA rn rc) (.slice iA iN ic) (.slice uA un uc))):=qm_ (HB4.out.setCell (Nat.le_refl _) _) (by omega) _ _ _ _
 have HCE:Hid (∀ p:Addr,p.block≠w.heap.size→p.block≠w.heap.size+1+1→(set4 (w4.setCell ⟨w.heap.size,0,none⟩ (.slice vA vn vc)) (w.heap.size+1+1) (.slice vA vn vc) (.slice rA rn rc) (.slice iA iN ic) (.slice uA un uc)).cell? p=w4.cell? p):=fun p h1 h2=>(qn_ _ _ _ _ _ h2).trans (World.cell?_of_block (Below.heap_setCell _ _ _ _ h1))
 have HQQ:Hid ((set4 (w4.setCell ⟨w.heap.size,0,none⟩ (.slice vA vn vc)) (w.heap.size+1+1) (.slice vA vn vc) (.slice rA rn rc) (.slice iA iN ic) (.slice uA un uc)).heap[w.heap.size+1+1]?=some (.cells #[.slice vA vn vc,.slice rA rn rc,.slice iA iN ic,.slice uA un uc] 36 (0,0))):=qx_ ((Below.heap_setCell _ _ _ _ HNE.out.symm).trans HQ2.out) _ _ _ _
 have HF:Hid (DOnN rA rn rc w iA iN ic uA un uc [⟨x.name,(dExpand [] x.before).2,true,x.pos⟩] (.returned (.tuple #[.agg #[.slice vA vn vc,.slice rA rn rc,.slice iA iN ic,.slice uA un uc],.int .i64 0])) (set4 (w4.setCell ⟨w.heap.size,0,none⟩ (.slice vA vn vc)) (w.heap.size+1+1) (.slice vA vn vc) (.slice rA rn rc) (.slice iA iN ic) (.slice uA un uc))):=by
  have hsz9:(set4 (w4.setCell ⟨w.heap.size,0,none⟩ (.slice vA vn vc)) (w.heap.size+1+1) (.slice vA vn vc) (.slice rA rn rc) (.slice iA iN ic) (.slice uA un uc)).heap.size=w4.heap.size:=by rw[qg_];simp
  refine ⟨vA,vn,vc,rfl,HV.out.keep (fun i hi=>?_) (fun p hp=>?_),HBS.out⟩
  ·show w.heap.size≤i∧i<(set4 (w4.setCell ⟨w.heap.size,0,none⟩ (.slice vA vn vc)) (w.heap.size+1+1) (.slice vA vn vc) (.slice rA rn rc) (.slice iA iN ic) (.slice uA un uc)).heap.size
   rw[hsz9]
   have:=HVN.out i hi
   exact ⟨by omega,this.2⟩
  ·have:=(HVN.out _ hp).1
   exact HCE.out p (by omega) (by omega)
 clear HV HVN HB4 HCE HBS
 go_wp2_with fail
 change bodyPost _ _ _ _ _ (set4 (w4.setCell ⟨w.heap.size,0,none⟩ (.slice vA vn vc)) (w.heap.size+1+1) (.slice vA vn vc) (.slice rA rn rc) (.slice iA iN ic) (.slice uA un uc))
 generalize hW9:(set4 (w4.setCell ⟨w.heap.size,0,none⟩ (.slice vA vn vc)) (w.heap.size+1+1) (.slice vA vn vc) (.slice rA rn rc) (.slice iA iN ic) (.slice uA un uc))=W9 at *
 exact bodyPost_ret (zc_ (a:=4) (u:=5) rfl (Tryz.isAgg36 _) (Tryz.sizeOf36 _) _ rfl HQQ.out) rfl HF.out
set_option maxHeartbeats 8000000 in
theorem done_rule2 {V:Nat}{SR:Nat→Prop}{b:Bk}{x:It}(hk:x.kind=2) (hnf:rlFind b.rules x.number=none) (h30:b.rules.length<30) (hok:(dExpand b.vars x.before).1=0) (hok2:(dExpand b.vars x.after).1=0) (hsz:x.before.size≤100000) (hsz2:x.after.size≤100000){w:World}{Ab Aa vA rA iA uA:Option Addr}{nb cb na ca vn vc rn rc iN ic un uc:Nat}(hb:RdN w (Bl w) Ab nb cb x.before.kids) (ha:RdN w (Bl w) Aa na ca x.after.kids) (hV:V≤w.heap.size) (hSR:∀ b,SR b→b<w.heap.size) (hv:RdG varD w (fun b=>b<V) vA vn vc b.vars) (hr:RdG ruleD w SR rA rn rc b.rules) (hrn:rn=0→rA=none∧rc=0) :
  Calls Tryz.prog 44 #[.agg #[.slice vA vn vc,.slice rA rn rc,.slice iA iN ic,.slice uA un uc],.agg #[.int .i64 x.kind,.string x.name,.int .i64 x.number,.bool x.cut,.int .i64 x.before.kind,.string x.before.name,.int .i64 x.before.low,.int .i64 x.before.high,.slice Ab nb cb,.int .i64 x.after.kind,.string x.after.name,.int .i64 x.after.low,.int .i64 x.after.high,.slice Aa na ca,.int .i64 x.pos]] w (DOnR V SR vA vn vc w iA iN ic uA un uc (rlPut b.rules ⟨x.number,x.cut,(dExpand b.vars x.before).2,(dExpand b.vars x.after).2,x.pos⟩)):=by
 obtain ⟨hz,q0,q1,q2,qb⟩:=rows3 w (.cells #[.slice vA vn vc,.slice rA rn rc,.slice iA iN ic,.slice uA un uc] 36) (.cells #[.int .i64 x.kind,.string x.name,.int .i64 x.number,.bool x.cut,.int .i64 x.before.kind,.string x.before.name,.int .i64 x.before.low,.int .i64 x.before.high,.slice Ab nb cb,.int .i64 x.after.kind,.string x.after.name,.int .i64 x.after.low,.int .i64 x.after.high,.slice Aa na ca,.int .i64 x.pos] 79) (.cells #[.slice none 0 0,.slice none 0 0,.slice none 0 0,.slice none 0 0] 36)
 have hrl:=hr.len
 have HP:=ha_ qb
 have HR0:=ha_ q0
 have HR1:=ha_ q1
 have HR2:=ha_ q2
 have HVV:=ha_ hV
 have HSR:=ha_ hSR
 have HRU:=ha_ hr
 have HRV:=ha_ hv
 have HRB:=ha_ hb
 have HRA:=ha_ ha
 have HG:=ha_ (drfind_any ((hr.keep (S' := Bl w) hSR (fun _ _=>rfl)).on qb) x.number (.slice vA vn vc) (.slice iA iN ic) (.slice uA un uc))
 rw[hnf] at HG
 have g1:(x.kind == 1)=false:=by rw[hk];rfl
 have g2:(x.kind == 2)=true:=by rw[hk];rfl
 have g3:¬ (30:Int)≤(rn:Int):=by omega
 have HK:=ha_ hok
 have HK2:=ha_ hok2
 clear q0 q1 q2 qb hb hr hv ha hok hok2 hk hnf hV hSR
 go_enter Tryz.func44,Tryz.ntmps44
 go_upto_region 1 with fail
 generalize hW3:(((w.alloc (.cells #[.slice vA vn vc,.slice rA rn rc,.slice iA iN ic,.slice uA un uc] 36)).alloc (.cells #[.int .i64 x.kind,.string x.name,.int .i64 x.number,.bool x.cut,.int .i64 x.before.kind,.string x.before.name,.int .i64 x.before.low,.int .i64 x.before.high,.slice Ab nb cb,.int .i64 x.after.kind,.string x.after.name,.int .i64 x.after.low,.int .i64 x.after.high,.slice Aa na ca,.int .i64 x.pos] 79)).alloc (.cells #[.slice none 0 0,.slice none 0 0,.slice none 0 0,.slice none 0 0] 36))=W3 at *
 clear hW3
 have HZ:Hid (W3.heap.size=w.heap.size+3):=hz
 clear hz
 obtain ⟨c0,c1,c2,c3⟩:=qi_ HR0.out
 obtain ⟨r0,r1,r2,r3,r4,r5,r6,r7,r8,r9,r10,r11,r12,r13,r14⟩:=dcells15 HR1.out
 go_wp2_with fail
 refine HG.out.mono ?_
 rintro en w4 ⟨rfl,hb4⟩
 have HB4:=ha_ (HP.out.trans (hb4.mono HP.out.size))
 have HS4:Hid (w.heap.size+3≤w4.heap.size):=by have:=hb4.size;have:=HZ.out;show _≤_;omega
 have HQ0:=ha_ ((hb4.block w.heap.size (by have:=HZ.out;omega)).trans HR0.out)
 have HQ1:=ha_ ((hb4.block (w.heap.size+1) (by have:=HZ.out;omega)).trans HR1.out)
 have HQ2:=ha_ ((hb4.block (w.heap.size+1+1) (by have:=HZ.out;omega)).trans HR2.out)
 have HC:=ha_ (dexpand_any (V:=V) hsz (w:=w4) (by have:=HS4.out;have:=HVV.out;omega) (HRB.out.bl HB4.out) (HRV.out.vlt HVV.out HB4.out))
 clear hb4 HG c0 c1 c2 c3 r0 r1 r2 r3 r4 r5 r6 r7 r8 r9 r10 r11 r12 r13 r14 HR0 HR1 HR2
 rw[show plI (none:Option Nat)=-1 from rfl]
 obtain ⟨c0,c1,c2,c3⟩:=qi_ HQ0.out
 obtain ⟨r0,r1,r2,r3,r4,r5,r6,r7,r8,r9,r10,r11,r12,r13,r14⟩:=dcells15 HQ1.out
 go_wp2_with fail
 refine HC.out.mono ?_
 rintro en w5 ⟨sA,sn,sc,gA,gn,gc,A1,n1,c1', rfl,hpt,hb5⟩
 have HPT:=ha_ hpt
 have HS5:Hid (w4.heap.size≤w5.heap.size):=hb5.size
 have HP6:Hid (Below w5.heap.size w5 (w5.alloc (.cells #[.int .i64 (dExpand b.vars x.before).2.kind,.slice sA sn sc,.slice gA gn gc,.slice A1 n1 c1'] 47))):=qa_ _ _
 have HZ6:Hid ((w5.alloc (.cells #[.int .i64 (dExpand b.vars x.before).2.kind,.slice sA sn sc,.slice gA gn gc,.slice A1 n1 c1'] 47)).heap.size=w5.heap.size+1):=by show _=_;simp
 have HX6:=ha_ (hb5.trans (HP6.out.mono hb5.size))
 have HB6:=ha_ (HB4.out.trans (HX6.out.mono HB4.out.size))
 have HU0:=ha_ ((HX6.out.block w.heap.size (by have:=HS4.out;omega)).trans HQ0.out)
 have HU1:=ha_ ((HX6.out.block (w.heap.size+1) (by have:=HS4.out;omega)).trans HQ1.out)
 have HU2:=ha_ ((HX6.out.block (w.heap.size+1+1) (by have:=HS4.out;omega)).trans HQ2.out)
 have HU5:=ha_ (heap_alloc_new w5 (.cells #[.int .i64 (dExpand b.vars x.before).2.kind,.slice sA sn sc,.slice gA gn gc,.slice A1 n1 c1'] 47))
 have g4:((dExpand b.vars x.before).1 != 0)=false:=by rw[HK.out];rfl
 have HC2:=ha_ (dexpand_any (V:=V) hsz2 (w:=w5.alloc (.cells #[.int .i64 (dExpand b.vars x.before).2.kind,.slice sA sn sc,.slice gA gn gc,.slice A1 n1 c1'] 47)) (by have:=HS4.out;have:=HS5.out;have:=HZ6.out;have:=HVV.out;omega) (HRA.out.bl HB6.out) (HRV.out.vlt HVV.out HB6.out))
 clear hpt hb5 HC c0 c1 c2 c3 r0 r1 r2 r3 r4 r5 r6 r7 r8 r9 r10 r11 r12 r13 r14 HQ0 HQ1 HQ2
 obtain ⟨c0,c1,c2,c3⟩:=qi_ HU0.out
 obtain ⟨r0,r1,r2,r3,r4,r5,r6,r7,r8,r9,r10,r11,r12,r13,r14⟩:=dcells15 HU1.out
 generalize hW6:w5.alloc (.cells #[.int .i64 (dExpand b.vars x.before).2.kind,.slice sA sn sc,.slice gA gn gc,.slice A1 n1 c1'] 47)=W6 at *
 go_wp2_with fail
 refine HC2.out.mono ?_
 rintro en w7 ⟨tA,tn,tc,hA,hn,hc,A2,n2,c2', rfl,hpt,hb7⟩
 have HPT2:=ha_ hpt
 have HS7:Hid (W6.heap.size≤w7.heap.size):=hb7.size
 have HP8:Hid (Below w7.heap.size w7 (w7.alloc (.cells #[.int .i64 (dExpand b.vars x.after).2.kind,.slice tA tn tc,.slice hA hn hc,.slice A2 n2 c2'] 47))):=qa_ _ _
 have HZ8:Hid ((w7.alloc (.cells #[.int .i64 (dExpand b.vars x.after).2.kind,.slice tA tn tc,.slice hA hn hc,.slice A2 n2 c2'] 47)).heap.size=w7.heap.size+1):=by show _=_;simp
 have HX8:=ha_ (hb7.trans (HP8.out.mono hb7.size))
 have HB8:=ha_ (HB6.out.trans (HX8.out.mono HB6.out.size))
 have HE6:Hid (w.heap.size+3≤w5.heap.size∧W6.heap.size=w5.heap.size+1):=⟨Nat.le_trans HS4.out HS5.out,HZ6.out⟩
 have HQ0:=ha_ ((HX8.out.block w.heap.size (by have:=HE6.out;omega)).trans HU0.out)
 have HQ1:=ha_ ((HX8.out.block (w.heap.size+1) (by have:=HE6.out;omega)).trans HU1.out)
 have HQ2:=ha_ ((HX8.out.block (w.heap.size+1+1) (by have:=HE6.out;omega)).trans HU2.out)
 have HQ5:=ha_ ((HX8.out.block w5.heap.size (by have:=HE6.out;omega)).trans HU5.out)
 have HQ7:=ha_ (heap_alloc_new w7 (.cells #[.int .i64 (dExpand b.vars x.after).2.kind,.slice tA tn tc,.slice hA hn hc,.slice A2 n2 c2'] 47))
 have g5:((dExpand b.vars x.after).1 != 0)=false:=by rw[HK2.out];rfl
 clear hpt hb7 HC2 c0 c1 c2 c3 r0 r1 r2 r3 r4 r5 r6 r7 r8 r9 r10 r11 r12 r13 r14 HU0 HU1 HU2 HU5
 generalize hW8:w7.alloc (.cells #[.int .i64 (dExpand b.vars x.after).2.kind,.slice tA tn tc,.slice hA hn hc,.slice A2 n2 c2'] 47)=W8 at *
 have HSL:Hid (∀ i,((SR i∨i<V)∨(w.heap.size+3≤i∧i<W8.heap.size∧i≠w5.heap.size∧i≠w7.heap.size))→i<W8.heap.size):=fun i hi=>by
  have:=HE6.out;have:=HS7.out;have:=HZ8.out;have:=HVV.out
  rcases hi with (hi|hi)|hi
  ·have:=HSR.out i hi;omega
  ·omega
  ·omega
 have HPB:Hid (PtAt W8 (fun i=>(SR i∨i<V)∨(w.heap.size+3≤i∧i<W8.heap.size∧i≠w5.heap.size∧i≠w7.heap.size)) [.int .i64 (dExpand b.vars x.before).2.kind,.slice sA sn sc,.slice gA gn gc,.slice A1 n1 c1'] (dExpand b.vars x.before).2):=by
  refine PtAt.of (HPT.out.keep (fun i hi=>?_) (fun p hp=>?_))
  ·have:=HE6.out;have:=HS7.out;have:=HZ8.out;have:=HS4.out
   rcases hi with hi|hi
   ·exact .inl (.inr hi)
   ·have h1:=hi.1;have h2:=hi.2;exact .inr ⟨by omega,by omega,by omega,by omega⟩
  ·have hlt:p.block<w5.heap.size:=by
    have:=HE6.out;have:=HVV.out
    rcases hp with hp|hp
    ·omega
    ·exact hp.2
   exact (HX8.out.cell (p:=p) (by have:=HE6.out;omega)).trans (HP6.out.cell hlt)
 have HPA:Hid (PtAt W8 (fun i=>(SR i∨i<V)∨(w.heap.size+3≤i∧i<W8.heap.size∧i≠w5.heap.size∧i≠w7.heap.size)) [.int .i64 (dExpand b.vars x.after).2.kind,.slice tA tn tc,.slice hA hn hc,.slice A2 n2 c2'] (dExpand b.vars x.after).2):=by
  refine PtAt.of (HPT2.out.keep (fun i hi=>?_) (fun p hp=>?_))
  ·have:=HE6.out;have:=HS7.out;have:=HZ8.out
   rcases hi with hi|hi
   ·exact .inl (.inr hi)
   ·have h1:=hi.1;have h2:=hi.2;exact .inr ⟨by omega,by omega,by omega,by omega⟩
  ·have hlt:p.block<w7.heap.size:=by
    have:=HE6.out;have:=HS7.out;have:=HVV.out
    rcases hp with hp|hp
    ·omega
    ·exact hp.2
   exact HP8.out.cell hlt
 have HRR:Hid (RdG ruleD W8 (fun i=>(SR i∨i<V)∨(w.heap.size+3≤i∧i<W8.heap.size∧i≠w5.heap.size∧i≠w7.heap.size)) rA rn rc b.rules):=HRU.out.keep (fun i hi=>.inl (.inl hi)) (fun p hp=>HB8.out.cell (HSR.out _ hp))
 have HC:=ha_ (dput9_any (r:=⟨x.number,x.cut,(dExpand b.vars x.before).2,(dExpand b.vars x.after).2,x.pos⟩) (by omega) HSL.out HRR.out hrn HPB.out HPA.out)
 clear HPB HPA HRR HPT HPT2
 obtain ⟨c0,c1,c2,c3⟩:=qi_ HQ0.out
 obtain ⟨r0,r1,r2,r3,r4,r5,r6,r7,r8,r9,r10,r11,r12,r13,r14⟩:=dcells15 HQ1.out
 obtain ⟨k0,k1,k2,k3⟩:=qy_ HQ5.out
 obtain ⟨l0,l1,l2,l3⟩:=qy_ HQ7.out
 go_wp2_with fail
 refine HC.out.mono ?_
 rintro en w9 ⟨A9,n9,c9,rfl,hr9,hb9⟩
 have hn9:=hr9.len
 have hn90:n9≠0:=by
  rw[← hn9]
  unfold rlPut
  rw[List.length_append,List.length_cons]
  omega
 have HR9:=ha_ hr9
 have HS9:Hid (W8.heap.size≤w9.heap.size):=hb9.size
 have HB9:=ha_ (HB8.out.trans (hb9.mono HB8.out.size))
 have HU0:=ha_ ((hb9.block w.heap.size (by have:=HE6.out;have:=HS7.out;have:=HZ8.out;omega)).trans HQ0.out)
 have HU2:=ha_ ((hb9.block (w.heap.size+1+1) (by have:=HE6.out;have:=HS7.out;have:=HZ8.out;omega)).trans HQ2.out)
 clear hr9 hb9 HC c0 c1 c2 c3 r0 r1 r2 r3 r4 r5 r6 r7 r8 r9 r10 r11 r12 r13 r14 k0 k1 k2 k3 l0 l1 l2 l3 HQ0 HQ1 HQ2 HQ5 HQ7
 obtain ⟨c0,c1,c2,c3⟩:=qi_ HU0.out
 obtain ⟨d0,d1,d2,d3⟩:=qi_ HU2.out
 have fr:=qv_ HU0.out
 have fr2:=qv_ HU2.out
 have HNE:Hid (w.heap.size≠w.heap.size+1+1):=by show _≠_;omega
 have HBS:Hid (Below w.heap.size w (set4 (w9.setCell ⟨w.heap.size,1,none⟩ (.slice A9 n9 c9)) (w.heap.size+1+1) (.slice vA vn vc) (.slice A9 n9 c9) (.slice iA iN ic) (.slice uA un uc))):=qm_ (HB9.out.setCell (Nat.le_refl _) _) (by omega) _ _ _ _
 have HCE:Hid (∀ p:Addr,p.block≠w.heap.size→p.block≠w.heap.size+1+1→(set4 (w9.setCell ⟨w.heap.size,1,none⟩ (.slice A9 n9 c9)) (w.heap.size+1+1) (.slice vA vn vc) (.slice A9 n9 c9) (.slice iA iN ic) (.slice uA un uc)).cell? p=w9.cell? p):=fun p h1 h2=>(qn_ _ _ _ _ _ h2).trans (World.cell?_of_block (Below.heap_setCell _ _ _ _ h1))
 have HQQ:Hid ((set4 (w9.setCell ⟨w.heap.size,1,none⟩ (.slice A9 n9 c9)) (w.heap.size+1+1) (.slice vA vn vc) (.slice A9 n9 c9) (.slice iA iN ic) (.slice uA un uc)).heap[w.heap.size+1+1]?=some (.cells #[.slice vA vn vc,.slice A9 n9 c9,.slice iA iN ic,.slice uA un uc] 36 (0,0))):=qx_ ((Below.heap_setCell _ _ _ _ HNE.out.symm).trans HU2.out) _ _ _ _
 have HF:Hid (DOnR V SR vA vn vc w iA iN ic uA un uc (rlPut b.rules ⟨x.number,x.cut,(dExpand b.vars x.before).2,(dExpand b.vars x.after).2,x.pos⟩) (.returned (.tuple #[.agg #[.slice vA vn vc,.slice A9 n9 c9,.slice iA iN ic,.slice uA un uc],.int .i64 0])) (set4 (w9.setCell ⟨w.heap.size,1,none⟩ (.slice A9 n9 c9)) (w.heap.size+1+1) (.slice vA vn vc) (.slice A9 n9 c9) (.slice iA iN ic) (.slice uA un uc))):=by
  have hsz9:(set4 (w9.setCell ⟨w.heap.size,1,none⟩ (.slice A9 n9 c9)) (w.heap.size+1+1) (.slice vA vn vc) (.slice A9 n9 c9) (.slice iA iN ic) (.slice uA un uc)).heap.size=w9.heap.size:=by rw[qg_];simp
  have e1:=HE6.out
  have e2:=HS7.out
  have e3:=HZ8.out
  have e4:=HS9.out
  have e5:=HVV.out
  refine ⟨A9,n9,c9,rfl,HR9.out.keep (fun i hi=>?_) (fun p hp=>?_),fun h=>absurd h hn90,HBS.out⟩
  ·show (SR i∨i<V)∨(w.heap.size≤i∧i<(set4 (w9.setCell ⟨w.heap.size,1,none⟩ (.slice A9 n9 c9)) (w.heap.size+1+1) (.slice vA vn vc) (.slice A9 n9 c9) (.slice iA iN ic) (.slice uA un uc)).heap.size)
   rw[hsz9]
   rcases hi with (hi|hi)|hi
   ·exact .inl hi
   ·exact .inr ⟨by omega,by omega⟩
   ·exact .inr ⟨by omega,by omega⟩
  ·have hne:p.block≠w.heap.size∧p.block≠w.heap.size+1+1:=by
    rcases hp with ((hp|hp)|hp)|hp
    ·have:=HSR.out _ hp;exact ⟨by omega,by omega⟩
    ·exact ⟨by omega,by omega⟩
    ·exact ⟨by omega,by omega⟩
    ·exact ⟨by omega,by omega⟩
   exact HCE.out p hne.1 hne.2
 clear HR9 HRV HRU HB9 HCE HBS hrn hn9 hn90
 go_wp2_with fail
 change bodyPost _ _ _ _ _ (set4 (w9.setCell ⟨w.heap.size,1,none⟩ (.slice A9 n9 c9)) (w.heap.size+1+1) (.slice vA vn vc) (.slice A9 n9 c9) (.slice iA iN ic) (.slice uA un uc))
 generalize hW9:(set4 (w9.setCell ⟨w.heap.size,1,none⟩ (.slice A9 n9 c9)) (w.heap.size+1+1) (.slice vA vn vc) (.slice A9 n9 c9) (.slice iA iN ic) (.slice uA un uc))=W9 at *
 exact bodyPost_ret (zc_ (a:=4) (u:=5) rfl (Tryz.isAgg36 _) (Tryz.sizeOf36 _) _ rfl HQQ.out) rfl HF.out
end Go.Proofs.YtbbmjdddemahfaaGreat
