/- Part of the proof. -/
import Derived.Test.YtbbmjdddemahfaaGreatSW24
import Derived.Test.YtbbmjdddemahfaaGreatSW39
import Derived.Test.YtbbmjdddemahfaaGreatSW15
import Derived.Test.YtbbmjdddemahfaaGreatSW19
import Derived.Test.YtbbmjdddemahfaaGreatSW04
set_option maxRecDepth 100000
namespace Go.Proofs.YtbbmjdddemahfaaGreat
open Go.RowKit
open M (Rg)

def setO (w:World) (N o:Nat) (a0 a1 a2 a3:Value):World:=(((w.setCell ⟨N,o,none⟩ a0).setCell ⟨N,o+1,none⟩ a1).setCell ⟨N,o+2,none⟩ a2).setCell ⟨N,o+3,none⟩ a3
def setA (cur:Array Value) (o:Nat) (a0 a1 a2 a3:Value):Array Value:=(((cur.setIfInBounds o a0).setIfInBounds (o+1) a1).setIfInBounds (o+2) a2).setIfInBounds (o+3) a3
section
variable {w w' : World}{N o o' : Nat}{a0 a1 a2 a3:Value}{cur:Array Value}{t:TypeId}{S S' : Nat→Prop}{p:Pt}
theorem setO_row (h:w.heap[N]?=some (.cells cur t (0,0))):(setO w N o a0 a1 a2 a3).heap[N]?=some (.cells (setA cur o a0 a1 a2 a3) t (0,0)) :=
 heap_setCell_same _ _ _ _ _ _ (heap_setCell_same _ _ _ _ _ _ (heap_setCell_same _ _ _ _ _ _ (heap_setCell_same _ _ _ _ _ _ h)))
theorem setO_size:(setO w N o a0 a1 a2 a3).heap.size=w.heap.size:=by simp[setO]
theorem setO_fx:Fx (fun b=>b=N) w (setO w N o a0 a1 a2 a3):=(((Fx.setCell (X:=fun b=>b=N) rfl _ _).trans (Fx.setCell (X:=fun b=>b=N) rfl _ _) (fun _ _ h=>h)).trans (Fx.setCell (X:=fun b=>b=N) rfl _ _) (fun _ _ h=>h)).trans (Fx.setCell (X:=fun b=>b=N) rfl _ _) (fun _ _ h=>h)
theorem setA_size:(setA cur o a0 a1 a2 a3).size=cur.size:=by simp[setA]
theorem setA_ne {i:Nat}(h:i<o∨o+3<i):(setA cur o a0 a1 a2 a3)[i]?=cur[i]? := by
 unfold setA
 rw[Array.getElem?_setIfInBounds_ne (by omega),Array.getElem?_setIfInBounds_ne (by omega),Array.getElem?_setIfInBounds_ne (by omega),Array.getElem?_setIfInBounds_ne (by omega)]
theorem qr_ (h:w.heap[N]?=some (.cells cur t (0,0))){i:Nat}{v:Value}(hv:cur[i]?=some v):w.cell? ⟨N,i,none⟩=some v:=by
 rw[cell_of_row _ _ _ _ _ _ h]
 exact hv
def A4 (w:World) (S:Nat→Prop) (cur:Array Value) (o:Nat) (p:Pt):Prop:=∃ (sA:Option Addr) (sn sc:Nat) (gA:Option Addr) (gn gc:Nat) (kA:Option Addr) (kn kc:Nat),cur[o]?=some (.int .i64 p.kind)∧cur[o+1]?=some (.slice sA sn sc)∧cur[o+2]?=some (.slice gA gn gc)∧cur[o+3]?=some (.slice kA kn kc)∧PtIn w S sA sn sc gA gn gc kA kn kc p
def O3 (cur:Array Value) (o:Nat):Prop:=∃ (a:Int) (b:Bool) (c:Int),cur[o]?=some (.int .i64 a)∧cur[o+1]?=some (.bool b)∧cur[o+10]?=some (.int .i64 c)
theorem A4.keep (h:A4 w S cur o p) (hS:∀ b,S b→S' b) (hk:∀ p:Addr,S p.block→w'.cell? p=w.cell? p):A4 w' S' cur o p:=by
 obtain ⟨sA,sn,sc,gA,gn,gc,kA,kn,kc,h0,h1,h2,h3,hp⟩:=h
 exact ⟨sA,sn,sc,gA,gn,gc,kA,kn,kc,h0,h1,h2,h3,hp.keep hS hk⟩
theorem A4.ne (h:A4 w S cur o p) (hd:o+3<o' ∨ o' + 3<o):A4 w S (setA cur o' a0 a1 a2 a3) o p:=by
 obtain ⟨sA,sn,sc,gA,gn,gc,kA,kn,kc,h0,h1,h2,h3,hp⟩:=h
 exact ⟨sA,sn,sc,gA,gn,gc,kA,kn,kc,(setA_ne (by omega)).trans h0,(setA_ne (by omega)).trans h1,(setA_ne (by omega)).trans h2,(setA_ne (by omega)).trans h3,hp⟩
theorem O3.ne (h:O3 cur o) (h1:o+1<o' ∨ o' + 3<o) (h2:o+10<o' ∨ o' + 3<o+10):O3 (setA cur o' a0 a1 a2 a3) o:=by
 obtain ⟨a,b,c,k0,k1,k2⟩:=h
 exact ⟨a,b,c,(setA_ne (by omega)).trans k0,(setA_ne (by omega)).trans k1,(setA_ne (by omega)).trans k2⟩
theorem A4.new (ho:o+3<cur.size){sA gA kA:Option Addr}{sn sc gn gc kn kc:Nat}(hp:PtIn w S sA sn sc gA gn gc kA kn kc p):A4 w S (setA cur o (.int .i64 p.kind) (.slice sA sn sc) (.slice gA gn gc) (.slice kA kn kc)) o p:=by
 refine ⟨sA,sn,sc,gA,gn,gc,kA,kn,kc,?_,?_,?_,?_,hp⟩
 ·unfold setA
  rw[Array.getElem?_setIfInBounds_ne (by omega),Array.getElem?_setIfInBounds_ne (by omega),Array.getElem?_setIfInBounds_ne (by omega),Array.getElem?_setIfInBounds_self_of_lt (by omega)]
 ·unfold setA
  rw[Array.getElem?_setIfInBounds_ne (by omega),Array.getElem?_setIfInBounds_ne (by omega),Array.getElem?_setIfInBounds_self_of_lt (by simp;omega)]
 ·unfold setA
  rw[Array.getElem?_setIfInBounds_ne (by omega),Array.getElem?_setIfInBounds_self_of_lt (by simp;omega)]
 ·unfold setA
  rw[Array.getElem?_setIfInBounds_self_of_lt (by simp;omega)]
end
theorem rule_a4 {w:World}{S S' : Nat→Prop}{cs:List Value}{r:Rl}(h:ruleD.at_ w S cs r) (hS:∀ b,S b→S' b){cur:Array Value}{o:Nat}(hc:∀ j u,cs[j]?=some u→cur[o+j]?=some u):O3 cur o∧A4 w S' cur (o+2) r.before∧A4 w S' cur (o+6) r.after:=by
 obtain ⟨ps,qs,rfl,hp,hq⟩:=h
 obtain ⟨sA,sn,sc,gA,gn,gc,kA,kn,kc,rfl,hp2⟩:=hp.inv
 obtain ⟨sA2,sn2,sc2,gA2,gn2,gc2,kA2,kn2,kc2,rfl,hq2⟩:=hq.inv
 exact ⟨⟨_,_,_,hc 0 _ rfl,hc 1 _ rfl,hc 10 _ rfl⟩,⟨sA,sn,sc,gA,gn,gc,kA,kn,kc,hc 2 _ rfl,hc 3 _ rfl,hc 4 _ rfl,hc 5 _ rfl,hp2.keep hS (fun _ _=>rfl)⟩,⟨sA2,sn2,sc2,gA2,gn2,gc2,kA2,kn2,kc2,hc 6 _ rfl,hc 7 _ rfl,hc 8 _ rfl,hc 9 _ rfl,hq2.keep hS (fun _ _=>rfl)⟩⟩
theorem own_row2 {w:World}{X:Nat→Prop}{e:TypeId}{B:Nat}{A:Option Addr}{c:Nat}{r0 r1:Rl}(h:OwnX ruleD X e w B (.slice A 2 c) [r0,r1]):∃ (N:Nat) (cur:Array Value),A=some ⟨N,0,none⟩∧B≤N∧w.heap[N]?=some (.cells cur e (0,0))∧22≤cur.size∧2≤c∧c≤maxLen∧O3 cur 0∧A4 w X cur 2 r0.before∧A4 w X cur 6 r0.after∧O3 cur 11∧A4 w X cur 13 r1.before∧A4 w X cur 17 r1.after:=by
 obtain ⟨cs,⟨hl,h⟩,hk⟩:=h
 rcases h with ⟨h1,_⟩|⟨g,cap,cur,h1,hB,hg,h3,h4,h5,h6⟩
 ·cases h1
 ·injection h1 with a1 a2 a3
  subst a1 a3
  have hcur:∀ j u,cs[j]?=some u→cur[j]?=some u:=fun j u hu=>by
   rw[← h6,List.getElem?_take] at hu
   split at hu
   ·rw[← Array.getElem?_toList];exact hu
   ·cases hu
  have h11:∀ i j u,((cs.drop (i*11)).take 11)[j]?=some u→cur[i*11+j]?=some u:=fun i j u hu=>by
   rw[List.getElem?_take] at hu
   split at hu
   ·rw[List.getElem?_drop] at hu;exact hcur _ _ hu
   ·cases hu
  obtain ⟨q0,q1,q2⟩:=rule_a4 (S' := X) (cur:=cur) (o:=0*11) (hk 0 r0 rfl) (fun b hb=>hb.2.1) (h11 0)
  obtain ⟨q3,q4,q5⟩:=rule_a4 (S' := X) (cur:=cur) (o:=1*11) (hk 1 r1 rfl) (fun b hb=>hb.2.1) (h11 1)
  refine ⟨g,cur,rfl,hB,hg,?_,h3,h4,q0,q1,q2,q3,q4,q5⟩
  rw[h5]
  show 22≤c*11
  have:2≤c:=h3
  omega
def H10:List (List Rg):=headsOf [0,97,98]
def q98:Pt:=.mk 2 [(98,98)] [] []
def t10A:Pt:=.mk 2 [(97,99)] [1,2] []
def t10B:Pt:=.mk 5 [] [] [.mk 2 [(98,98)] [2] []]
def u10:TSt:=([],[])
def u11:TSt:=toldS H10 u10 p10A
def u12:TSt:=toldS H10 (toldS H10 u11 q98) p10B
def u13:TSt:=toldS H10 u12 p10A
theorem pure_a:toldP H10 u10 p10A []=t10A:=by kernel_rfl
theorem pure_b:toldP H10 (toldS H10 u11 q98) p10B [toldP H10 u11 q98 []]=t10B:=by kernel_rfl
theorem pure_n:(wiS H10 u10 p10A.set).2.length≤1000∧u11.1.length≤10000∧(wiS H10 u11 q98.set).2.length≤1000∧(toldS H10 u11 q98).1.length≤10000∧(wiS H10 (toldS H10 u11 q98) p10B.set).2.length≤1000∧u12.1.length≤10000∧(wiS H10 u12 p10A.set).2.length≤1000∧u13.1.length≤10000∧(wiS H10 u13 p10E.set).2.length≤1000:=by decide +kernel

def Tb (w:World) (N bx m1 m2 m3:Nat) (wx:World) (b:Nat):Prop:=w.heap.size+2≤b∧b<wx.heap.size∧b≠N∧¬ TW bx m1 m2 m3 b
structure BkB (w:World) (N bx m1 m2 m3:Nat) (o0 o1:Obj) (st:TSt) (g:Bool) (kb:Int) (cur:Array Value) (k:Int) (wx:World):Prop where
 row:wx.heap[N]?=some (.cells cur 49 (0,0))
 size:22≤cur.size
 tel:Tel bx m1 m2 m3 (fun b=>b=N) H10 st.1 st.2 g k wx
 kk:0≤k∧k≤kb
 bel:Below w.heap.size w wx
 book:wx.heap[w.heap.size]?=some o0
 res:wx.heap[w.heap.size+1]?=some o1
 lo:w.heap.size+2≤bx∧w.heap.size+2≤m1∧w.heap.size+2≤m2∧w.heap.size+2≤m3∧w.heap.size+2≤N
 ntw:¬ TW bx m1 m2 m3 N
section
variable {w:World}{N bx m1 m2 m3:Nat}{o0 o1:Obj}{st st' : TSt}{g g' : Bool}{kb kb' : Int}{cur:Array Value}{k k' : Int}{wx wy:World}
theorem BkB.tw (h:BkB w N bx m1 m2 m3 o0 o1 st g kb cur k wx){b:Nat}(hb:TW bx m1 m2 m3 b):w.heap.size+2≤b∧b<wx.heap.size:=by
 obtain ⟨l0,l1,l2,l3,l4⟩:=h.lo
 obtain ⟨t0,t1,t2,t3⟩:=h.tel.lt
 rcases hb with e|e|e|e <;> omega
theorem BkB.nlt (h:BkB w N bx m1 m2 m3 o0 o1 st g kb cur k wx):N<wx.heap.size:=qq_ h.row
theorem BkB.on (h:BkB w N bx m1 m2 m3 o0 o1 st g kb cur k wx) (hb:Below wx.heap.size wx wy):BkB w N bx m1 m2 m3 o0 o1 st g kb cur k wy :=
 ⟨(hb.block _ h.nlt).trans h.row,h.size,h.tel.on hb,h.kk,h.bel.trans (hb.mono h.bel.size),(hb.block _ (qq_ h.book)).trans h.book,(hb.block _ (qq_ h.res)).trans h.res,h.lo,h.ntw⟩
theorem BkB.tell (h:BkB w N bx m1 m2 m3 o0 o1 st g kb cur k wx) (ht:Tel bx m1 m2 m3 (fun b=>b=N) H10 st'.1 st'.2 g' k' wy) (hf:Fx (TW bx m1 m2 m3) wx wy) (hk:0≤k' ∧ k' ≤ kb'):BkB w N bx m1 m2 m3 o0 o1 st' g' kb' cur k' wy :=
 ⟨(hf.block _ h.nlt h.ntw).trans h.row,h.size,ht,hk,⟨hf.os.trans h.bel.os,hf.tape.trans h.bel.tape,hf.output.trans h.bel.output,Nat.le_trans h.bel.size hf.size,fun i hi=>(hf.block i (Nat.lt_of_lt_of_le hi h.bel.size) (fun e=>by have:=h.tw e;omega)).trans (h.bel.block i hi)⟩,(hf.block _ (qq_ h.book) (fun e=>by have:=h.tw e;omega)).trans h.book,(hf.block _ (qq_ h.res) (fun e=>by have:=h.tw e;omega)).trans h.res,h.lo,h.ntw⟩
theorem BkB.put (h:BkB w N bx m1 m2 m3 o0 o1 st g kb cur k wx) (o:Nat) (a0 a1 a2 a3:Value):BkB w N bx m1 m2 m3 o0 o1 st g kb (setA cur o a0 a1 a2 a3) k (setO wx N o a0 a1 a2 a3):=by
 have hf:Fx (fun b=>b=N) wx (setO wx N o a0 a1 a2 a3):=setO_fx
 obtain ⟨l0,l1,l2,l3,l4⟩:=h.lo
 exact ⟨setO_row h.row,by rw[setA_size];exact h.size,h.tel.other hf (fun b e=>⟨e,fun e2=>h.ntw (e ▸ e2)⟩),h.kk,⟨hf.os.trans h.bel.os,hf.tape.trans h.bel.tape,hf.output.trans h.bel.output,Nat.le_trans h.bel.size hf.size,fun i hi=>(hf.block i (Nat.lt_of_lt_of_le hi h.bel.size) (by omega)).trans (h.bel.block i hi)⟩,(hf.block _ (qq_ h.book) (by omega)).trans h.book,(hf.block _ (qq_ h.res) (by omega)).trans h.res,h.lo,h.ntw⟩
theorem BkB.arg (h:BkB w N bx m1 m2 m3 o0 o1 st g kb cur k wx){S:Nat→Prop}(hS:∀ b,S b→b<w.heap.size){sA gA kA:Option Addr}{sn sc gn gc kn kc:Nat}{p:Pt}(hp:PtIn w S sA sn sc gA gn gc kA kn kc p):PtIn wx S sA sn sc gA gn gc kA kn kc p:=hp.keep (fun _ h=>h) (fun p hp=>h.bel.cell (hS _ hp))
theorem BkB.ars (h:BkB w N bx m1 m2 m3 o0 o1 st g kb cur k wx){S:Nat→Prop}(hS:∀ b,S b→b<w.heap.size):∀ b,S b→b<wx.heap.size∧¬ TW bx m1 m2 m3 b:=fun b hb=>⟨Nat.lt_of_lt_of_le (hS b hb) h.bel.size,fun e=>by have:=h.tw e;have:=hS b hb;omega⟩
theorem BkB.ee (h:BkB w N bx m1 m2 m3 o0 o1 st g kb cur k wx):∀ b,b=N→b<wx.heap.size:=fun b e=>e ▸ h.nlt
theorem BkB.new (h:BkB w N bx m1 m2 m3 o0 o1 st g kb cur k wx){sA gA kA:Option Addr}{sn sc gn gc kn kc:Nat}{p:Pt}(hp:PtIn wy (fun b=>wx.heap.size≤b∧b<wy.heap.size) sA sn sc gA gn gc kA kn kc p):PtIn wy (Tb w N bx m1 m2 m3 wy) sA sn sc gA gn gc kA kn kc p:=hp.keep (fun b hb=>⟨(by have h1:=qq_ h.res;have h2:=hb.1;omega),hb.2,(by have h1:=h.nlt;have h2:=hb.1;omega),(fun e=>by have h1:=h.tw e;have h2:=hb.1;omega)⟩) (fun _ _=>rfl)
theorem tb_fx (hf:Fx (TW bx m1 m2 m3) wx wy):(∀ b,Tb w N bx m1 m2 m3 wx b→Tb w N bx m1 m2 m3 wy b)∧∀ p:Addr,Tb w N bx m1 m2 m3 wx p.block→wy.cell? p=wx.cell? p:=⟨fun b h=>⟨h.1,Nat.lt_of_lt_of_le h.2.1 hf.size,h.2.2⟩,fun p h=>hf.cell h.2.1 h.2.2.2⟩
theorem tb_on (hf:Below wx.heap.size wx wy):(∀ b,Tb w N bx m1 m2 m3 wx b→Tb w N bx m1 m2 m3 wy b)∧∀ p:Addr,Tb w N bx m1 m2 m3 wx p.block→wy.cell? p=wx.cell? p:=⟨fun b h=>⟨h.1,Nat.lt_of_lt_of_le h.2.1 hf.size,h.2.2⟩,fun p h=>hf.cell h.2.1⟩
theorem tb_put {o:Nat}{a0 a1 a2 a3:Value}:(∀ b,Tb w N bx m1 m2 m3 wx b→Tb w N bx m1 m2 m3 (setO wx N o a0 a1 a2 a3) b)∧∀ p:Addr,Tb w N bx m1 m2 m3 wx p.block→(setO wx N o a0 a1 a2 a3).cell? p=wx.cell? p:=by
 have hf:Fx (fun b=>b=N) wx (setO wx N o a0 a1 a2 a3):=setO_fx
 exact ⟨fun b h=>⟨h.1,Nat.lt_of_lt_of_le h.2.1 hf.size,h.2.2⟩,fun p h=>hf.cell h.2.1 h.2.2.1⟩
end
theorem clone_allow0 {w:World}:Calls Tryz.prog 30 #[.slice none 0 0] w (fun en w' => en=.returned (.slice none 0 0)∧w=w'):=by
 have q0:=qs_ (P:=Tryz.prog) w 33 79 none 0 0 Tryz.underlying33
 go_enter Tryz.func30,Tryz.ntmps30
 go_wp2_with fail
 go_ret
 exact ⟨rfl,rfl⟩

def BkP (w:World) (en:Ending) (w' : World):Prop:=∃ (vA:Option Addr) (vn vc N rc:Nat) (uA:Option Addr) (un uc:Nat) (cur:Array Value),en=.returned (.agg #[.slice vA vn vc,.slice (some ⟨N,0,none⟩) 2 rc,.slice none 0 0,.slice uA un uc])∧w.heap.size≤N∧w'.heap[N]?=some (.cells cur 49 (0,0))∧22≤cur.size∧2≤rc∧rc≤maxLen∧A4 w' (fun b=>w.heap.size≤b∧b<w'.heap.size) cur 2 t10A∧A4 w' (fun b=>w.heap.size≤b∧b<w'.heap.size) cur 6 t10B∧Below w.heap.size w w'
theorem bk_keep {w w6:World}{N bx m1 m2 m3:Nat}{cur:Array Value}{o:Nat}{p:Pt}{a0 a1 a2 a3:Value}(h:A4 w6 (Tb w N bx m1 m2 m3 w6) cur o p):A4 (set4 w6 (w.heap.size+1) a0 a1 a2 a3) (fun b=>w.heap.size≤b∧b<(set4 w6 (w.heap.size+1) a0 a1 a2 a3).heap.size) cur o p :=
 h.keep (fun b hb=>⟨by have h1:=hb.1;omega,by rw[qg_];exact hb.2.1⟩) (fun p hp=>qn_ _ _ _ _ _ (by have h1:=hp.1;omega))
set_option maxHeartbeats 32000000 in
theorem book_any {w:World}{S:Nat→Prop}(hS:∀ b,S b→b<w.heap.size){A:Option Addr}{n c:Nat}{gs:List Given}(hg:RdS w w.heap.size A n c gs) (hs:gs.length≤100) (hf:firstsF (listsOf gs)=[0,97,98]){vA rA uA:Option Addr}{vn vc rc0 un uc:Nat}{us:List ByteArray}(hv:RdG varD w S vA vn vc [v10]) (hr:RdG ruleD w S rA 2 rc0 [r10a,r10b]) (hu:RdG strD w S uA un uc us) (hun:un≤1000) :
  Calls Tryz.prog 13 #[.agg #[.slice vA vn vc,.slice rA 2 rc0,.slice none 0 0,.slice uA un uc],.slice A n c] w (BkP w):=by
 obtain ⟨hz,r0,r1,hb⟩:=rows2 w (.cells #[.slice vA vn vc,.slice rA 2 rc0,.slice none 0 0,.slice uA un uc] 36) (.cells #[.slice none 0 0,.slice none 0 0,.slice none 0 0,.slice none 0 0] 36)
 have HZ:=hd_ hz
 have HB1:=hd_ hb
 have HBY:Hid (Calls Tryz.prog 26 #[.slice A n c] ((w.alloc (.cells #[.slice vA vn vc,.slice rA 2 rc0,.slice none 0 0,.slice uA un uc] 36)).alloc (.cells #[.slice none 0 0,.slice none 0 0,.slice none 0 0,.slice none 0 0] 36)) (ByP ((w.alloc (.cells #[.slice vA vn vc,.slice rA 2 rc0,.slice none 0 0,.slice uA un uc] 36)).alloc (.cells #[.slice none 0 0,.slice none 0 0,.slice none 0 0,.slice none 0 0] 36)) H10)):=by
  have h:=by_any (w:=((w.alloc (.cells #[.slice vA vn vc,.slice rA 2 rc0,.slice none 0 0,.slice uA un uc] 36)).alloc (.cells #[.slice none 0 0,.slice none 0 0,.slice none 0 0,.slice none 0 0] 36))) (hg.on hb) hs
  rw[hf] at h
  exact h
 have R0:=hd_ r0
 have R1:=hd_ r1
 have HSS:=hd_ hS
 have HV:=hd_ hv
 have HU:=hd_ hu
 have HRR:=hd_ hr
 have HVN:Hid (vn≤1000000):=by
  have h1:([v10]:List Vr).length=vn:=hv.len
  have h2:([v10]:List Vr).length=1:=rfl
  show vn≤1000000
  omega
 have HUN:Hid (un≤1000000):=Nat.le_trans hun (by decide)
 obtain ⟨pn1,pn2,pn3,pn4,pn5,pn6,pn7,pn8,pn9⟩:=pure_n
 have PN1:=hd_ pn1
 have PN2:=hd_ pn2
 have PN3:=hd_ pn3
 have PN4:=hd_ pn4
 have PN5:=hd_ pn5
 have PN6:=hd_ pn6
 have PN7:=hd_ pn7
 have PN8:=hd_ pn8
 have PN9:=hd_ pn9
 clear hS hg hv hr hu hz hb r0 r1 hs hf pn1 pn2 pn3 pn4 pn5 pn6 pn7 pn8 pn9 hun
 go_enter Tryz.func13,Tryz.ntmps13
 go_upto_region 1 with fail
 generalize hW1:((w.alloc (.cells #[.slice vA vn vc,.slice rA 2 rc0,.slice none 0 0,.slice uA un uc] 36)).alloc (.cells #[.slice none 0 0,.slice none 0 0,.slice none 0 0,.slice none 0 0] 36))=w1 at *
 clear hW1
 go_wp2_with fail
 refine HBY.out.mono ?_
 rintro en w2 ⟨bx,m1,m2,m3,rfl,b0,b1,b2,b3,ht,hb2⟩
 have HLO:Hid (w.heap.size+2≤bx∧w.heap.size+2≤m1∧w.heap.size+2≤m2∧w.heap.size+2≤m3):=by rw[← HZ.out];exact ⟨b0,b1,b2,b3⟩
 have HB2:=hd_ (HB1.out.trans (hb2.mono HB1.out.size))
 have HZ2:Hid (w.heap.size+2≤w2.heap.size):=by rw[← HZ.out];exact hb2.size
 have R02:=hd_ ((hb2.block w.heap.size (by rw[HZ.out];omega)).trans R0.out)
 have R12:=hd_ ((hb2.block (w.heap.size+1) (by rw[HZ.out];omega)).trans R1.out)
 have HT2:=hd_ ht
 obtain ⟨s0,s1,s2,s3⟩:=qj_ R02.out
 have HCR:Hid (Calls Tryz.prog 27 #[.slice rA 2 rc0] w2 (fun en w' => ∃ A c,en=.returned (.slice A 2 c)∧OwnX ruleD S 49 w' w2.heap.size (.slice A 2 c) [r10a,r10b]∧Below w2.heap.size w2 w')):=clone_rule (fun b hb=>Nat.lt_of_lt_of_le (HSS.out b hb) HB2.out.size) (HRR.out.keep (fun _ h=>h) (fun p hp=>HB2.out.cell (HSS.out _ hp))) (by decide)
 clear b0 b1 b2 b3 ht hb2 HBY R0 R1
 go_wp2_with fail
 refine HCR.out.mono ?_
 rintro en w3 ⟨A3,rc,rfl,ho,hb3⟩
 obtain ⟨N,cur0,rfl,hN,hrow,hsz,h2c,hcm,o0,a0,a1,o1,a2,a3⟩:=own_row2 ho
 have HRC:Hid (2≤rc∧rc≤maxLen):=⟨h2c,hcm⟩
 have hNT:¬ TW bx m1 m2 m3 N:=fun e=>by
  obtain ⟨t0,t1,t2,t3⟩:=HT2.out.lt
  rcases e with e|e|e|e <;> omega
 have HB3:=hd_ (HB2.out.trans (hb3.mono HB2.out.size))
 have HBK:Hid (BkB w N bx m1 m2 m3 (.cells #[.slice vA vn vc,.slice rA 2 rc0,.slice none 0 0,.slice uA un uc] 36 (0,0)) (.cells #[.slice none 0 0,.slice none 0 0,.slice none 0 0,.slice none 0 0] 36 (0,0)) u10 true 0 cur0 0 w3):=⟨hrow,hsz,(HT2.out.more (F:=fun b=>b=N) (fun b hb e=>by omega)).on hb3,⟨Int.le_refl _,Int.le_refl _⟩,HB3.out,(hb3.block _ (by have h1:=HZ2.out;omega)).trans R02.out,(hb3.block _ (by have h1:=HZ2.out;omega)).trans R12.out,⟨HLO.out.1,HLO.out.2.1,HLO.out.2.2.1,HLO.out.2.2.2,by have h1:=HZ2.out;omega⟩,hNT⟩
 have HST:Hid (∃ (cur:Array Value) (k:Int),Hid (BkB w N bx m1 m2 m3 (.cells #[.slice vA vn vc,.slice rA 2 rc0,.slice none 0 0,.slice uA un uc] 36 (0,0)) (.cells #[.slice none 0 0,.slice none 0 0,.slice none 0 0,.slice none 0 0] 36 (0,0)) u10 true 0 cur k w3)∧Hid (O3 cur 0)∧Hid (A4 w S cur 2 p10A)∧Hid (A4 w S cur 6 p10B)∧Hid (O3 cur 11)∧Hid (A4 w S cur 13 p10A)∧Hid (A4 w S cur 17 p10E)):=⟨cur0,0,HBK.out,o0,a0.keep (fun _ h=>h) (fun p hp=>(HB3.out.cell (HSS.out _ hp)).symm),a1.keep (fun _ h=>h) (fun p hp=>(HB3.out.cell (HSS.out _ hp)).symm),o1,a2.keep (fun _ h=>h) (fun p hp=>(HB3.out.cell (HSS.out _ hp)).symm),a3.keep (fun _ h=>h) (fun p hp=>(HB3.out.cell (HSS.out _ hp)).symm)⟩
 clear ho hb3 hrow hsz o0 a0 a1 o1 a2 a3 HBK HB3 HB2 HT2 R02 R12 HCR HB1 s0 s1 s2 s3 HRR hNT hN h2c hcm HLO HZ2 HZ
 go_wp2_with fail
 go_loopw [16] (fun iv wx=>(iv=.int .i64 0∧∃ (cur:Array Value) (k:Int),Hid (BkB w N bx m1 m2 m3 (.cells #[.slice vA vn vc,.slice rA 2 rc0,.slice none 0 0,.slice uA un uc] 36 (0,0)) (.cells #[.slice none 0 0,.slice none 0 0,.slice none 0 0,.slice none 0 0] 36 (0,0)) u10 true 0 cur k wx)∧Hid (O3 cur 0)∧Hid (A4 w S cur 2 p10A)∧Hid (A4 w S cur 6 p10B)∧Hid (O3 cur 11)∧Hid (A4 w S cur 13 p10A)∧Hid (A4 w S cur 17 p10E))∨(iv=.int .i64 1∧∃ (st:TSt) (cur:Array Value) (k:Int),Hid (st.1.length≤10000)∧Hid ((wiS H10 st p10A.set).2.length≤1000)∧Hid ((toldS H10 st p10A).1.length≤10000)∧Hid ((wiS H10 (toldS H10 st p10A) p10E.set).2.length≤1000)∧Hid (BkB w N bx m1 m2 m3 (.cells #[.slice vA vn vc,.slice rA 2 rc0,.slice none 0 0,.slice uA un uc] 36 (0,0)) (.cells #[.slice none 0 0,.slice none 0 0,.slice none 0 0,.slice none 0 0] 36 (0,0)) st false 20 cur k wx)∧Hid (A4 wx (Tb w N bx m1 m2 m3 wx) cur 2 t10A)∧Hid (A4 wx (Tb w N bx m1 m2 m3 wx) cur 6 t10B)∧Hid (O3 cur 11)∧Hid (A4 w S cur 13 p10A)∧Hid (A4 w S cur 17 p10E))∨(iv=.int .i64 2∧∃ (st:TSt) (cur:Array Value) (k:Int),Hid (BkB w N bx m1 m2 m3 (.cells #[.slice vA vn vc,.slice rA 2 rc0,.slice none 0 0,.slice uA un uc] 36 (0,0)) (.cells #[.slice none 0 0,.slice none 0 0,.slice none 0 0,.slice none 0 0] 36 (0,0)) st false 40 cur k wx)∧Hid (A4 wx (Tb w N bx m1 m2 m3 wx) cur 2 t10A)∧Hid (A4 wx (Tb w N bx m1 m2 m3 wx) cur 6 t10B))) (fun iv _=>2 - (intOf iv).toNat)
 case atStart=>exact .inl ⟨rfl,HST.out⟩
 case round =>
  clear HST
  rcases hrel with ⟨rfl,cur,k,HB,HO,HA,HC,HO1,HA1,HC1⟩|⟨rfl,st,cur,k,PM1,PM2,PM3,PM4,HB,HT2,HT6,HO,HA,HC⟩|⟨rfl,st,cur,k,HB,HT2,HT6⟩
  ·obtain ⟨a9,b9,c9,e0,e1,e10⟩:=HO.out
   obtain ⟨sA,sn,sc,gA,gn,gc,kA,kn,kc,e2,e3,e4,e5,hpb⟩:=HA.out
   obtain ⟨tA,tn,tc,hA,hn,hc,lA,ln,lc,e6,e7,e8,e9,hpa⟩:=HC.out
   have HPB:=hd_ hpb
   have HPA:=hd_ hpa
   have HKK:=hd_ HB.out.kk
   have HCS:=hd_ HB.out.size
   clear hpb hpa
   have f0:wr.cell? ⟨N,0,none⟩=some (.int .i64 a9):=qr_ HB.out.row e0
   have f1:wr.cell? ⟨N,1,none⟩=some (.bool b9):=qr_ HB.out.row e1
   have f2:wr.cell? ⟨N,2,none⟩=some (.int .i64 p10A.kind):=qr_ HB.out.row e2
   have f3:wr.cell? ⟨N,3,none⟩=some (.slice sA sn sc):=qr_ HB.out.row e3
   have f4:wr.cell? ⟨N,4,none⟩=some (.slice gA gn gc):=qr_ HB.out.row e4
   have f5:wr.cell? ⟨N,5,none⟩=some (.slice kA kn kc):=qr_ HB.out.row e5
   have f6:wr.cell? ⟨N,6,none⟩=some (.int .i64 p10B.kind):=qr_ HB.out.row e6
   have f7:wr.cell? ⟨N,7,none⟩=some (.slice tA tn tc):=qr_ HB.out.row e7
   have f8:wr.cell? ⟨N,8,none⟩=some (.slice hA hn hc):=qr_ HB.out.row e8
   have f9:wr.cell? ⟨N,9,none⟩=some (.slice lA ln lc):=qr_ HB.out.row e9
   have f10:wr.cell? ⟨N,10,none⟩=some (.int .i64 c9):=qr_ HB.out.row e10
   have G9:Hid (∀ (W' : World),W'.heap[N]?=some (.cells cur 49 (0,0))→W'.cell? ⟨N,2,none⟩=some (.int .i64 p10A.kind)∧W'.cell? ⟨N,3,none⟩=some (.slice sA sn sc)∧W'.cell? ⟨N,4,none⟩=some (.slice gA gn gc)∧W'.cell? ⟨N,5,none⟩=some (.slice kA kn kc)∧W'.cell? ⟨N,6,none⟩=some (.int .i64 p10B.kind)∧W'.cell? ⟨N,7,none⟩=some (.slice tA tn tc)∧W'.cell? ⟨N,8,none⟩=some (.slice hA hn hc)∧W'.cell? ⟨N,9,none⟩=some (.slice lA ln lc)):=fun W' h=>⟨qr_ h e2,qr_ h e3,qr_ h e4,qr_ h e5,qr_ h e6,qr_ h e7,qr_ h e8,qr_ h e9⟩
   have frn:=qv_ HB.out.row
   have QB9:=hd_ (qa_ wr (.cells #[.int .i64 a9,.bool b9,.int .i64 p10A.kind,.slice sA sn sc,.slice gA gn gc,.slice kA kn kc,.int .i64 p10B.kind,.slice tA tn tc,.slice hA hn hc,.slice lA ln lc,.int .i64 c9] 49))
   have HR3:=hd_ (heap_alloc_new wr (.cells #[.int .i64 a9,.bool b9,.int .i64 p10A.kind,.slice sA sn sc,.slice gA gn gc,.slice kA kn kc,.int .i64 p10B.kind,.slice tA tn tc,.slice hA hn hc,.slice lA ln lc,.int .i64 c9] 49))
   have HB3:Hid (BkB w N bx m1 m2 m3 (.cells #[.slice vA vn vc,.slice rA 2 rc0,.slice none 0 0,.slice uA un uc] 36 (0,0)) (.cells #[.slice none 0 0,.slice none 0 0,.slice none 0 0,.slice none 0 0] 36 (0,0)) u10 true 0 cur k (wr.alloc (.cells #[.int .i64 a9,.bool b9,.int .i64 p10A.kind,.slice sA sn sc,.slice gA gn gc,.slice kA kn kc,.int .i64 p10B.kind,.slice tA tn tc,.slice hA hn hc,.slice lA ln lc,.int .i64 c9] 49)).drew):=HB.out.on (qb_ QB9.out 1)
   have HQT:Hid (∀ b,TW bx m1 m2 m3 b→b<wr.heap.size):=fun b e=>(HB.out.tw e).2
   have HNQ:Hid (N<wr.heap.size):=HB.out.nlt
   have HQW:Hid (wr.heap.size<(wr.alloc (.cells #[.int .i64 a9,.bool b9,.int .i64 p10A.kind,.slice sA sn sc,.slice gA gn gc,.slice kA kn kc,.int .i64 p10B.kind,.slice tA tn tc,.slice hA hn hc,.slice lA ln lc,.int .i64 c9] 49)).heap.size):=by
    show wr.heap.size<(wr.alloc (.cells #[.int .i64 a9,.bool b9,.int .i64 p10A.kind,.slice sA sn sc,.slice gA gn gc,.slice kA kn kc,.int .i64 p10B.kind,.slice tA tn tc,.slice hA hn hc,.slice lA ln lc,.int .i64 c9] 49)).heap.size
    simp
   go_upto_region 6 with fail
   generalize hW3:(wr.alloc (.cells #[.int .i64 a9,.bool b9,.int .i64 p10A.kind,.slice sA sn sc,.slice gA gn gc,.slice kA kn kc,.int .i64 p10B.kind,.slice tA tn tc,.slice hA hn hc,.slice lA ln lc,.int .i64 c9] 49))=w3 at *
   clear hW3 QB9
   generalize hQ:wr.heap.size=Q at *
   clear hQ f0 f1 f2 f3 f4 f5 f6 f7 f8 f9 f10 frn HB HO HA HC e0 e1 e2 e3 e4 e5 e6 e7 e8 e9 e10
   have RS:Hid (∀ W' : World,W'.heap[Q]?=some (.cells #[.int .i64 a9,.bool b9,.int .i64 p10A.kind,.slice sA sn sc,.slice gA gn gc,.slice kA kn kc,.int .i64 p10B.kind,.slice tA tn tc,.slice hA hn hc,.slice lA ln lc,.int .i64 c9] 49 (0,0))→W'.cell? ⟨Q,2,none⟩=some (.int .i64 p10A.kind)∧W'.cell? ⟨Q,3,none⟩=some (.slice sA sn sc)∧W'.cell? ⟨Q,4,none⟩=some (.slice gA gn gc)∧W'.cell? ⟨Q,5,none⟩=some (.slice kA kn kc)∧W'.cell? ⟨Q,6,none⟩=some (.int .i64 p10B.kind)∧W'.cell? ⟨Q,7,none⟩=some (.slice tA tn tc)∧W'.cell? ⟨Q,8,none⟩=some (.slice hA hn hc)∧W'.cell? ⟨Q,9,none⟩=some (.slice lA ln lc)):=fun W' h=>⟨qr_ h rfl,qr_ h rfl,qr_ h rfl,qr_ h rfl,qr_ h rfl,qr_ h rfl,qr_ h rfl,qr_ h rfl⟩
   have R3:Hid (w3.drew.heap[Q]?=some (.cells #[.int .i64 a9,.bool b9,.int .i64 p10A.kind,.slice sA sn sc,.slice gA gn gc,.slice kA kn kc,.int .i64 p10B.kind,.slice tA tn tc,.slice hA hn hc,.slice lA ln lc,.int .i64 c9] 49 (0,0))):=HR3.out
   have CT1:Hid (Calls Tryz.prog 28 #[.pointer (some ⟨bx,0,none⟩),.agg #[.int .i64 p10A.kind,.slice sA sn sc,.slice gA gn gc,.slice kA kn kc]] w3.drew (TlP 10 bx m1 m2 m3 (fun b=>b=N) H10 u11 true t10A w3.drew)):=by
    rw[← pure_a]
    exact tell_leaf (kb:=10) (S:=S) HB3.out.tel HB3.out.ee ⟨HB3.out.kk.1,(by have h1:=HKK.out;omega),(by omega)⟩ (by decide) (HB3.out.ars HSS.out) (HB3.out.arg HSS.out HPB.out) rfl (by decide) (by decide) PN1.out
   go_region_held_law (fun w' => w'.cell? ⟨Q,2,none⟩=some (.int .i64 p10A.kind)∧w'.cell? ⟨Q,3,none⟩=some (.slice sA sn sc)∧w'.cell? ⟨Q,4,none⟩=some (.slice gA gn gc)∧w'.cell? ⟨Q,5,none⟩=some (.slice kA kn kc)∧w'.cell? ⟨Q,6,none⟩=some (.int .i64 p10B.kind)∧w'.cell? ⟨Q,7,none⟩=some (.slice tA tn tc)∧w'.cell? ⟨Q,8,none⟩=some (.slice hA hn hc)∧w'.cell? ⟨Q,9,none⟩=some (.slice lA ln lc)) (first|with_reducible exact RS.out _ R3.out|with_reducible exact RS.out _ R4.out|with_reducible exact RS.out _ R5.out|with_reducible exact RS.out _ R6.out|with_reducible exact RS.out _ R7.out) (first
    | (go_at_call 28;(with_reducible refine CT1.out.mono ?_);rintro en w4 ⟨cA,cn,cc,qA,qn,qc,eA,en9,ec,k9,rfl,hp4,ht4,hk4,hf4⟩;have HB4:Hid (BkB w N bx m1 m2 m3 (.cells #[.slice vA vn vc,.slice rA 2 rc0,.slice none 0 0,.slice uA un uc] 36 (0,0)) (.cells #[.slice none 0 0,.slice none 0 0,.slice none 0 0,.slice none 0 0] 36 (0,0)) u11 true 10 cur k9 w4):=HB3.out.tell ht4 hf4 hk4;have HP4:=hd_ (HB3.out.new hp4);have R4:=hd_ ((hf4.block Q HQW.out (fun e=>Nat.lt_irrefl _ (HQT.out _ e))).trans R3.out);have HQ4:Hid (Q<w4.heap.size):=Nat.lt_of_lt_of_le HQW.out hf4.size;clear hp4 ht4 hk4 hf4)
    | (go_at_call 28;have CT2:Hid (Calls Tryz.prog 28 #[.pointer (some ⟨bx,0,none⟩),.agg #[.int .i64 p10B.kind,.slice tA tn tc,.slice hA hn hc,.slice lA ln lc]] w4 (TlP 20 bx m1 m2 m3 (fun b=>b=N) H10 u12 false t10B w4)):=(by rw[← pure_b];exact tell_star (kb:=20) (S:=S) (y:=q98) HB4.out.tel HB4.out.ee ⟨HB4.out.kk.1,(by have h1:=HB4.out.kk;omega),(by omega)⟩ (by decide) (HB4.out.ars HSS.out) (HB4.out.arg HSS.out HPA.out) rfl rfl (by decide) (by decide) PN2.out PN3.out PN4.out PN5.out);(with_reducible refine CT2.out.mono ?_);rintro en w5 ⟨dA,dn,dc,xA,xn,xc,yA,yn,yc,k10,rfl,hp5,ht5,hk5,hf5⟩;have HB5:Hid (BkB w N bx m1 m2 m3 (.cells #[.slice vA vn vc,.slice rA 2 rc0,.slice none 0 0,.slice uA un uc] 36 (0,0)) (.cells #[.slice none 0 0,.slice none 0 0,.slice none 0 0,.slice none 0 0] 36 (0,0)) u12 false 20 cur k10 w5):=HB4.out.tell ht5 hf5 hk5;have HP5:=hd_ (HB4.out.new hp5);have HP45:=hd_ (HP4.out.keep (tb_fx hf5).1 (tb_fx hf5).2);have R5:=hd_ ((hf5.block Q HQ4.out (fun e=>Nat.lt_irrefl _ (HQT.out _ e))).trans R4.out);have HQ5:Hid (Q<w5.heap.size):=Nat.lt_of_lt_of_le HQ4.out hf5.size;obtain ⟨g2,g3,g4,g5,g6,g7,g8,g9⟩:=G9.out w5 HB5.out.row;have fr5:=qv_ HB5.out.row;have HB7:Hid (BkB w N bx m1 m2 m3 (.cells #[.slice vA vn vc,.slice rA 2 rc0,.slice none 0 0,.slice uA un uc] 36 (0,0)) (.cells #[.slice none 0 0,.slice none 0 0,.slice none 0 0,.slice none 0 0] 36 (0,0)) u12 false 20 (setA (setA cur 2 (.int .i64 t10A.kind) (.slice cA cn cc) (.slice qA qn qc) (.slice eA en9 ec)) 6 (.int .i64 t10B.kind) (.slice dA dn dc) (.slice xA xn xc) (.slice yA yn yc)) k10 (setO (setO w5 N 2 (.int .i64 t10A.kind) (.slice cA cn cc) (.slice qA qn qc) (.slice eA en9 ec)) N 6 (.int .i64 t10B.kind) (.slice dA dn dc) (.slice xA xn xc) (.slice yA yn yc))):=(HB5.out.put 2 _ _ _ _).put 6 _ _ _ _;have R6:Hid (((((w5.setCell ⟨N,2,none⟩ (.int .i64 t10A.kind)).setCell ⟨N,3,none⟩ (.slice cA cn cc)).setCell ⟨N,4,none⟩ (.slice qA qn qc)).setCell ⟨N,5,none⟩ (.slice eA en9 ec)).heap[Q]?=some (.cells #[.int .i64 a9,.bool b9,.int .i64 p10A.kind,.slice sA sn sc,.slice gA gn gc,.slice kA kn kc,.int .i64 p10B.kind,.slice tA tn tc,.slice hA hn hc,.slice lA ln lc,.int .i64 c9] 49 (0,0))):=(show (setO w5 N 2 (.int .i64 t10A.kind) (.slice cA cn cc) (.slice qA qn qc) (.slice eA en9 ec)).heap[Q]?=some (.cells #[.int .i64 a9,.bool b9,.int .i64 p10A.kind,.slice sA sn sc,.slice gA gn gc,.slice kA kn kc,.int .i64 p10B.kind,.slice tA tn tc,.slice hA hn hc,.slice lA ln lc,.int .i64 c9] 49 (0,0)) from (setO_fx.block Q HQ5.out (by have h1:=HNQ.out;omega)).trans R5.out);have R7:Hid (((((((((w5.setCell ⟨N,2,none⟩ (.int .i64 t10A.kind)).setCell ⟨N,3,none⟩ (.slice cA cn cc)).setCell ⟨N,4,none⟩ (.slice qA qn qc)).setCell ⟨N,5,none⟩ (.slice eA en9 ec)).setCell ⟨N,6,none⟩ (.int .i64 t10B.kind)).setCell ⟨N,7,none⟩ (.slice dA dn dc)).setCell ⟨N,8,none⟩ (.slice xA xn xc)).setCell ⟨N,9,none⟩ (.slice yA yn yc)).heap[Q]?=some (.cells #[.int .i64 a9,.bool b9,.int .i64 p10A.kind,.slice sA sn sc,.slice gA gn gc,.slice kA kn kc,.int .i64 p10B.kind,.slice tA tn tc,.slice hA hn hc,.slice lA ln lc,.int .i64 c9] 49 (0,0))):=(show (setO (setO w5 N 2 (.int .i64 t10A.kind) (.slice cA cn cc) (.slice qA qn qc) (.slice eA en9 ec)) N 6 (.int .i64 t10B.kind) (.slice dA dn dc) (.slice xA xn xc) (.slice yA yn yc)).heap[Q]?=some (.cells #[.int .i64 a9,.bool b9,.int .i64 p10A.kind,.slice sA sn sc,.slice gA gn gc,.slice kA kn kc,.int .i64 p10B.kind,.slice tA tn tc,.slice hA hn hc,.slice lA ln lc,.int .i64 c9] 49 (0,0)) from (setO_fx.block Q (by rw[setO_size];exact HQ5.out) (by have h1:=HNQ.out;omega)).trans R6.out);have HFIN:Hid (∃ (st:TSt) (cur:Array Value) (k:Int),Hid (st.1.length≤10000)∧Hid ((wiS H10 st p10A.set).2.length≤1000)∧Hid ((toldS H10 st p10A).1.length≤10000)∧Hid ((wiS H10 (toldS H10 st p10A) p10E.set).2.length≤1000)∧Hid (BkB w N bx m1 m2 m3 (.cells #[.slice vA vn vc,.slice rA 2 rc0,.slice none 0 0,.slice uA un uc] 36 (0,0)) (.cells #[.slice none 0 0,.slice none 0 0,.slice none 0 0,.slice none 0 0] 36 (0,0)) st false 20 cur k ((((((((w5.setCell ⟨N,2,none⟩ (.int .i64 t10A.kind)).setCell ⟨N,3,none⟩ (.slice cA cn cc)).setCell ⟨N,4,none⟩ (.slice qA qn qc)).setCell ⟨N,5,none⟩ (.slice eA en9 ec)).setCell ⟨N,6,none⟩ (.int .i64 t10B.kind)).setCell ⟨N,7,none⟩ (.slice dA dn dc)).setCell ⟨N,8,none⟩ (.slice xA xn xc)).setCell ⟨N,9,none⟩ (.slice yA yn yc)))∧Hid (A4 ((((((((w5.setCell ⟨N,2,none⟩ (.int .i64 t10A.kind)).setCell ⟨N,3,none⟩ (.slice cA cn cc)).setCell ⟨N,4,none⟩ (.slice qA qn qc)).setCell ⟨N,5,none⟩ (.slice eA en9 ec)).setCell ⟨N,6,none⟩ (.int .i64 t10B.kind)).setCell ⟨N,7,none⟩ (.slice dA dn dc)).setCell ⟨N,8,none⟩ (.slice xA xn xc)).setCell ⟨N,9,none⟩ (.slice yA yn yc)) (Tb w N bx m1 m2 m3 ((((((((w5.setCell ⟨N,2,none⟩ (.int .i64 t10A.kind)).setCell ⟨N,3,none⟩ (.slice cA cn cc)).setCell ⟨N,4,none⟩ (.slice qA qn qc)).setCell ⟨N,5,none⟩ (.slice eA en9 ec)).setCell ⟨N,6,none⟩ (.int .i64 t10B.kind)).setCell ⟨N,7,none⟩ (.slice dA dn dc)).setCell ⟨N,8,none⟩ (.slice xA xn xc)).setCell ⟨N,9,none⟩ (.slice yA yn yc))) cur 2 t10A)∧Hid (A4 ((((((((w5.setCell ⟨N,2,none⟩ (.int .i64 t10A.kind)).setCell ⟨N,3,none⟩ (.slice cA cn cc)).setCell ⟨N,4,none⟩ (.slice qA qn qc)).setCell ⟨N,5,none⟩ (.slice eA en9 ec)).setCell ⟨N,6,none⟩ (.int .i64 t10B.kind)).setCell ⟨N,7,none⟩ (.slice dA dn dc)).setCell ⟨N,8,none⟩ (.slice xA xn xc)).setCell ⟨N,9,none⟩ (.slice yA yn yc)) (Tb w N bx m1 m2 m3 ((((((((w5.setCell ⟨N,2,none⟩ (.int .i64 t10A.kind)).setCell ⟨N,3,none⟩ (.slice cA cn cc)).setCell ⟨N,4,none⟩ (.slice qA qn qc)).setCell ⟨N,5,none⟩ (.slice eA en9 ec)).setCell ⟨N,6,none⟩ (.int .i64 t10B.kind)).setCell ⟨N,7,none⟩ (.slice dA dn dc)).setCell ⟨N,8,none⟩ (.slice xA xn xc)).setCell ⟨N,9,none⟩ (.slice yA yn yc))) cur 6 t10B)∧Hid (O3 cur 11)∧Hid (A4 w S cur 13 p10A)∧Hid (A4 w S cur 17 p10E)):=(show ∃ (st:TSt) (cur:Array Value) (k:Int),Hid (st.1.length≤10000)∧Hid ((wiS H10 st p10A.set).2.length≤1000)∧Hid ((toldS H10 st p10A).1.length≤10000)∧Hid ((wiS H10 (toldS H10 st p10A) p10E.set).2.length≤1000)∧Hid (BkB w N bx m1 m2 m3 (.cells #[.slice vA vn vc,.slice rA 2 rc0,.slice none 0 0,.slice uA un uc] 36 (0,0)) (.cells #[.slice none 0 0,.slice none 0 0,.slice none 0 0,.slice none 0 0] 36 (0,0)) st false 20 cur k (setO (setO w5 N 2 (.int .i64 t10A.kind) (.slice cA cn cc) (.slice qA qn qc) (.slice eA en9 ec)) N 6 (.int .i64 t10B.kind) (.slice dA dn dc) (.slice xA xn xc) (.slice yA yn yc)))∧Hid (A4 (setO (setO w5 N 2 (.int .i64 t10A.kind) (.slice cA cn cc) (.slice qA qn qc) (.slice eA en9 ec)) N 6 (.int .i64 t10B.kind) (.slice dA dn dc) (.slice xA xn xc) (.slice yA yn yc)) (Tb w N bx m1 m2 m3 (setO (setO w5 N 2 (.int .i64 t10A.kind) (.slice cA cn cc) (.slice qA qn qc) (.slice eA en9 ec)) N 6 (.int .i64 t10B.kind) (.slice dA dn dc) (.slice xA xn xc) (.slice yA yn yc))) cur 2 t10A)∧Hid (A4 (setO (setO w5 N 2 (.int .i64 t10A.kind) (.slice cA cn cc) (.slice qA qn qc) (.slice eA en9 ec)) N 6 (.int .i64 t10B.kind) (.slice dA dn dc) (.slice xA xn xc) (.slice yA yn yc)) (Tb w N bx m1 m2 m3 (setO (setO w5 N 2 (.int .i64 t10A.kind) (.slice cA cn cc) (.slice qA qn qc) (.slice eA en9 ec)) N 6 (.int .i64 t10B.kind) (.slice dA dn dc) (.slice xA xn xc) (.slice yA yn yc))) cur 6 t10B)∧Hid (O3 cur 11)∧Hid (A4 w S cur 13 p10A)∧Hid (A4 w S cur 17 p10E) from ⟨u12,(setA (setA cur 2 (.int .i64 t10A.kind) (.slice cA cn cc) (.slice qA qn qc) (.slice eA en9 ec)) 6 (.int .i64 t10B.kind) (.slice dA dn dc) (.slice xA xn xc) (.slice yA yn yc)),k10,PN6.out,PN7.out,PN8.out,PN9.out,HB7.out,(((A4.new (by have h1:=HCS.out;omega) HP45.out).ne (by omega)).keep tb_put.1 tb_put.2).keep tb_put.1 tb_put.2,((A4.new (by rw[setA_size];have h1:=HCS.out;omega) HP5.out).keep tb_put.1 tb_put.2).keep tb_put.1 tb_put.2,(HO1.out.ne (by omega) (by omega)).ne (by omega) (by omega),(HA1.out.ne (by omega)).ne (by omega),(HC1.out.ne (by omega)).ne (by omega)⟩);clear hp5 ht5 hk5 hf5))
   go_wp2_with fail
   go_roundw
   case rel=>exact .inr (.inl ⟨rfl,HFIN.out⟩)
   case measure=>simp[intOf]
  ·obtain ⟨a9,b9,c9,e0,e1,e10⟩:=HO.out
   obtain ⟨sA,sn,sc,gA,gn,gc,kA,kn,kc,e2,e3,e4,e5,hpb⟩:=HA.out
   obtain ⟨tA,tn,tc,hA,hn,hc,lA,ln,lc,e6,e7,e8,e9,hpa⟩:=HC.out
   have HPB:=hd_ hpb
   have HPA:=hd_ hpa
   have HKK:=hd_ HB.out.kk
   have HCS:=hd_ HB.out.size
   clear hpb hpa
   have f0:wr.cell? ⟨N,11,none⟩=some (.int .i64 a9):=qr_ HB.out.row e0
   have f1:wr.cell? ⟨N,12,none⟩=some (.bool b9):=qr_ HB.out.row e1
   have f2:wr.cell? ⟨N,13,none⟩=some (.int .i64 p10A.kind):=qr_ HB.out.row e2
   have f3:wr.cell? ⟨N,14,none⟩=some (.slice sA sn sc):=qr_ HB.out.row e3
   have f4:wr.cell? ⟨N,15,none⟩=some (.slice gA gn gc):=qr_ HB.out.row e4
   have f5:wr.cell? ⟨N,16,none⟩=some (.slice kA kn kc):=qr_ HB.out.row e5
   have f6:wr.cell? ⟨N,17,none⟩=some (.int .i64 p10E.kind):=qr_ HB.out.row e6
   have f7:wr.cell? ⟨N,18,none⟩=some (.slice tA tn tc):=qr_ HB.out.row e7
   have f8:wr.cell? ⟨N,19,none⟩=some (.slice hA hn hc):=qr_ HB.out.row e8
   have f9:wr.cell? ⟨N,20,none⟩=some (.slice lA ln lc):=qr_ HB.out.row e9
   have f10:wr.cell? ⟨N,21,none⟩=some (.int .i64 c9):=qr_ HB.out.row e10
   have G9:Hid (∀ (W' : World),W'.heap[N]?=some (.cells cur 49 (0,0))→W'.cell? ⟨N,13,none⟩=some (.int .i64 p10A.kind)∧W'.cell? ⟨N,14,none⟩=some (.slice sA sn sc)∧W'.cell? ⟨N,15,none⟩=some (.slice gA gn gc)∧W'.cell? ⟨N,16,none⟩=some (.slice kA kn kc)∧W'.cell? ⟨N,17,none⟩=some (.int .i64 p10E.kind)∧W'.cell? ⟨N,18,none⟩=some (.slice tA tn tc)∧W'.cell? ⟨N,19,none⟩=some (.slice hA hn hc)∧W'.cell? ⟨N,20,none⟩=some (.slice lA ln lc)):=fun W' h=>⟨qr_ h e2,qr_ h e3,qr_ h e4,qr_ h e5,qr_ h e6,qr_ h e7,qr_ h e8,qr_ h e9⟩
   have frn:=qv_ HB.out.row
   have QB9:=hd_ (qa_ wr (.cells #[.int .i64 a9,.bool b9,.int .i64 p10A.kind,.slice sA sn sc,.slice gA gn gc,.slice kA kn kc,.int .i64 p10E.kind,.slice tA tn tc,.slice hA hn hc,.slice lA ln lc,.int .i64 c9] 49))
   have HR3:=hd_ (heap_alloc_new wr (.cells #[.int .i64 a9,.bool b9,.int .i64 p10A.kind,.slice sA sn sc,.slice gA gn gc,.slice kA kn kc,.int .i64 p10E.kind,.slice tA tn tc,.slice hA hn hc,.slice lA ln lc,.int .i64 c9] 49))
   have HB3:Hid (BkB w N bx m1 m2 m3 (.cells #[.slice vA vn vc,.slice rA 2 rc0,.slice none 0 0,.slice uA un uc] 36 (0,0)) (.cells #[.slice none 0 0,.slice none 0 0,.slice none 0 0,.slice none 0 0] 36 (0,0)) st false 20 cur k (wr.alloc (.cells #[.int .i64 a9,.bool b9,.int .i64 p10A.kind,.slice sA sn sc,.slice gA gn gc,.slice kA kn kc,.int .i64 p10E.kind,.slice tA tn tc,.slice hA hn hc,.slice lA ln lc,.int .i64 c9] 49)).drew):=HB.out.on (qb_ QB9.out 1)
   have HQT:Hid (∀ b,TW bx m1 m2 m3 b→b<wr.heap.size):=fun b e=>(HB.out.tw e).2
   have HNQ:Hid (N<wr.heap.size):=HB.out.nlt
   have HQW:Hid (wr.heap.size<(wr.alloc (.cells #[.int .i64 a9,.bool b9,.int .i64 p10A.kind,.slice sA sn sc,.slice gA gn gc,.slice kA kn kc,.int .i64 p10E.kind,.slice tA tn tc,.slice hA hn hc,.slice lA ln lc,.int .i64 c9] 49)).heap.size):=by
    show wr.heap.size<(wr.alloc (.cells #[.int .i64 a9,.bool b9,.int .i64 p10A.kind,.slice sA sn sc,.slice gA gn gc,.slice kA kn kc,.int .i64 p10E.kind,.slice tA tn tc,.slice hA hn hc,.slice lA ln lc,.int .i64 c9] 49)).heap.size
    simp
   have HT23:Hid (A4 (wr.alloc (.cells #[.int .i64 a9,.bool b9,.int .i64 p10A.kind,.slice sA sn sc,.slice gA gn gc,.slice kA kn kc,.int .i64 p10E.kind,.slice tA tn tc,.slice hA hn hc,.slice lA ln lc,.int .i64 c9] 49)).drew (Tb w N bx m1 m2 m3 (wr.alloc (.cells #[.int .i64 a9,.bool b9,.int .i64 p10A.kind,.slice sA sn sc,.slice gA gn gc,.slice kA kn kc,.int .i64 p10E.kind,.slice tA tn tc,.slice hA hn hc,.slice lA ln lc,.int .i64 c9] 49)).drew) cur 2 t10A):=HT2.out.keep (tb_on (qb_ QB9.out 1)).1 (tb_on (qb_ QB9.out 1)).2
   have HT63:Hid (A4 (wr.alloc (.cells #[.int .i64 a9,.bool b9,.int .i64 p10A.kind,.slice sA sn sc,.slice gA gn gc,.slice kA kn kc,.int .i64 p10E.kind,.slice tA tn tc,.slice hA hn hc,.slice lA ln lc,.int .i64 c9] 49)).drew (Tb w N bx m1 m2 m3 (wr.alloc (.cells #[.int .i64 a9,.bool b9,.int .i64 p10A.kind,.slice sA sn sc,.slice gA gn gc,.slice kA kn kc,.int .i64 p10E.kind,.slice tA tn tc,.slice hA hn hc,.slice lA ln lc,.int .i64 c9] 49)).drew) cur 6 t10B):=HT6.out.keep (tb_on (qb_ QB9.out 1)).1 (tb_on (qb_ QB9.out 1)).2
   go_upto_region 6 with fail
   generalize hW3:(wr.alloc (.cells #[.int .i64 a9,.bool b9,.int .i64 p10A.kind,.slice sA sn sc,.slice gA gn gc,.slice kA kn kc,.int .i64 p10E.kind,.slice tA tn tc,.slice hA hn hc,.slice lA ln lc,.int .i64 c9] 49))=w3 at *
   clear hW3 QB9
   generalize hQ:wr.heap.size=Q at *
   clear hQ f0 f1 f2 f3 f4 f5 f6 f7 f8 f9 f10 frn HB HO HA HC e0 e1 e2 e3 e4 e5 e6 e7 e8 e9 e10
   have RS:Hid (∀ W' : World,W'.heap[Q]?=some (.cells #[.int .i64 a9,.bool b9,.int .i64 p10A.kind,.slice sA sn sc,.slice gA gn gc,.slice kA kn kc,.int .i64 p10E.kind,.slice tA tn tc,.slice hA hn hc,.slice lA ln lc,.int .i64 c9] 49 (0,0))→W'.cell? ⟨Q,2,none⟩=some (.int .i64 p10A.kind)∧W'.cell? ⟨Q,3,none⟩=some (.slice sA sn sc)∧W'.cell? ⟨Q,4,none⟩=some (.slice gA gn gc)∧W'.cell? ⟨Q,5,none⟩=some (.slice kA kn kc)∧W'.cell? ⟨Q,6,none⟩=some (.int .i64 p10E.kind)∧W'.cell? ⟨Q,7,none⟩=some (.slice tA tn tc)∧W'.cell? ⟨Q,8,none⟩=some (.slice hA hn hc)∧W'.cell? ⟨Q,9,none⟩=some (.slice lA ln lc)):=fun W' h=>⟨qr_ h rfl,qr_ h rfl,qr_ h rfl,qr_ h rfl,qr_ h rfl,qr_ h rfl,qr_ h rfl,qr_ h rfl⟩
   have R3:Hid (w3.drew.heap[Q]?=some (.cells #[.int .i64 a9,.bool b9,.int .i64 p10A.kind,.slice sA sn sc,.slice gA gn gc,.slice kA kn kc,.int .i64 p10E.kind,.slice tA tn tc,.slice hA hn hc,.slice lA ln lc,.int .i64 c9] 49 (0,0))):=HR3.out
   obtain ⟨tb,HTB⟩:∃ tb,Hid (tb=toldP H10 st p10A []):=⟨_,rfl⟩
   obtain ⟨ta,HTA⟩:∃ ta,Hid (ta=toldP H10 (toldS H10 st p10A) p10E []):=⟨_,rfl⟩
   have CT1:Hid (Calls Tryz.prog 28 #[.pointer (some ⟨bx,0,none⟩),.agg #[.int .i64 p10A.kind,.slice sA sn sc,.slice gA gn gc,.slice kA kn kc]] w3.drew (TlP 30 bx m1 m2 m3 (fun b=>b=N) H10 (toldS H10 st p10A) false tb w3.drew)):=by
    rw[HTB.out]
    exact tell_leaf (kb:=30) (S:=S) HB3.out.tel HB3.out.ee ⟨HB3.out.kk.1,(by have h1:=HKK.out;omega),(by omega)⟩ (by decide) (HB3.out.ars HSS.out) (HB3.out.arg HSS.out HPB.out) rfl (by decide) PM1.out PM2.out
   go_region_held_law (fun w' => w'.cell? ⟨Q,2,none⟩=some (.int .i64 p10A.kind)∧w'.cell? ⟨Q,3,none⟩=some (.slice sA sn sc)∧w'.cell? ⟨Q,4,none⟩=some (.slice gA gn gc)∧w'.cell? ⟨Q,5,none⟩=some (.slice kA kn kc)∧w'.cell? ⟨Q,6,none⟩=some (.int .i64 p10E.kind)∧w'.cell? ⟨Q,7,none⟩=some (.slice tA tn tc)∧w'.cell? ⟨Q,8,none⟩=some (.slice hA hn hc)∧w'.cell? ⟨Q,9,none⟩=some (.slice lA ln lc)) (first|with_reducible exact RS.out _ R3.out|with_reducible exact RS.out _ R4.out|with_reducible exact RS.out _ R5.out|with_reducible exact RS.out _ R6.out|with_reducible exact RS.out _ R7.out) (first
    | (go_at_call 28;(with_reducible refine CT1.out.mono ?_);rintro en w4 ⟨cA,cn,cc,qA,qn,qc,eA,en9,ec,k9,rfl,hp4,ht4,hk4,hf4⟩;have HB4:Hid (BkB w N bx m1 m2 m3 (.cells #[.slice vA vn vc,.slice rA 2 rc0,.slice none 0 0,.slice uA un uc] 36 (0,0)) (.cells #[.slice none 0 0,.slice none 0 0,.slice none 0 0,.slice none 0 0] 36 (0,0)) (toldS H10 st p10A) false 30 cur k9 w4):=HB3.out.tell ht4 hf4 hk4;have HP4:=hd_ (HB3.out.new hp4);have R4:=hd_ ((hf4.block Q HQW.out (fun e=>Nat.lt_irrefl _ (HQT.out _ e))).trans R3.out);have HQ4:Hid (Q<w4.heap.size):=Nat.lt_of_lt_of_le HQW.out hf4.size;have HT24:=hd_ (HT23.out.keep (tb_fx hf4).1 (tb_fx hf4).2);have HT64:=hd_ (HT63.out.keep (tb_fx hf4).1 (tb_fx hf4).2);clear hp4 ht4 hk4 hf4)
    | (go_at_call 28;have CT2:Hid (Calls Tryz.prog 28 #[.pointer (some ⟨bx,0,none⟩),.agg #[.int .i64 p10E.kind,.slice tA tn tc,.slice hA hn hc,.slice lA ln lc]] w4 (TlP 40 bx m1 m2 m3 (fun b=>b=N) H10 (toldS H10 (toldS H10 st p10A) p10E) false ta w4)):=(by rw[HTA.out];exact tell_leaf (kb:=40) (S:=S) HB4.out.tel HB4.out.ee ⟨HB4.out.kk.1,(by have h1:=HB4.out.kk;omega),(by omega)⟩ (by decide) (HB4.out.ars HSS.out) (HB4.out.arg HSS.out HPA.out) rfl (by decide) PM3.out PM4.out);(with_reducible refine CT2.out.mono ?_);rintro en w5 ⟨dA,dn,dc,xA,xn,xc,yA,yn,yc,k10,rfl,hp5,ht5,hk5,hf5⟩;have HB5:Hid (BkB w N bx m1 m2 m3 (.cells #[.slice vA vn vc,.slice rA 2 rc0,.slice none 0 0,.slice uA un uc] 36 (0,0)) (.cells #[.slice none 0 0,.slice none 0 0,.slice none 0 0,.slice none 0 0] 36 (0,0)) (toldS H10 (toldS H10 st p10A) p10E) false 40 cur k10 w5):=HB4.out.tell ht5 hf5 hk5;have HP5:=hd_ (HB4.out.new hp5);have HP45:=hd_ (HP4.out.keep (tb_fx hf5).1 (tb_fx hf5).2);have R5:=hd_ ((hf5.block Q HQ4.out (fun e=>Nat.lt_irrefl _ (HQT.out _ e))).trans R4.out);have HQ5:Hid (Q<w5.heap.size):=Nat.lt_of_lt_of_le HQ4.out hf5.size;have HT25:=hd_ (HT24.out.keep (tb_fx hf5).1 (tb_fx hf5).2);have HT65:=hd_ (HT64.out.keep (tb_fx hf5).1 (tb_fx hf5).2);obtain ⟨g2,g3,g4,g5,g6,g7,g8,g9⟩:=G9.out w5 HB5.out.row;have fr5:=qv_ HB5.out.row;have HB7:Hid (BkB w N bx m1 m2 m3 (.cells #[.slice vA vn vc,.slice rA 2 rc0,.slice none 0 0,.slice uA un uc] 36 (0,0)) (.cells #[.slice none 0 0,.slice none 0 0,.slice none 0 0,.slice none 0 0] 36 (0,0)) (toldS H10 (toldS H10 st p10A) p10E) false 40 (setA (setA cur 13 (.int .i64 tb.kind) (.slice cA cn cc) (.slice qA qn qc) (.slice eA en9 ec)) 17 (.int .i64 ta.kind) (.slice dA dn dc) (.slice xA xn xc) (.slice yA yn yc)) k10 (setO (setO w5 N 13 (.int .i64 tb.kind) (.slice cA cn cc) (.slice qA qn qc) (.slice eA en9 ec)) N 17 (.int .i64 ta.kind) (.slice dA dn dc) (.slice xA xn xc) (.slice yA yn yc))):=(HB5.out.put 13 _ _ _ _).put 17 _ _ _ _;have R6:Hid (((((w5.setCell ⟨N,13,none⟩ (.int .i64 tb.kind)).setCell ⟨N,14,none⟩ (.slice cA cn cc)).setCell ⟨N,15,none⟩ (.slice qA qn qc)).setCell ⟨N,16,none⟩ (.slice eA en9 ec)).heap[Q]?=some (.cells #[.int .i64 a9,.bool b9,.int .i64 p10A.kind,.slice sA sn sc,.slice gA gn gc,.slice kA kn kc,.int .i64 p10E.kind,.slice tA tn tc,.slice hA hn hc,.slice lA ln lc,.int .i64 c9] 49 (0,0))):=(show (setO w5 N 13 (.int .i64 tb.kind) (.slice cA cn cc) (.slice qA qn qc) (.slice eA en9 ec)).heap[Q]?=some (.cells #[.int .i64 a9,.bool b9,.int .i64 p10A.kind,.slice sA sn sc,.slice gA gn gc,.slice kA kn kc,.int .i64 p10E.kind,.slice tA tn tc,.slice hA hn hc,.slice lA ln lc,.int .i64 c9] 49 (0,0)) from (setO_fx.block Q HQ5.out (by have h1:=HNQ.out;omega)).trans R5.out);have R7:Hid (((((((((w5.setCell ⟨N,13,none⟩ (.int .i64 tb.kind)).setCell ⟨N,14,none⟩ (.slice cA cn cc)).setCell ⟨N,15,none⟩ (.slice qA qn qc)).setCell ⟨N,16,none⟩ (.slice eA en9 ec)).setCell ⟨N,17,none⟩ (.int .i64 ta.kind)).setCell ⟨N,18,none⟩ (.slice dA dn dc)).setCell ⟨N,19,none⟩ (.slice xA xn xc)).setCell ⟨N,20,none⟩ (.slice yA yn yc)).heap[Q]?=some (.cells #[.int .i64 a9,.bool b9,.int .i64 p10A.kind,.slice sA sn sc,.slice gA gn gc,.slice kA kn kc,.int .i64 p10E.kind,.slice tA tn tc,.slice hA hn hc,.slice lA ln lc,.int .i64 c9] 49 (0,0))):=(show (setO (setO w5 N 13 (.int .i64 tb.kind) (.slice cA cn cc) (.slice qA qn qc) (.slice eA en9 ec)) N 17 (.int .i64 ta.kind) (.slice dA dn dc) (.slice xA xn xc) (.slice yA yn yc)).heap[Q]?=some (.cells #[.int .i64 a9,.bool b9,.int .i64 p10A.kind,.slice sA sn sc,.slice gA gn gc,.slice kA kn kc,.int .i64 p10E.kind,.slice tA tn tc,.slice hA hn hc,.slice lA ln lc,.int .i64 c9] 49 (0,0)) from (setO_fx.block Q (by rw[setO_size];exact HQ5.out) (by have h1:=HNQ.out;omega)).trans R6.out);have HFIN:Hid (∃ (st:TSt) (cur:Array Value) (k:Int),Hid (BkB w N bx m1 m2 m3 (.cells #[.slice vA vn vc,.slice rA 2 rc0,.slice none 0 0,.slice uA un uc] 36 (0,0)) (.cells #[.slice none 0 0,.slice none 0 0,.slice none 0 0,.slice none 0 0] 36 (0,0)) st false 40 cur k ((((((((w5.setCell ⟨N,13,none⟩ (.int .i64 tb.kind)).setCell ⟨N,14,none⟩ (.slice cA cn cc)).setCell ⟨N,15,none⟩ (.slice qA qn qc)).setCell ⟨N,16,none⟩ (.slice eA en9 ec)).setCell ⟨N,17,none⟩ (.int .i64 ta.kind)).setCell ⟨N,18,none⟩ (.slice dA dn dc)).setCell ⟨N,19,none⟩ (.slice xA xn xc)).setCell ⟨N,20,none⟩ (.slice yA yn yc)))∧Hid (A4 ((((((((w5.setCell ⟨N,13,none⟩ (.int .i64 tb.kind)).setCell ⟨N,14,none⟩ (.slice cA cn cc)).setCell ⟨N,15,none⟩ (.slice qA qn qc)).setCell ⟨N,16,none⟩ (.slice eA en9 ec)).setCell ⟨N,17,none⟩ (.int .i64 ta.kind)).setCell ⟨N,18,none⟩ (.slice dA dn dc)).setCell ⟨N,19,none⟩ (.slice xA xn xc)).setCell ⟨N,20,none⟩ (.slice yA yn yc)) (Tb w N bx m1 m2 m3 ((((((((w5.setCell ⟨N,13,none⟩ (.int .i64 tb.kind)).setCell ⟨N,14,none⟩ (.slice cA cn cc)).setCell ⟨N,15,none⟩ (.slice qA qn qc)).setCell ⟨N,16,none⟩ (.slice eA en9 ec)).setCell ⟨N,17,none⟩ (.int .i64 ta.kind)).setCell ⟨N,18,none⟩ (.slice dA dn dc)).setCell ⟨N,19,none⟩ (.slice xA xn xc)).setCell ⟨N,20,none⟩ (.slice yA yn yc))) cur 2 t10A)∧Hid (A4 ((((((((w5.setCell ⟨N,13,none⟩ (.int .i64 tb.kind)).setCell ⟨N,14,none⟩ (.slice cA cn cc)).setCell ⟨N,15,none⟩ (.slice qA qn qc)).setCell ⟨N,16,none⟩ (.slice eA en9 ec)).setCell ⟨N,17,none⟩ (.int .i64 ta.kind)).setCell ⟨N,18,none⟩ (.slice dA dn dc)).setCell ⟨N,19,none⟩ (.slice xA xn xc)).setCell ⟨N,20,none⟩ (.slice yA yn yc)) (Tb w N bx m1 m2 m3 ((((((((w5.setCell ⟨N,13,none⟩ (.int .i64 tb.kind)).setCell ⟨N,14,none⟩ (.slice cA cn cc)).setCell ⟨N,15,none⟩ (.slice qA qn qc)).setCell ⟨N,16,none⟩ (.slice eA en9 ec)).setCell ⟨N,17,none⟩ (.int .i64 ta.kind)).setCell ⟨N,18,none⟩ (.slice dA dn dc)).setCell ⟨N,19,none⟩ (.slice xA xn xc)).setCell ⟨N,20,none⟩ (.slice yA yn yc))) cur 6 t10B)):=(show ∃ (st:TSt) (cur:Array Value) (k:Int),Hid (BkB w N bx m1 m2 m3 (.cells #[.slice vA vn vc,.slice rA 2 rc0,.slice none 0 0,.slice uA un uc] 36 (0,0)) (.cells #[.slice none 0 0,.slice none 0 0,.slice none 0 0,.slice none 0 0] 36 (0,0)) st false 40 cur k (setO (setO w5 N 13 (.int .i64 tb.kind) (.slice cA cn cc) (.slice qA qn qc) (.slice eA en9 ec)) N 17 (.int .i64 ta.kind) (.slice dA dn dc) (.slice xA xn xc) (.slice yA yn yc)))∧Hid (A4 (setO (setO w5 N 13 (.int .i64 tb.kind) (.slice cA cn cc) (.slice qA qn qc) (.slice eA en9 ec)) N 17 (.int .i64 ta.kind) (.slice dA dn dc) (.slice xA xn xc) (.slice yA yn yc)) (Tb w N bx m1 m2 m3 (setO (setO w5 N 13 (.int .i64 tb.kind) (.slice cA cn cc) (.slice qA qn qc) (.slice eA en9 ec)) N 17 (.int .i64 ta.kind) (.slice dA dn dc) (.slice xA xn xc) (.slice yA yn yc))) cur 2 t10A)∧Hid (A4 (setO (setO w5 N 13 (.int .i64 tb.kind) (.slice cA cn cc) (.slice qA qn qc) (.slice eA en9 ec)) N 17 (.int .i64 ta.kind) (.slice dA dn dc) (.slice xA xn xc) (.slice yA yn yc)) (Tb w N bx m1 m2 m3 (setO (setO w5 N 13 (.int .i64 tb.kind) (.slice cA cn cc) (.slice qA qn qc) (.slice eA en9 ec)) N 17 (.int .i64 ta.kind) (.slice dA dn dc) (.slice xA xn xc) (.slice yA yn yc))) cur 6 t10B) from ⟨(toldS H10 (toldS H10 st p10A) p10E),(setA (setA cur 13 (.int .i64 tb.kind) (.slice cA cn cc) (.slice qA qn qc) (.slice eA en9 ec)) 17 (.int .i64 ta.kind) (.slice dA dn dc) (.slice xA xn xc) (.slice yA yn yc)),k10,HB7.out,(((HT25.out.ne (by omega)).ne (by omega)).keep tb_put.1 tb_put.2).keep tb_put.1 tb_put.2,(((HT65.out.ne (by omega)).ne (by omega)).keep tb_put.1 tb_put.2).keep tb_put.1 tb_put.2⟩);clear hp5 ht5 hk5 hf5))
   go_wp2_with fail
   go_roundw
   case rel=>exact .inr (.inr ⟨rfl,HFIN.out⟩)
   case measure=>simp[intOf]
  ·have HB8:Hid (BkB w N bx m1 m2 m3 (.cells #[.slice vA vn vc,.slice rA 2 rc0,.slice none 0 0,.slice uA un uc] 36 (0,0)) (.cells #[.slice none 0 0,.slice none 0 0,.slice none 0 0,.slice none 0 0] 36 (0,0)) st false 40 cur k wr.drew):=HB.out.on (qb_ (Below.refl _ _) 1)
   have HT28:Hid (A4 wr.drew (Tb w N bx m1 m2 m3 wr.drew) cur 2 t10A):=HT2.out.keep (tb_on (qb_ (Below.refl _ _) 1)).1 (tb_on (qb_ (Below.refl _ _) 1)).2
   have HT68:Hid (A4 wr.drew (Tb w N bx m1 m2 m3 wr.drew) cur 6 t10B):=HT6.out.keep (tb_on (qb_ (Below.refl _ _) 1)).1 (tb_on (qb_ (Below.refl _ _) 1)).2
   have RS:Hid (∀ W' : World,W'.heap[w.heap.size]?=some (.cells #[.slice vA vn vc,.slice rA 2 rc0,.slice none 0 0,.slice uA un uc] 36 (0,0))→W'.cell? ⟨w.heap.size,0,none⟩=some (.slice vA vn vc)∧W'.cell? ⟨w.heap.size,2,none⟩=some (.slice none 0 0)∧W'.cell? ⟨w.heap.size,3,none⟩=some (.slice uA un uc)):=fun W' h=>⟨qr_ h rfl,qr_ h rfl,qr_ h rfl⟩
   have R3:Hid (wr.drew.heap[w.heap.size]?=some (.cells #[.slice vA vn vc,.slice rA 2 rc0,.slice none 0 0,.slice uA un uc] 36 (0,0))):=HB8.out.book
   have CV:=hd_ (clone_var (w:=wr.drew) (fun b hb=>(HB8.out.ars HSS.out b hb).1) (HV.out.keep (fun _ h=>h) (fun p hp=>HB8.out.bel.cell (HSS.out _ hp))) HVN.out)
   go_upto_region 8 with fail
   go_cut [] (fun wx=>∃ (A5:Option Addr) (n5 c5:Nat) (A6:Option Addr) (n6 c6:Nat),Hid (wx.heap[w.heap.size+1]?=some (.cells #[.slice A5 n5 c5,.slice (some ⟨N,0,none⟩) 2 rc,.slice none 0 0,.slice A6 n6 c6] 36 (0,0)))∧Hid (BkP w (.returned (.agg #[.slice A5 n5 c5,.slice (some ⟨N,0,none⟩) 2 rc,.slice none 0 0,.slice A6 n6 c6])) wx))
   case first =>
    go_region_held_law (fun w' => w'.cell? ⟨w.heap.size,0,none⟩=some (.slice vA vn vc)∧w'.cell? ⟨w.heap.size,2,none⟩=some (.slice none 0 0)∧w'.cell? ⟨w.heap.size,3,none⟩=some (.slice uA un uc)) (first|with_reducible exact RS.out _ R3.out|with_reducible exact RS.out _ R4.out|with_reducible exact RS.out _ R6.out|exact RS.out _ R9.out) (first
     | (go_at_call 29;(with_reducible refine CV.out.mono ?_);rintro en w4 ⟨A5,c5,rfl,ho4,hb4⟩;have HB4:=hd_ (HB8.out.on hb4);have HT24:=hd_ (HT28.out.keep (tb_on hb4).1 (tb_on hb4).2);have HT64:=hd_ (HT68.out.keep (tb_on hb4).1 (tb_on hb4).2);have R4:=hd_ HB4.out.book;clear ho4 hb4)
     | (go_at_call 30;(with_reducible refine (clone_allow0 (w:=w4)).mono ?_);rintro en wI ⟨rfl,rfl⟩)
     | (go_at_call 31;have CU:=hd_ (clone_str (w:=w4) (fun b hb=>(HB4.out.ars HSS.out b hb).1) (HU.out.keep (fun _ h=>h) (fun p hp=>HB4.out.bel.cell (HSS.out _ hp))) HUN.out);(with_reducible refine CU.out.mono ?_);rintro en w6 ⟨A6,c6,rfl,ho6,hb6⟩;have HB6:=hd_ (HB4.out.on hb6);have HT26:=hd_ (HT24.out.keep (tb_on hb6).1 (tb_on hb6).2);have HT66:=hd_ (HT64.out.keep (tb_on hb6).1 (tb_on hb6).2);have R6:=hd_ HB6.out.book;have R9:Hid ((set4 w6 (w.heap.size+1) (.slice A5 [v10].length c5) (.slice (some ⟨N,0,none⟩) 2 rc) (.slice none 0 0) (.slice A6 us.length c6)).heap[w.heap.size]?=some (.cells #[.slice vA vn vc,.slice rA 2 rc0,.slice none 0 0,.slice uA un uc] 36 (0,0))):=(qu_ _ _ _ _ _ _ (by omega)).trans R6.out;obtain ⟨s0,s1,s2,s3⟩:=qj_ HB6.out.res;have fr6:=qv_ HB6.out.res;have HROW:Hid ((set4 w6 (w.heap.size+1) (.slice A5 [v10].length c5) (.slice (some ⟨N,0,none⟩) 2 rc) (.slice none 0 0) (.slice A6 us.length c6)).heap[w.heap.size+1]?=some (.cells #[.slice A5 [v10].length c5,.slice (some ⟨N,0,none⟩) 2 rc,.slice none 0 0,.slice A6 us.length c6] 36 (0,0))):=qx_ HB6.out.res _ _ _ _;have HFIN:Hid (BkP w (.returned (.agg #[.slice A5 [v10].length c5,.slice (some ⟨N,0,none⟩) 2 rc,.slice none 0 0,.slice A6 us.length c6])) (set4 w6 (w.heap.size+1) (.slice A5 [v10].length c5) (.slice (some ⟨N,0,none⟩) 2 rc) (.slice none 0 0) (.slice A6 us.length c6))):=⟨A5,_,c5,N,rc,A6,_,c6,cur,rfl,(by have h1:=HB6.out.lo;omega),(qu_ _ _ _ _ _ _ (by have h1:=HB6.out.lo;omega)).trans HB6.out.row,HB6.out.size,HRC.out.1,HRC.out.2,bk_keep HT26.out,bk_keep HT66.out,qm_ HB6.out.bel (by omega) _ _ _ _⟩;clear ho6 hb6))
    all_goals (go_wp2_with fail;go_meet;exact ⟨_,_,_,_,_,_,HROW.out,HFIN.out⟩)
   case rest =>
    obtain ⟨A5,n5,c5,A6,n6,c6,HROW,HRES⟩:=hcut
    obtain ⟨s0,s1,s2,s3⟩:=qj_ HROW.out
    go_wp2_with fail
    exact bodyPost_ret (results_c4 (a:=4) rfl (Tryz.isAgg36 _) (Tryz.sizeOf36 _) _ rfl HROW.out) rfl HRES.out

def l10:List (List Rg):=[[(97,99)],[(98,98)]]
def a10:List (List Rg):=[[(0,96),(100,1114111)],[(97,97),(99,99)],[(98,98)]]
theorem rules10:(rulesL ([],[],[]) [r10a,r10b]).2.2=l10:=by kernel_rfl
theorem star10:(twoL ([],[],[]) [p10B]).2.2.length=1:=by kernel_rfl
theorem has_one (lo hi c:Int) (h0:0≤lo) (h1:hi≤1114111):M.hasB [(lo,hi)] c=decide (lo≤c∧c≤hi):=by
 rw[Bool.eq_iff_iff]
 simp[M.hasB,M.isch,M.covb,M.inR]
 omega
theorem like10 (c d:Int):M.likeB l10 c d=true↔((97≤c∧c≤99)↔(97≤d∧d≤99))∧((98≤c∧c≤98)↔(98≤d∧d≤98)):=by
 rw[M.like_iff]
 unfold l10
 simp only[List.mem_cons,List.not_mem_nil,or_false,forall_eq_or_imp,forall_eq,has_one _ _ _ (show (0:Int)≤97 by decide) (show (99:Int)≤1114111 by decide),has_one _ _ _ (show (0:Int)≤98 by decide) (show (98:Int)≤1114111 by decide),decide_eq_decide]
theorem isAtoms10:M.IsAtoms l10 a10:=by
 refine ⟨fun a ha=>?_,fun c hc=>?_,fun a ha b hb c d h1 h2 h3=>?_,fun a ha c d h1 h2=>?_,?_⟩
 ·simp only[a10,List.mem_cons,List.not_mem_nil,or_false] at ha
  rcases ha with rfl|rfl|rfl <;> simp[M.LF]
 ·simp only[M.isch,Bool.and_eq_true,decide_eq_true_eq] at hc
  rcases (show (c≤96∨100≤c)∨(c=97∨c=99)∨c=98 by omega) with h|h|h
  ·exact ⟨[(0,96),(100,1114111)],by simp[a10],by simp[M.covb,M.inR];omega⟩
  ·exact ⟨[(97,97),(99,99)],by simp[a10],by simp[M.covb,M.inR];omega⟩
  ·exact ⟨[(98,98)],by simp[a10],by simp[M.covb,M.inR];omega⟩
 ·rw[like10] at h3
  simp only[a10,List.mem_cons,List.not_mem_nil,or_false] at ha hb
  rcases ha with rfl|rfl|rfl <;> rcases hb with rfl|rfl|rfl <;> simp[M.covb,M.inR] at h1 h2 ⊢ <;> omega
 ·rw[like10]
  simp only[a10,List.mem_cons,List.not_mem_nil,or_false] at ha
  rcases ha with rfl|rfl|rfl <;> simp[M.covb,M.inR] at h1 h2 <;> omega
 ·simp[a10,M.low]
theorem plain_lf {l:List Rg}(h:M.LF 0 l) (hl:l.length≤400):M.plainL l=l:=M.plainL_is h fun c=>(M.hasB_least h hl c).symm
theorem firsts10:firstsF a10=[0,97,98]:=by
 have h1:=plain_lf (l:=[(0,96),(100,1114111)]) (by simp[M.LF]) (by simp)
 have h2:=plain_lf (l:=[(97,97),(99,99)]) (by simp[M.LF]) (by simp)
 have h3:=plain_lf (l:=[(98,98)]) (by simp[M.LF]) (by simp)
 simp only[firstsF,a10,List.map,h1,h2,h3]
 rfl
theorem class10:classF a10 120=0∧classF a10 97=1∧classF a10 98=2:=by decide +kernel
theorem spec10:M.OfSpec l10 (some a10):=⟨fun h=>by simp[l10] at h,fun ⟨l,h,h2⟩=>by
 simp only[l10,List.mem_cons,List.not_mem_nil,or_false] at h
 rcases h with rfl|rfl <;> simp at h2,fun h=>absurd h (M.few_atoms isAtoms10 (by simp[a10])),fun _ _ _=>⟨a10,isAtoms10,(fun ⟨a,ha,h2⟩=>by
 simp only[a10,List.mem_cons,List.not_mem_nil,or_false] at ha
 rcases ha with rfl|rfl|rfl <;> simp at h2),fun _=>rfl⟩⟩
theorem of10 {w w' : World}{en:Ending}(h:OfPost w l10 en w'):∃ A n c gs,en=.returned (.tuple #[.slice A n c,.int .i64 0])∧RdS w' w'.heap.size A n c gs∧listsOf gs=a10∧n=3∧Below w.heap.size w w' := by
 obtain ⟨res,h1,h2,h3,hb⟩:=h
 obtain ⟨A,n,c,gs,e,hr,hl⟩:=h3 a10 (h1.ext spec10)
 refine ⟨A,n,c,gs,e,hr,hl,?_,hb⟩
 have h4:=congrArg List.length hl
 have h5:=hr.len
 simp[listsOf,a10] at h4
 omega
theorem word10 {gs:List Given}(hl:listsOf gs=a10):allF (wordF gs) [120,97,98]=some [0,1,2]:=by
 obtain ⟨c1,c2,c3⟩:=class10
 simp[allF,wordF,hl,c1,c2,c3]
theorem chars10 {gs:List Given}(hl:listsOf gs=a10):allF (charF (firstsF (listsOf gs))) [0,1,2]=some [0,97,98]∧allF (charF (firstsF (listsOf gs))) [3]=none:=by
 rw[hl,firsts10]
 decide

section
variable {P:Program}{ops:Array Oper}{Q:Exit→Act→World→Prop}{md:Region.Mode}{S:World→Prop}
theorem K_t (i d:Nat){oi:Oper}{v:Value}{fuel:Nat}{listed:Array Bool}{a:Act}{w:World}(hi:ops[i]?=some oi) (hd:oi.dst=some d)
  (hb:(Region.noSelect ops && (Region.free md ops listed i && (Region.ready md ops listed).contains i))=true)
  (hQ:∀ c a w,Q (.panic c) (a.put (some d) v) w→Q (.panic c) a w) (hg:Region.wanted oi (yielded ops a.tmps)=true) (hy:∀ w,S w→(execOp a.eval oi).run P w=.ok (.value v) w) (hS:S w)
  (h:wpAnyH P md ops Q S fuel (listed.setIfInBounds i true) (a.put (some d) v) w):wpAnyH P md ops Q S (fuel+1) listed a w :=
 wpAnyH_take hi (Bool.and_eq_true_iff.1 hb).1 (Bool.and_eq_true_iff.1 (Bool.and_eq_true_iff.1 hb).2).1 (Bool.and_eq_true_iff.1 (Bool.and_eq_true_iff.1 hb).2).2 (by rw[hd];exact hQ) (.inl ⟨hg,hy⟩) hS (by rw[hd];exact h)
end
theorem okrs10:OkRs [r10a,r10b]:=fun i r h=>by
 match i,h with
 | 0,h =>
  injection h with h
  subst h
  exact ⟨⟨by decide,by decide,fun y hy=>by cases hy⟩,⟨by decide,by decide,fun y hy=>by
   rw[List.mem_singleton.1 hy]
   decide⟩,rfl,.inr ⟨rfl,fun y hy=>by
   rw[List.mem_singleton.1 hy]
   rfl⟩⟩
 | 1,h =>
  injection h with h
  subst h
  exact ⟨⟨by decide,by decide,fun y hy=>by cases hy⟩,⟨by decide,by decide,fun y hy=>by cases hy⟩,rfl,.inl rfl⟩
 | i+2,h=>cases h
theorem RdI.ins {w:World}{A:Option Addr}{n c:Nat}{L:List Int}(h:RdI w w.heap.size A n c L):InAt w (Bl w) A n c L:=⟨h.len,h.cap,h.capm,fun hn=>by
 obtain ⟨b,off,e,hb,hc⟩:=h.at_ hn
 exact ⟨b,off,e,hb,hc⟩⟩
theorem lit_i (w:World) (L:List Int) (hm:L.length≤maxLen):RdI (w.alloc (.cells (cellsI L).toArray 3)) (w.alloc (.cells (cellsI L).toArray 3)).heap.size (some ⟨w.heap.size,0,none⟩) L.length L.length L :=
 RdI.of_own (base:=w.heap.size) (e:=3) (by
  have h:=World.ownsRow_lit (base:=w.heap.size) (size:=1) (e:=3) w (cellsI L).toArray L.length (Nat.le_refl _) hm (by simp[cellsI])
  simpa using h)
def WdS (w:World) (l:List Int) (en:Ending) (w' : World):Prop:=∃ A n c,en=.returned (.tuple #[.slice A n c,.int .i64 0])∧RdI w' w'.heap.size A n c l∧Below w.heap.size w w'
def WdN (w:World) (en:Ending) (w' : World):Prop:=∃ A n c,en=.returned (.tuple #[.slice A n c,.int .i64 1])∧Below w.heap.size w w'
theorem wd_some {w:World}{P:Program}{f:FuncId}{args:Array Value}{l:List Int}(h:Calls P f args w (WdP w (some l))):Calls P f args w (WdS w l):=h.mono fun en w' ⟨A,n,c,e,hr,hb⟩=>⟨A,n,c,e,hr,hb⟩
theorem wd_no {w:World}{P:Program}{f:FuncId}{args:Array Value}(h:Calls P f args w (WdP w none)):Calls P f args w (WdN w):=h.mono fun en w' ⟨A,n,c,e,hr,hb⟩=>⟨A,n,c,e,hb⟩
structure AlF (bx Y N kb ko rb ro:Nat) (rc rc' : Nat) (sA gA kA lA hA iA jA aA:Option Addr) (sn sc gn gc kn kc lc hn hc ic jc ac:Nat) (s2A g2A k2A s3A g3A k3A:Option Addr) (s2n s2c g2n g2c k2n k2c s3n s3c g3n g3c k3n k3c:Nat) (gs:List Given) (wx:World):Prop where
 y1:wx.cell? ⟨Y,1,none⟩=some (.slice (some ⟨N,0,none⟩) 2 rc')
 n2:wx.cell? ⟨N,2,none⟩=some (.int .i64 t10A.kind)
 n3:wx.cell? ⟨N,3,none⟩=some (.slice sA sn sc)
 n4:wx.cell? ⟨N,4,none⟩=some (.slice gA gn gc)
 n5:wx.cell? ⟨N,5,none⟩=some (.slice kA kn kc)
 n9:wx.cell? ⟨N,9,none⟩=some (.slice lA 1 lc)
 l0:lA=some ⟨kb,ko,none⟩
 l2:wx.cell? ⟨kb,ko+2,none⟩=some (.slice hA hn hc)
 x1:wx.cell? ⟨bx,1,none⟩=some (.slice (some ⟨rb,ro,none⟩) 2 rc)
 r2:wx.cell? ⟨rb,ro+2,none⟩=some (.int .i64 p10A.kind)
 r3:wx.cell? ⟨rb,ro+3,none⟩=some (.slice s2A s2n s2c)
 r4:wx.cell? ⟨rb,ro+4,none⟩=some (.slice g2A g2n g2c)
 r5:wx.cell? ⟨rb,ro+5,none⟩=some (.slice k2A k2n k2c)
 r6:wx.cell? ⟨rb,ro+6,none⟩=some (.int .i64 p10B.kind)
 r7:wx.cell? ⟨rb,ro+7,none⟩=some (.slice s3A s3n s3c)
 r8:wx.cell? ⟨rb,ro+8,none⟩=some (.slice g3A g3n g3c)
 r9:wx.cell? ⟨rb,ro+9,none⟩=some (.slice k3A k3n k3c)
 lt:Y<wx.heap.size∧N<wx.heap.size∧kb<wx.heap.size∧bx<wx.heap.size∧rb<wx.heap.size
 p:PtIn wx (Bl wx) sA sn sc gA gn gc kA kn kc t10A
 h:InAt wx (Bl wx) hA hn hc [2]
 b:PtIn wx (Bl wx) s2A s2n s2c g2A g2n g2c k2A k2n k2c p10A
 a:PtIn wx (Bl wx) s3A s3n s3c g3A g3n g3c k3A k3n k3c p10B
 i:InAt wx (Bl wx) iA 3 ic [0,1,2]
 j:InAt wx (Bl wx) jA 3 jc [0,97,98]
 g:RdS wx wx.heap.size aA 3 ac gs
theorem AlF.on {bx Y N kb ko rb ro:Nat}{rc rc' : Nat}{sA gA kA lA hA iA jA aA:Option Addr}{sn sc gn gc kn kc lc hn hc ic jc ac:Nat}{s2A g2A k2A s3A g3A k3A:Option Addr}{s2n s2c g2n g2c k2n k2c s3n s3c g3n g3c k3n k3c:Nat}{gs:List Given}{wx wy:World}(h:AlF bx Y N kb ko rb ro rc rc' sA gA kA lA hA iA jA aA sn sc gn gc kn kc lc hn hc ic jc ac s2A g2A k2A s3A g3A k3A s2n s2c g2n g2c k2n k2c s3n s3c g3n g3c k3n k3c gs wx) (hb:Below wx.heap.size wx wy):AlF bx Y N kb ko rb ro rc rc' sA gA kA lA hA iA jA aA sn sc gn gc kn kc lc hn hc ic jc ac s2A g2A k2A s3A g3A k3A s2n s2c g2n g2c k2n k2c s3n s3c g3n g3c k3n k3c gs wy:=by
 obtain ⟨t0,t1,t2,t3,t4⟩:=h.lt
 have hs:=hb.size
 have e:∀ {b o:Nat},b<wx.heap.size→wy.cell? ⟨b,o,none⟩=wx.cell? ⟨b,o,none⟩:=fun {b o} hl=>hb.cell (p:=⟨b,o,none⟩) hl
 exact ⟨(e t0).trans h.y1,(e t1).trans h.n2,(e t1).trans h.n3,(e t1).trans h.n4,(e t1).trans h.n5,(e t1).trans h.n9,h.l0,(e t2).trans h.l2,(e t3).trans h.x1,(e t4).trans h.r2,(e t4).trans h.r3,(e t4).trans h.r4,(e t4).trans h.r5,(e t4).trans h.r6,(e t4).trans h.r7,(e t4).trans h.r8,(e t4).trans h.r9,⟨by omega,by omega,by omega,by omega,by omega⟩,h.p.on hb,h.h.on hb,h.b.on hb,h.a.on hb,h.i.on hb,h.j.on hb,h.g.on hb⟩
theorem AlF.all {bx Y N kb ko rb ro:Nat}{rc rc' : Nat}{sA gA kA lA hA iA jA aA:Option Addr}{sn sc gn gc kn kc lc hn hc ic jc ac:Nat}{s2A g2A k2A s3A g3A k3A:Option Addr}{s2n s2c g2n g2c k2n k2c s3n s3c g3n g3c k3n k3c:Nat}{gs:List Given}{wx:World}(h:AlF bx Y N kb ko rb ro rc rc' sA gA kA lA hA iA jA aA sn sc gn gc kn kc lc hn hc ic jc ac s2A g2A k2A s3A g3A k3A s2n s2c g2n g2c k2n k2c s3n s3c g3n g3c k3n k3c gs wx):wx.cell? ⟨Y,1,none⟩=some (.slice (some ⟨N,0,none⟩) 2 rc')∧wx.cell? ⟨N,2,none⟩=some (.int .i64 t10A.kind)∧wx.cell? ⟨N,3,none⟩=some (.slice sA sn sc)∧wx.cell? ⟨N,4,none⟩=some (.slice gA gn gc)∧wx.cell? ⟨N,5,none⟩=some (.slice kA kn kc)∧wx.cell? ⟨N,9,none⟩=some (.slice lA 1 lc)∧wx.cell? ⟨kb,ko+2,none⟩=some (.slice hA hn hc)∧wx.cell? ⟨bx,1,none⟩=some (.slice (some ⟨rb,ro,none⟩) 2 rc)∧wx.cell? ⟨rb,ro+2,none⟩=some (.int .i64 p10A.kind)∧wx.cell? ⟨rb,ro+3,none⟩=some (.slice s2A s2n s2c)∧wx.cell? ⟨rb,ro+4,none⟩=some (.slice g2A g2n g2c)∧wx.cell? ⟨rb,ro+5,none⟩=some (.slice k2A k2n k2c)∧wx.cell? ⟨rb,ro+6,none⟩=some (.int .i64 p10B.kind)∧wx.cell? ⟨rb,ro+7,none⟩=some (.slice s3A s3n s3c)∧wx.cell? ⟨rb,ro+8,none⟩=some (.slice g3A g3n g3c)∧wx.cell? ⟨rb,ro+9,none⟩=some (.slice k3A k3n k3c):=⟨h.y1,h.n2,h.n3,h.n4,h.n5,h.n9,h.l2,h.x1,h.r2,h.r3,h.r4,h.r5,h.r6,h.r7,h.r8,h.r9⟩
set_option maxHeartbeats 16000000 in
theorem alive10_any {w:World}:Calls Tryz.prog 4 #[] w (fun en w' => en=.returned (.bool true)∧Below w.heap.size w w'):=by
 go_enter Tryz.func4,Tryz.ntmps4
 have q0:=Lib.run_convert_bytes_const w 39 5 #[.int .u8 36,.int .u8 97,.int .u8 61,.int .u8 91,.int .u8 97,.int .u8 45,.int .u8 99,.int .u8 93,.int .u8 10,.int .u8 51,.int .u8 32,.int .u8 36,.int .u8 97,.int .u8 32,.int .u8 195,.int .u8 151,.int .u8 32,.int .u8 91,.int .u8 98,.int .u8 93,.int .u8 42,.int .u8 10,.int .u8 52,.int .u8 32,.int .u8 36,.int .u8 97,.int .u8 32,.int .u8 195,.int .u8 183] 29 29 Tryz.underlying39 Tryz.underlying5
 go_wp2_with fail
 clear q0
 refine (read10 (rd_lit_m w (29,30) .u8 al10B _ _ rfl (by decide))).mono ?_
 rintro en w1 ⟨vA,vn,vc,rA,rn,rc,uA,un,uc,us,rfl,hv,hr,hu,hun,hb⟩
 obtain rfl:2=rn:=hr.len
 have hvn:1=vn:=hv.len
 have HUN:Hid (un≤1000):=by show un≤1000;have h1:([v10]:List Vr).length=1:=rfl;omega
 have HB1:=hd_ ((qa_ w _).trans (hb.mono (by simp)))
 have HBX:Hid (Below w1.heap.size w1 (w1.alloc (.cells #[.slice vA vn vc,.slice rA 2 rc,.slice none 0 0,.slice uA un uc] 36))):=qa_ _ _
 have HRX:=hd_ (heap_alloc_new w1 (.cells #[.slice vA vn vc,.slice rA 2 rc,.slice none 0 0,.slice uA un uc] 36))
 have HV:=hd_ (hv.on HBX.out)
 have HR:=hd_ (hr.on HBX.out)
 have HU:=hd_ (hu.on HBX.out)
 have HB2:=hd_ (HB1.out.trans (HBX.out.mono HB1.out.size))
 clear hv hr hu hun hb hvn HB1
 go_upto_region 2 with fail
 have hlt:w1.heap.size<(w1.alloc (.cells #[.slice vA vn vc,.slice rA 2 rc,.slice none 0 0,.slice uA un uc] 36)).heap.size:=by simp
 clear HBX
 generalize hW2:w1.alloc (.cells #[.slice vA vn vc,.slice rA 2 rc,.slice none 0 0,.slice uA un uc] 36)=w2 at *
 clear hW2
 generalize hX:w1.heap.size=bx at *
 clear hX
 obtain ⟨s0,s1,s2,s3⟩:=qj_ HRX.out
 have HBY:Hid (Below w2.heap.size w2 (w2.alloc (.cells #[.slice vA vn vc,.slice rA 2 rc,.slice none 0 0,.slice uA un uc] 36))):=qa_ _ _
 have HRY:=hd_ (heap_alloc_new w2 (.cells #[.slice vA vn vc,.slice rA 2 rc,.slice none 0 0,.slice uA un uc] 36))
 have HOF:Hid (Calls Tryz.prog 12 #[.slice (some ⟨w2.heap.size,0,none⟩) 1 1] (w2.alloc (.cells #[.slice vA vn vc,.slice rA 2 rc,.slice none 0 0,.slice uA un uc] 36)) (SOfP (w2.alloc (.cells #[.slice vA vn vc,.slice rA 2 rc,.slice none 0 0,.slice uA un uc] 36)) l10)):=by
  rw[← rules10]
  exact sof_one (S:=Bl (w2.alloc (.cells #[.slice vA vn vc,.slice rA 2 rc,.slice none 0 0,.slice uA un uc] 36))) (fun b hb=>hb) HRY.out (HR.out.on HBY.out) okrs10 (by decide)
 go_wp2_with fail
 refine HOF.out.mono ?_
 rintro en w3 ⟨w7,ho,hb⟩
 obtain ⟨A,n,c,gs,rfl,hg,hgl,rfl,hb7⟩:=of10 ho
 have HW23:=hd_ (HBY.out.trans ((hb.trans (hb7.mono hb.size)).mono HBY.out.size))
 have HRX3:=hd_ ((HW23.out.block bx hlt).trans HRX.out)
 have HV3:=hd_ (HV.out.on HW23.out)
 have HR3:=hd_ (HR.out.on HW23.out)
 have HU3:=hd_ (HU.out.on HW23.out)
 have HB3:=hd_ (HB2.out.trans (HW23.out.mono HB2.out.size))
 have HLT3:Hid (bx<w3.heap.size):=Nat.lt_of_lt_of_le hlt HW23.out.size
 have HG3:=hd_ hg
 have HGL:=hd_ hgl
 have HBO:=hd_ (book_any (S:=Bl w3) (fun b hb=>hb) hg (by have:=hg.len;omega) (by rw[hgl];exact firsts10) HV3.out HR3.out HU3.out HUN.out)
 clear ho hb hb7 hg hgl HBY HRY HOF HW23 HV HU HR HV3 HU3 HRX hlt s0 s1 s2 s3
 obtain ⟨s0,s1,s2,s3⟩:=qj_ HRX3.out
 go_wp2_with fail
 refine HBO.out.mono ?_
 rintro en w4 ⟨vA', vn', vc', N,rc', uA', un', uc', cur,rfl,hN,hrow,hsz,hc2,hcm,a2,a6,hb4⟩
 have HN:=hd_ hrow
 have HA2:=hd_ (a2.keep (S' := Bl w4) (fun b hb=>hb.2) (fun _ _=>rfl))
 have HA6:=hd_ (a6.keep (S' := Bl w4) (fun b hb=>hb.2) (fun _ _=>rfl))
 have HB4:=hd_ (HB3.out.trans (hb4.mono HB3.out.size))
 have HR4:=hd_ (HR3.out.on hb4)
 have HG4:=hd_ (HG3.out.on hb4)
 have HRX4:=hd_ ((hb4.block bx HLT3.out).trans HRX3.out)
 have HBZ:Hid (Below w4.heap.size w4 (w4.alloc (.cells #[.slice vA' vn' vc', .slice (some ⟨N,0,none⟩) 2 rc', .slice none 0 0,.slice uA' un' uc'] 36))):=qa_ _ _
 have HRY:=hd_ (heap_alloc_new w4 (.cells #[.slice vA' vn' vc', .slice (some ⟨N,0,none⟩) 2 rc', .slice none 0 0,.slice uA' un' uc'] 36))
 have HLT4:Hid (bx<w4.heap.size):=qq_ HRX4.out
 have HLN4:Hid (N<w4.heap.size):=qq_ HN.out
 clear hN hrow hsz hc2 hcm a2 a6 hb4 HB3 HR3 HG3 HRX3 HB2 HBO s0 s1 s2 s3
 go_upto_region 6 with fail
 have HB5:=hd_ (HB4.out.trans (HBZ.out.mono HB4.out.size))
 have HN5:=hd_ ((HBZ.out.block N HLN4.out).trans HN.out)
 have HRX5:=hd_ ((HBZ.out.block bx HLT4.out).trans HRX4.out)
 have HA25:Hid (A4 (w4.alloc (.cells #[.slice vA' vn' vc', .slice (some ⟨N,0,none⟩) 2 rc', .slice none 0 0,.slice uA' un' uc'] 36)) (Bl (w4.alloc (.cells #[.slice vA' vn' vc', .slice (some ⟨N,0,none⟩) 2 rc', .slice none 0 0,.slice uA' un' uc'] 36))) cur 2 t10A):=HA2.out.keep (fun b hb=>Nat.lt_of_lt_of_le hb HBZ.out.size) (fun p hp=>HBZ.out.cell hp)
 have HA65:Hid (A4 (w4.alloc (.cells #[.slice vA' vn' vc', .slice (some ⟨N,0,none⟩) 2 rc', .slice none 0 0,.slice uA' un' uc'] 36)) (Bl (w4.alloc (.cells #[.slice vA' vn' vc', .slice (some ⟨N,0,none⟩) 2 rc', .slice none 0 0,.slice uA' un' uc'] 36))) cur 6 t10B):=HA6.out.keep (fun b hb=>Nat.lt_of_lt_of_le hb HBZ.out.size) (fun p hp=>HBZ.out.cell hp)
 have HR5:=hd_ (HR4.out.on HBZ.out)
 have HG5:=hd_ (HG4.out.on HBZ.out)
 clear HB4 HN HRX4 HA2 HA6 HR4 HG4 HBZ HLT4 HLN4
 generalize hW5:w4.alloc (.cells #[.slice vA' vn' vc', .slice (some ⟨N,0,none⟩) 2 rc', .slice none 0 0,.slice uA' un' uc'] 36)=w5 at *
 clear hW5
 generalize hY:w4.heap.size=Y at *
 clear hY
 have HI6:=hd_ (qa_ w5 (.cells #[.int .i64 120,.int .i64 97,.int .i64 98] 3))
 have HWO:Hid (Calls Tryz.prog 6 #[.slice A 3 c,.slice (some ⟨w5.heap.size,0,none⟩) 3 3] (w5.alloc (.cells #[.int .i64 120,.int .i64 97,.int .i64 98] 3)) (WdS (w5.alloc (.cells #[.int .i64 120,.int .i64 97,.int .i64 98] 3)) [0,1,2])):=wd_some (by
  rw[← word10 HGL.out]
  exact sword_any (HG5.out.on HI6.out) (lit_i w5 [120,97,98] (by decide)) (by decide))
 go_wp2_with fail
 refine HWO.out.mono ?_
 rintro en w6 ⟨A6,n6,c6,rfl,hr6,hb6⟩
 have HW56:=hd_ (HI6.out.trans (hb6.mono HI6.out.size))
 have HI:=hd_ hr6
 have HG6:=hd_ (HG5.out.on HW56.out)
 have hn6:n6=3:=hr6.len.symm
 subst hn6
 have HCH:Hid (Calls Tryz.prog 8 #[.slice A 3 c,.slice A6 3 c6] w6 (WdS w6 [0,97,98])):=wd_some (by
  rw[← (chars10 HGL.out).1]
  exact schars_any HG6.out (by have:=HG6.out.len;omega) hr6 (by decide))
 clear hr6 hb6 HWO HI6 HG5
 go_wp2_with fail
 refine HCH.out.mono ?_
 rintro en w7 ⟨A7,n7,c7,rfl,hr7,hb7⟩
 have HI7:=hd_ (HI.out.on hb7)
 have HJ7:=hd_ hr7
 have HG7:=hd_ (HG6.out.on hb7)
 have HW57:=hd_ (HW56.out.trans (hb7.mono HW56.out.size))
 have hn7:n7=3:=hr7.len.symm
 subst hn7
 have HI8:=hd_ (qa_ w7 (.cells #[.int .i64 3] 3))
 have HCN:Hid (Calls Tryz.prog 8 #[.slice A 3 c,.slice (some ⟨w7.heap.size,0,none⟩) 1 1] (w7.alloc (.cells #[.int .i64 3] 3)) (WdN (w7.alloc (.cells #[.int .i64 3] 3)))):=wd_no (by
  rw[← (chars10 HGL.out).2]
  exact schars_any (HG7.out.on HI8.out) (by have:=HG7.out.len;omega) (lit_i w7 [3] (by decide)) (by decide))
 clear hr7 hb7 HCH HG6 HW56 HI
 go_wp2_with fail
 refine HCN.out.mono ?_
 rintro en w8 ⟨A8,n8,c8,rfl,hb8⟩
 have HW78:=hd_ (HI8.out.trans (hb8.mono HI8.out.size))
 have HW58:=hd_ (HW57.out.trans (HW78.out.mono HW57.out.size))
 obtain ⟨sA,sn,sc,gA,gn,gc,kA,kn,kc,e2,e3,e4,e5,hp⟩:=HA25.out
 obtain ⟨tA,tn,tc,uA2,un2,uc2,lA,ln,lc,e6,e7,e8,e9,hq⟩:=HA65.out
 have hqk:=hq.kids
 obtain rfl:1=ln:=hqk.len
 obtain ⟨kb,ko,z,zA,zn,zc,hA,hn,hc,yA,yn,yc,eA,hkb,hz,hin,z0,z1,z2,z3⟩:=hqk.got (i:=0) (by omega)
 have ez:Pt.mk 2 [(98,98)] [2] []=z:=Option.some.inj hz
 subst ez
 obtain ⟨rb,ro,r,cs,eR,hrb,hr0,hat,hcs⟩:=HR5.out.got (i:=0) (by omega)
 have er:r10a=r:=Option.some.inj hr0
 subst er
 subst eR
 obtain ⟨s2A,s2n,s2c,g2A,g2n,g2c,k2A,k2n,k2c,s3A,s3n,s3c,g3A,g3n,g3c,k3A,k3n,k3c,hpb,hpa,q0,q1,q2,q3,q4,q5,q6,q7,q8,q9,q10⟩:=rule_cells11 (o:=ro) hat (fun j u hu=>by
  have h:=hcs j u hu
  rwa [Nat.zero_mul,Nat.add_zero] at h)
 obtain ⟨b0,b1,b2,b3⟩:=qj_ HRX5.out
 rw[Nat.zero_mul,Nat.add_zero] at z2
 have hy5:=(qj_ HRY.out).2.1
 have HA5:Hid (AlF bx Y N kb ko rb ro rc rc' sA gA kA lA hA A6 A7 A sn sc gn gc kn kc lc hn hc c6 c7 c s2A g2A k2A s3A g3A k3A s2n s2c g2n g2c k2n k2c s3n s3c g3n g3c k3n k3c gs w8):=by
  have hw:=HW58.out
  have e:∀ {b o:Nat},b<w5.heap.size→w8.cell? ⟨b,o,none⟩=w5.cell? ⟨b,o,none⟩:=fun {b o} hl=>hw.cell (p:=⟨b,o,none⟩) hl
  have tY:=qq_ HRY.out
  have tN:=qq_ HN5.out
  have tX:=qq_ HRX5.out
  have hs:=hw.size
  exact ⟨(e tY).trans hy5,(e tN).trans (qr_ HN5.out e2),(e tN).trans (qr_ HN5.out e3),(e tN).trans (qr_ HN5.out e4),(e tN).trans (qr_ HN5.out e5),(e tN).trans (qr_ HN5.out e9),eA,(e hkb).trans z2,(e tX).trans b1,(e hrb).trans q2,(e hrb).trans q3,(e hrb).trans q4,(e hrb).trans q5,(e hrb).trans q6,(e hrb).trans q7,(e hrb).trans q8,(e hrb).trans q9,⟨by omega,by omega,Nat.lt_of_lt_of_le hkb hs,by omega,Nat.lt_of_lt_of_le hrb hs⟩,hp.on hw,(hin.signs).on hw,hpb.on hw,hpa.on hw,(HI7.out.on HW78.out).ins,(HJ7.out.on HW78.out).ins,HG7.out.on HW78.out⟩
 have HA8:=HA5
 have HB8:=hd_ (HB5.out.trans (HW58.out.mono HB5.out.size))
 subst eA
 clear HA5 HW78 HW58 HW57 hp hq hqk hkb hz hin z0 z1 z2 z3 hrb hr0 hat hcs hpb hpa q0 q1 q2 q3 q4 q5 q6 q7 q8 q9 q10 b0 b1 b2 b3 hy5 e2 e3 e4 e5 e6 e7 e8 e9 HA25 HA65 HR5 HI7 HJ7 HG7 HI8 hb8 HCN HN5 HRX5 HRY HB5
 go_upto_region 9 with fail
 have HA8d:=hd_ (HA8.out.on (wy:=w8.drew) (qb_ (Below.refl w8.heap.size w8) 1))
 have HA8n:=hd_ (HA8.out.on (qb_ (Below.refl w8.heap.size w8) 1))
 have HA8p:=hd_ (HA8.out.on (wy:=(w8.alloc (.cells #[.int .i64 1,.int .i64 2] 3)).drew) (qb_ (qa_ w8 (.cells #[.int .i64 1,.int .i64 2] 3)) 1))
 have HA8q:=hd_ (HA8.out.on (wy:=(w8.drew).alloc (.cells #[.int .i64 1,.int .i64 2] 3)) (qb_ (qa_ w8 (.cells #[.int .i64 1,.int .i64 2] 3)) 1))
 have HB8d:=hd_ (qb_ HB8.out 1)
 refine wp_region_held_drew (S:=(fun w' => w'.cell? ⟨Y,1,none⟩=some (.slice (some ⟨N,0,none⟩) 2 rc')∧w'.cell? ⟨N,2,none⟩=some (.int .i64 t10A.kind)∧w'.cell? ⟨N,3,none⟩=some (.slice sA sn sc)∧w'.cell? ⟨N,4,none⟩=some (.slice gA gn gc)∧w'.cell? ⟨N,5,none⟩=some (.slice kA kn kc)∧w'.cell? ⟨N,9,none⟩=some (.slice (some ⟨kb,ko,none⟩) 1 lc)∧w'.cell? ⟨kb,ko+2,none⟩=some (.slice hA hn hc)∧w'.cell? ⟨bx,1,none⟩=some (.slice (some ⟨rb,ro,none⟩) 2 rc)∧w'.cell? ⟨rb,ro+2,none⟩=some (.int .i64 p10A.kind)∧w'.cell? ⟨rb,ro+3,none⟩=some (.slice s2A s2n s2c)∧w'.cell? ⟨rb,ro+4,none⟩=some (.slice g2A g2n g2c)∧w'.cell? ⟨rb,ro+5,none⟩=some (.slice k2A k2n k2c)∧w'.cell? ⟨rb,ro+6,none⟩=some (.int .i64 p10B.kind)∧w'.cell? ⟨rb,ro+7,none⟩=some (.slice s3A s3n s3c)∧w'.cell? ⟨rb,ro+8,none⟩=some (.slice g3A g3n g3c)∧w'.cell? ⟨rb,ro+9,none⟩=some (.slice k3A k3n k3c))) (by kernel_rfl) ?_ (fun hHeld=>?_)
 ·exact HA8d.out.all
 refine K_t 0 60 (v:=?_) rfl rfl (by kernel_rfl) (fun _ _ _ h=>h) ?_ ?_ (by assumption) ?_
 rotate_left
 ·with_unfolding_all rfl
 ·intro wz hSw
  try dsimp only at hSw
  go_simp
  with_reducible rfl
 try simp only[Act.put,List.setIfInBounds_toArray,List.set_cons_zero,List.set_cons_succ]
 refine K_t 1 61 (v:=?_) rfl rfl (by kernel_rfl) (fun _ _ _ h=>h) ?_ ?_ (by assumption) ?_
 rotate_left
 ·with_unfolding_all rfl
 ·intro wz hSw
  try dsimp only at hSw
  go_simp
  with_reducible rfl
 try simp only[Act.put,List.setIfInBounds_toArray,List.set_cons_zero,List.set_cons_succ]
 refine K_t 2 62 (v:=?_) rfl rfl (by kernel_rfl) (fun _ _ _ h=>h) ?_ ?_ (by assumption) ?_
 rotate_left
 ·with_unfolding_all rfl
 ·intro wz hSw
  try dsimp only at hSw
  go_simp
  with_reducible rfl
 try simp only[Act.put,List.setIfInBounds_toArray,List.set_cons_zero,List.set_cons_succ]
 refine K_t 3 63 (v:=?_) rfl rfl (by kernel_rfl) (fun _ _ _ h=>h) ?_ ?_ (by assumption) ?_
 rotate_left
 ·with_unfolding_all rfl
 ·intro wz hSw
  try dsimp only at hSw
  go_simp
  with_reducible rfl
 try simp only[Act.put,List.setIfInBounds_toArray,List.set_cons_zero,List.set_cons_succ]
 refine K_t 4 64 (v:=?_) rfl rfl (by kernel_rfl) (fun _ _ _ h=>h) ?_ ?_ (by assumption) ?_
 rotate_left
 ·with_unfolding_all rfl
 ·intro wz hSw
  try dsimp only at hSw
  go_simp
  with_reducible rfl
 try simp only[Act.put,List.setIfInBounds_toArray,List.set_cons_zero,List.set_cons_succ]
 refine K_t 5 65 (v:=?_) rfl rfl (by kernel_rfl) (fun _ _ _ h=>h) ?_ ?_ (by assumption) ?_
 rotate_left
 ·with_unfolding_all rfl
 ·intro wz hSw
  try dsimp only at hSw
  go_simp
  with_reducible rfl
 try simp only[Act.put,List.setIfInBounds_toArray,List.set_cons_zero,List.set_cons_succ]
 refine K_t 6 66 (v:=?_) rfl rfl (by kernel_rfl) (fun _ _ _ h=>h) ?_ ?_ (by assumption) ?_
 rotate_left
 ·with_unfolding_all rfl
 ·intro wz hSw
  try dsimp only at hSw
  go_simp
  with_reducible rfl
 try simp only[Act.put,List.setIfInBounds_toArray,List.set_cons_zero,List.set_cons_succ]
 refine K_t 7 67 (v:=?_) rfl rfl (by kernel_rfl) (fun _ _ _ h=>h) ?_ ?_ (by assumption) ?_
 rotate_left
 ·with_unfolding_all rfl
 ·intro wz hSw
  try dsimp only at hSw
  go_simp
  with_reducible rfl
 try simp only[Act.put,List.setIfInBounds_toArray,List.set_cons_zero,List.set_cons_succ]
 refine K_t 8 68 (v:=?_) rfl rfl (by kernel_rfl) (fun _ _ _ h=>h) ?_ ?_ (by assumption) ?_
 rotate_left
 ·with_unfolding_all rfl
 ·intro wz hSw
  try dsimp only at hSw
  go_simp
  with_reducible rfl
 try simp only[Act.put,List.setIfInBounds_toArray,List.set_cons_zero,List.set_cons_succ]
 refine K_t 9 69 (v:=?_) rfl rfl (by kernel_rfl) (fun _ _ _ h=>h) ?_ ?_ (by assumption) ?_
 rotate_left
 ·with_unfolding_all rfl
 ·intro wz hSw
  try dsimp only at hSw
  go_simp
  with_reducible rfl
 try simp only[Act.put,List.setIfInBounds_toArray,List.set_cons_zero,List.set_cons_succ]
 refine K_t 10 70 (v:=?_) rfl rfl (by kernel_rfl) (fun _ _ _ h=>h) ?_ ?_ (by assumption) ?_
 rotate_left
 ·with_unfolding_all rfl
 ·intro wz hSw
  try dsimp only at hSw
  go_simp
  with_reducible rfl
 try simp only[Act.put,List.setIfInBounds_toArray,List.set_cons_zero,List.set_cons_succ]
 refine wpAnyH_ready (rs:=[11]) (by kernel_rfl) (by simp) ?_
 refine AllReadyH.cons rfl (fun K hK=>?_) AllReadyH.nil
 go_simp
 refine hK.out _ _ ?_ (fun hHeld=>?_)
 ·(first|with_reducible exact HA9.out.all|with_reducible exact HA9p.out.all|with_reducible exact HA10.out.all|with_reducible exact HA10p.out.all|with_reducible exact HA11.out.all|with_reducible exact HA11p.out.all|with_reducible exact HA12.out.all|with_reducible exact HA13.out.all|with_reducible exact HA14.out.all|with_reducible exact HA15.out.all|with_reducible exact HA8p.out.all|with_reducible exact HA8q.out.all|with_reducible exact HA8n.out.all|with_reducible exact HA8d.out.all)
 clear hK K
 refine wpAnyH_ready (rs:=[12]) (by kernel_rfl) (by simp) ?_
 refine AllReadyH.cons rfl (fun K hK=>?_) AllReadyH.nil
 go_simp
 go_wp2_with fail
 have HC8:Hid (Calls Tryz.prog 10 #[.slice gA gn gc,.slice (some ⟨w8.heap.size,0,none⟩) 2 2] (w8.alloc (.cells #[.int .i64 1,.int .i64 2] 3)).drew (BooK ((w8.alloc (.cells #[.int .i64 1,.int .i64 2] 3)).drew) true)):=(by have h:=pints_b (w:=(w8.alloc (.cells #[.int .i64 1,.int .i64 2] 3)).drew) (a:=[1,2]) (b:=[1,2]) ((HA8.out.on (qb_ (qa_ w8 (.cells #[.int .i64 1,.int .i64 2] 3)) 1)).p.signs) ((lit_i w8 [1,2] (by decide)).drewN 1).ins;rw[show decide (([1,2]:List Int)=[1,2])=true from by decide] at h;exact h)
 (with_reducible refine HC8.out.mono ?_)
 rintro en w9 ⟨rfl,hb⟩
 have HA9:=hd_ (HA8.out.on ((qb_ (qa_ w8 (.cells #[.int .i64 1,.int .i64 2] 3)) 1).trans (hb.mono (qb_ (qa_ w8 (.cells #[.int .i64 1,.int .i64 2] 3)) 1).size)))
 have HA9p:=hd_ (HA9.out.on (qa_ w9 (.cells #[.int .i64 2] 3)))
 have HB9:=hd_ (HB8.out.trans (((qb_ (qa_ w8 (.cells #[.int .i64 1,.int .i64 2] 3)) 1).trans (hb.mono (qb_ (qa_ w8 (.cells #[.int .i64 1,.int .i64 2] 3)) 1).size)).mono HB8.out.size))
 clear hb
 refine hK.out _ _ ?_ (fun hHeld=>?_)
 ·(first|with_reducible exact HA9.out.all|with_reducible exact HA9p.out.all|with_reducible exact HA10.out.all|with_reducible exact HA10p.out.all|with_reducible exact HA11.out.all|with_reducible exact HA11p.out.all|with_reducible exact HA12.out.all|with_reducible exact HA13.out.all|with_reducible exact HA14.out.all|with_reducible exact HA15.out.all|with_reducible exact HA8p.out.all|with_reducible exact HA8q.out.all|with_reducible exact HA8n.out.all|with_reducible exact HA8d.out.all)
 clear hK K
 refine K_t 13 73 (v:=?_) rfl rfl (by kernel_rfl) (fun _ _ _ h=>h) ?_ ?_ (by assumption) ?_
 rotate_left
 ·with_unfolding_all rfl
 ·intro wz hSw
  try dsimp only at hSw
  go_simp
  with_reducible rfl
 try simp only[Act.put,List.setIfInBounds_toArray,List.set_cons_zero,List.set_cons_succ]
 refine K_t 14 74 (v:=?_) rfl rfl (by kernel_rfl) (fun _ _ _ h=>h) ?_ ?_ (by assumption) ?_
 rotate_left
 ·with_unfolding_all rfl
 ·intro wz hSw
  try dsimp only at hSw
  go_simp
  with_reducible rfl
 try simp only[Act.put,List.setIfInBounds_toArray,List.set_cons_zero,List.set_cons_succ]
 refine K_t 15 75 (v:=?_) rfl rfl (by kernel_rfl) (fun _ _ _ h=>h) ?_ ?_ (by assumption) ?_
 rotate_left
 ·with_unfolding_all rfl
 ·intro wz hSw
  try dsimp only at hSw
  go_simp
  with_reducible rfl
 try simp only[Act.put,List.setIfInBounds_toArray,List.set_cons_zero,List.set_cons_succ]
 refine K_t 16 76 (v:=?_) rfl rfl (by kernel_rfl) (fun _ _ _ h=>h) ?_ ?_ (by assumption) ?_
 rotate_left
 ·with_unfolding_all rfl
 ·intro wz hSw
  try dsimp only at hSw
  go_simp
  with_reducible rfl
 try simp only[Act.put,List.setIfInBounds_toArray,List.set_cons_zero,List.set_cons_succ]
 refine K_t 17 77 (v:=?_) rfl rfl (by kernel_rfl) (fun _ _ _ h=>h) ?_ ?_ (by assumption) ?_
 rotate_left
 ·with_unfolding_all rfl
 ·intro wz hSw
  try dsimp only at hSw
  go_simp
  with_reducible rfl
 try simp only[Act.put,List.setIfInBounds_toArray,List.set_cons_zero,List.set_cons_succ]
 refine K_t 18 78 (v:=?_) rfl rfl (by kernel_rfl) (fun _ _ _ h=>h) ?_ ?_ (by assumption) ?_
 rotate_left
 ·with_unfolding_all rfl
 ·intro wz hSw
  try dsimp only at hSw
  go_simp
  with_reducible rfl
 try simp only[Act.put,List.setIfInBounds_toArray,List.set_cons_zero,List.set_cons_succ]
 refine K_t 19 79 (v:=?_) rfl rfl (by kernel_rfl) (fun _ _ _ h=>h) ?_ ?_ (by assumption) ?_
 rotate_left
 ·with_unfolding_all rfl
 ·intro wz hSw
  try dsimp only at hSw
  go_simp
  with_reducible rfl
 try simp only[Act.put,List.setIfInBounds_toArray,List.set_cons_zero,List.set_cons_succ]
 refine K_t 20 80 (v:=?_) rfl rfl (by kernel_rfl) (fun _ _ _ h=>h) ?_ ?_ (by assumption) ?_
 rotate_left
 ·with_unfolding_all rfl
 ·intro wz hSw
  try dsimp only at hSw
  go_simp
  with_reducible rfl
 try simp only[Act.put,List.setIfInBounds_toArray,List.set_cons_zero,List.set_cons_succ]
 refine K_t 21 81 (v:=?_) rfl rfl (by kernel_rfl) (fun _ _ _ h=>h) ?_ ?_ (by assumption) ?_
 rotate_left
 ·with_unfolding_all rfl
 ·intro wz hSw
  try dsimp only at hSw
  go_simp
  with_reducible rfl
 try simp only[Act.put,List.setIfInBounds_toArray,List.set_cons_zero,List.set_cons_succ]
 refine K_t 22 82 (v:=?_) rfl rfl (by kernel_rfl) (fun _ _ _ h=>h) ?_ ?_ (by assumption) ?_
 rotate_left
 ·with_unfolding_all rfl
 ·intro wz hSw
  try dsimp only at hSw
  go_simp
  with_reducible rfl
 try simp only[Act.put,List.setIfInBounds_toArray,List.set_cons_zero,List.set_cons_succ]
 refine K_t 23 83 (v:=?_) rfl rfl (by kernel_rfl) (fun _ _ _ h=>h) ?_ ?_ (by assumption) ?_
 rotate_left
 ·with_unfolding_all rfl
 ·intro wz hSw
  try dsimp only at hSw
  go_simp
  with_reducible rfl
 try simp only[Act.put,List.setIfInBounds_toArray,List.set_cons_zero,List.set_cons_succ]
 refine K_t 24 84 (v:=?_) rfl rfl (by kernel_rfl) (fun _ _ _ h=>h) ?_ ?_ (by assumption) ?_
 rotate_left
 ·with_unfolding_all rfl
 ·intro wz hSw
  try dsimp only at hSw
  go_simp
  with_reducible rfl
 try simp only[Act.put,List.setIfInBounds_toArray,List.set_cons_zero,List.set_cons_succ]
 refine K_t 25 85 (v:=?_) rfl rfl (by kernel_rfl) (fun _ _ _ h=>h) ?_ ?_ (by assumption) ?_
 rotate_left
 ·with_unfolding_all rfl
 ·intro wz hSw
  try dsimp only at hSw
  go_simp
  with_reducible rfl
 try simp only[Act.put,List.setIfInBounds_toArray,List.set_cons_zero,List.set_cons_succ]
 refine K_t 26 86 (v:=?_) rfl rfl (by kernel_rfl) (fun _ _ _ h=>h) ?_ ?_ (by assumption) ?_
 rotate_left
 ·with_unfolding_all rfl
 ·intro wz hSw
  try dsimp only at hSw
  go_simp
  with_reducible rfl
 try simp only[Act.put,List.setIfInBounds_toArray,List.set_cons_zero,List.set_cons_succ]
 refine K_t 27 87 (v:=?_) rfl rfl (by kernel_rfl) (fun _ _ _ h=>h) ?_ ?_ (by assumption) ?_
 rotate_left
 ·with_unfolding_all rfl
 ·intro wz hSw
  try dsimp only at hSw
  go_simp
  with_reducible rfl
 try simp only[Act.put,List.setIfInBounds_toArray,List.set_cons_zero,List.set_cons_succ]
 refine K_t 28 88 (v:=?_) rfl rfl (by kernel_rfl) (fun _ _ _ h=>h) ?_ ?_ (by assumption) ?_
 rotate_left
 ·with_unfolding_all rfl
 ·intro wz hSw
  try dsimp only at hSw
  go_simp
  with_reducible rfl
 try simp only[Act.put,List.setIfInBounds_toArray,List.set_cons_zero,List.set_cons_succ]
 refine K_t 29 89 (v:=?_) rfl rfl (by kernel_rfl) (fun _ _ _ h=>h) ?_ ?_ (by assumption) ?_
 rotate_left
 ·with_unfolding_all rfl
 ·intro wz hSw
  try dsimp only at hSw
  go_simp
  with_reducible rfl
 try simp only[Act.put,List.setIfInBounds_toArray,List.set_cons_zero,List.set_cons_succ]
 refine K_t 30 90 (v:=?_) rfl rfl (by kernel_rfl) (fun _ _ _ h=>h) ?_ ?_ (by assumption) ?_
 rotate_left
 ·with_unfolding_all rfl
 ·intro wz hSw
  try dsimp only at hSw
  go_simp
  with_reducible rfl
 try simp only[Act.put,List.setIfInBounds_toArray,List.set_cons_zero,List.set_cons_succ]
 refine K_t 31 91 (v:=?_) rfl rfl (by kernel_rfl) (fun _ _ _ h=>h) ?_ ?_ (by assumption) ?_
 rotate_left
 ·with_unfolding_all rfl
 ·intro wz hSw
  try dsimp only at hSw
  go_simp
  with_reducible rfl
 try simp only[Act.put,List.setIfInBounds_toArray,List.set_cons_zero,List.set_cons_succ]
 refine K_t 32 92 (v:=?_) rfl rfl (by kernel_rfl) (fun _ _ _ h=>h) ?_ ?_ (by assumption) ?_
 rotate_left
 ·with_unfolding_all rfl
 ·intro wz hSw
  try dsimp only at hSw
  go_simp
  with_reducible rfl
 try simp only[Act.put,List.setIfInBounds_toArray,List.set_cons_zero,List.set_cons_succ]
 refine K_t 33 93 (v:=?_) rfl rfl (by kernel_rfl) (fun _ _ _ h=>h) ?_ ?_ (by assumption) ?_
 rotate_left
 ·with_unfolding_all rfl
 ·intro wz hSw
  try dsimp only at hSw
  go_simp
  with_reducible rfl
 try simp only[Act.put,List.setIfInBounds_toArray,List.set_cons_zero,List.set_cons_succ]
 refine wpAnyH_ready (rs:=[34]) (by kernel_rfl) (by simp) ?_
 refine AllReadyH.cons rfl (fun K hK=>?_) AllReadyH.nil
 go_simp
 refine hK.out _ _ ?_ (fun hHeld=>?_)
 ·(first|with_reducible exact HA9.out.all|with_reducible exact HA9p.out.all|with_reducible exact HA10.out.all|with_reducible exact HA10p.out.all|with_reducible exact HA11.out.all|with_reducible exact HA11p.out.all|with_reducible exact HA12.out.all|with_reducible exact HA13.out.all|with_reducible exact HA14.out.all|with_reducible exact HA15.out.all|with_reducible exact HA8p.out.all|with_reducible exact HA8q.out.all|with_reducible exact HA8n.out.all|with_reducible exact HA8d.out.all)
 clear hK K
 refine wpAnyH_ready (rs:=[35]) (by kernel_rfl) (by simp) ?_
 refine AllReadyH.cons rfl (fun K hK=>?_) AllReadyH.nil
 go_simp
 go_wp2_with fail
 have HC9:Hid (Calls Tryz.prog 10 #[.slice hA hn hc,.slice (some ⟨w9.heap.size,0,none⟩) 1 1] (w9.alloc (.cells #[.int .i64 2] 3)) (BooK (w9.alloc (.cells #[.int .i64 2] 3)) true)):=(by have h:=pints_b (a:=[2]) (b:=[2]) ((HA9.out.on (qa_ w9 (.cells #[.int .i64 2] 3))).h) (lit_i w9 [2] (by decide)).ins;rw[show decide (([2]:List Int)=[2])=true from by decide] at h;exact h)
 (with_reducible refine HC9.out.mono ?_)
 rintro en w10 ⟨rfl,hb⟩
 have HA10:=hd_ (HA9.out.on ((qa_ w9 (.cells #[.int .i64 2] 3)).trans (hb.mono (qa_ w9 (.cells #[.int .i64 2] 3)).size)))
 have HA10p:=hd_ (HA10.out.on (qa_ w10 (.cells #[.int .i64 0,.int .i64 1,.int .i64 2] 3)))
 have HB10:=hd_ (HB9.out.trans (((qa_ w9 (.cells #[.int .i64 2] 3)).trans (hb.mono (qa_ w9 (.cells #[.int .i64 2] 3)).size)).mono HB9.out.size))
 clear hb
 refine hK.out _ _ ?_ (fun hHeld=>?_)
 ·(first|with_reducible exact HA9.out.all|with_reducible exact HA9p.out.all|with_reducible exact HA10.out.all|with_reducible exact HA10p.out.all|with_reducible exact HA11.out.all|with_reducible exact HA11p.out.all|with_reducible exact HA12.out.all|with_reducible exact HA13.out.all|with_reducible exact HA14.out.all|with_reducible exact HA15.out.all|with_reducible exact HA8p.out.all|with_reducible exact HA8q.out.all|with_reducible exact HA8n.out.all|with_reducible exact HA8d.out.all)
 clear hK K
 refine K_t 36 96 (v:=?_) rfl rfl (by kernel_rfl) (fun _ _ _ h=>h) ?_ ?_ (by assumption) ?_
 rotate_left
 ·with_unfolding_all rfl
 ·intro wz hSw
  try dsimp only at hSw
  go_simp
  with_reducible rfl
 try simp only[Act.put,List.setIfInBounds_toArray,List.set_cons_zero,List.set_cons_succ]
 refine K_t 37 97 (v:=?_) rfl rfl (by kernel_rfl) (fun _ _ _ h=>h) ?_ ?_ (by assumption) ?_
 rotate_left
 ·with_unfolding_all rfl
 ·intro wz hSw
  try dsimp only at hSw
  go_simp
  with_reducible rfl
 try simp only[Act.put,List.setIfInBounds_toArray,List.set_cons_zero,List.set_cons_succ]
 refine K_t 38 98 (v:=?_) rfl rfl (by kernel_rfl) (fun _ _ _ h=>h) ?_ ?_ (by assumption) ?_
 rotate_left
 ·with_unfolding_all rfl
 ·intro wz hSw
  try dsimp only at hSw
  go_simp
  with_reducible rfl
 try simp only[Act.put,List.setIfInBounds_toArray,List.set_cons_zero,List.set_cons_succ]
 refine K_t 39 99 (v:=?_) rfl rfl (by kernel_rfl) (fun _ _ _ h=>h) ?_ ?_ (by assumption) ?_
 rotate_left
 ·with_unfolding_all rfl
 ·intro wz hSw
  try dsimp only at hSw
  go_simp
  with_reducible rfl
 try simp only[Act.put,List.setIfInBounds_toArray,List.set_cons_zero,List.set_cons_succ]
 refine K_t 40 100 (v:=?_) rfl rfl (by kernel_rfl) (fun _ _ _ h=>h) ?_ ?_ (by assumption) ?_
 rotate_left
 ·with_unfolding_all rfl
 ·intro wz hSw
  try dsimp only at hSw
  go_simp
  with_reducible rfl
 try simp only[Act.put,List.setIfInBounds_toArray,List.set_cons_zero,List.set_cons_succ]
 refine K_t 41 101 (v:=?_) rfl rfl (by kernel_rfl) (fun _ _ _ h=>h) ?_ ?_ (by assumption) ?_
 rotate_left
 ·with_unfolding_all rfl
 ·intro wz hSw
  try dsimp only at hSw
  go_simp
  with_reducible rfl
 try simp only[Act.put,List.setIfInBounds_toArray,List.set_cons_zero,List.set_cons_succ]
 refine K_t 42 102 (v:=?_) rfl rfl (by kernel_rfl) (fun _ _ _ h=>h) ?_ ?_ (by assumption) ?_
 rotate_left
 ·with_unfolding_all rfl
 ·intro wz hSw
  try dsimp only at hSw
  go_simp
  with_reducible rfl
 try simp only[Act.put,List.setIfInBounds_toArray,List.set_cons_zero,List.set_cons_succ]
 refine wpAnyH_ready (rs:=[43]) (by kernel_rfl) (by simp) ?_
 refine AllReadyH.cons rfl (fun K hK=>?_) AllReadyH.nil
 go_simp
 refine hK.out _ _ ?_ (fun hHeld=>?_)
 ·(first|with_reducible exact HA9.out.all|with_reducible exact HA9p.out.all|with_reducible exact HA10.out.all|with_reducible exact HA10p.out.all|with_reducible exact HA11.out.all|with_reducible exact HA11p.out.all|with_reducible exact HA12.out.all|with_reducible exact HA13.out.all|with_reducible exact HA14.out.all|with_reducible exact HA15.out.all|with_reducible exact HA8p.out.all|with_reducible exact HA8q.out.all|with_reducible exact HA8n.out.all|with_reducible exact HA8d.out.all)
 clear hK K
 refine wpAnyH_ready (rs:=[44]) (by kernel_rfl) (by simp) ?_
 refine AllReadyH.cons rfl (fun K hK=>?_) AllReadyH.nil
 go_simp
 go_wp2_with fail
 have HC10:Hid (Calls Tryz.prog 10 #[.slice A6 3 c6,.slice (some ⟨w10.heap.size,0,none⟩) 3 3] (w10.alloc (.cells #[.int .i64 0,.int .i64 1,.int .i64 2] 3)) (BooK (w10.alloc (.cells #[.int .i64 0,.int .i64 1,.int .i64 2] 3)) true)):=(by have h:=pints_b (a:=[0,1,2]) (b:=[0,1,2]) ((HA10.out.on (qa_ w10 (.cells #[.int .i64 0,.int .i64 1,.int .i64 2] 3))).i) (lit_i w10 [0,1,2] (by decide)).ins;rw[show decide (([0,1,2]:List Int)=[0,1,2])=true from by decide] at h;exact h)
 (with_reducible refine HC10.out.mono ?_)
 rintro en w11 ⟨rfl,hb⟩
 have HA11:=hd_ (HA10.out.on ((qa_ w10 (.cells #[.int .i64 0,.int .i64 1,.int .i64 2] 3)).trans (hb.mono (qa_ w10 (.cells #[.int .i64 0,.int .i64 1,.int .i64 2] 3)).size)))
 have HA11p:=hd_ (HA11.out.on (qa_ w11 (.cells #[.int .i64 0,.int .i64 97,.int .i64 98] 3)))
 have HB11:=hd_ (HB10.out.trans (((qa_ w10 (.cells #[.int .i64 0,.int .i64 1,.int .i64 2] 3)).trans (hb.mono (qa_ w10 (.cells #[.int .i64 0,.int .i64 1,.int .i64 2] 3)).size)).mono HB10.out.size))
 clear hb
 refine hK.out _ _ ?_ (fun hHeld=>?_)
 ·(first|with_reducible exact HA9.out.all|with_reducible exact HA9p.out.all|with_reducible exact HA10.out.all|with_reducible exact HA10p.out.all|with_reducible exact HA11.out.all|with_reducible exact HA11p.out.all|with_reducible exact HA12.out.all|with_reducible exact HA13.out.all|with_reducible exact HA14.out.all|with_reducible exact HA15.out.all|with_reducible exact HA8p.out.all|with_reducible exact HA8q.out.all|with_reducible exact HA8n.out.all|with_reducible exact HA8d.out.all)
 clear hK K
 refine K_t 45 105 (v:=?_) rfl rfl (by kernel_rfl) (fun _ _ _ h=>h) ?_ ?_ (by assumption) ?_
 rotate_left
 ·with_unfolding_all rfl
 ·intro wz hSw
  try dsimp only at hSw
  go_simp
  with_reducible rfl
 try simp only[Act.put,List.setIfInBounds_toArray,List.set_cons_zero,List.set_cons_succ]
 refine K_t 46 106 (v:=?_) rfl rfl (by kernel_rfl) (fun _ _ _ h=>h) ?_ ?_ (by assumption) ?_
 rotate_left
 ·with_unfolding_all rfl
 ·intro wz hSw
  try dsimp only at hSw
  go_simp
  with_reducible rfl
 try simp only[Act.put,List.setIfInBounds_toArray,List.set_cons_zero,List.set_cons_succ]
 refine K_t 47 107 (v:=?_) rfl rfl (by kernel_rfl) (fun _ _ _ h=>h) ?_ ?_ (by assumption) ?_
 rotate_left
 ·with_unfolding_all rfl
 ·intro wz hSw
  try dsimp only at hSw
  go_simp
  with_reducible rfl
 try simp only[Act.put,List.setIfInBounds_toArray,List.set_cons_zero,List.set_cons_succ]
 refine K_t 48 108 (v:=?_) rfl rfl (by kernel_rfl) (fun _ _ _ h=>h) ?_ ?_ (by assumption) ?_
 rotate_left
 ·with_unfolding_all rfl
 ·intro wz hSw
  try dsimp only at hSw
  go_simp
  with_reducible rfl
 try simp only[Act.put,List.setIfInBounds_toArray,List.set_cons_zero,List.set_cons_succ]
 refine K_t 49 109 (v:=?_) rfl rfl (by kernel_rfl) (fun _ _ _ h=>h) ?_ ?_ (by assumption) ?_
 rotate_left
 ·with_unfolding_all rfl
 ·intro wz hSw
  try dsimp only at hSw
  go_simp
  with_reducible rfl
 try simp only[Act.put,List.setIfInBounds_toArray,List.set_cons_zero,List.set_cons_succ]
 refine K_t 50 110 (v:=?_) rfl rfl (by kernel_rfl) (fun _ _ _ h=>h) ?_ ?_ (by assumption) ?_
 rotate_left
 ·with_unfolding_all rfl
 ·intro wz hSw
  try dsimp only at hSw
  go_simp
  with_reducible rfl
 try simp only[Act.put,List.setIfInBounds_toArray,List.set_cons_zero,List.set_cons_succ]
 refine K_t 51 111 (v:=?_) rfl rfl (by kernel_rfl) (fun _ _ _ h=>h) ?_ ?_ (by assumption) ?_
 rotate_left
 ·with_unfolding_all rfl
 ·intro wz hSw
  try dsimp only at hSw
  go_simp
  with_reducible rfl
 try simp only[Act.put,List.setIfInBounds_toArray,List.set_cons_zero,List.set_cons_succ]
 refine wpAnyH_ready (rs:=[52]) (by kernel_rfl) (by simp) ?_
 refine AllReadyH.cons rfl (fun K hK=>?_) AllReadyH.nil
 go_simp
 refine hK.out _ _ ?_ (fun hHeld=>?_)
 ·(first|with_reducible exact HA9.out.all|with_reducible exact HA9p.out.all|with_reducible exact HA10.out.all|with_reducible exact HA10p.out.all|with_reducible exact HA11.out.all|with_reducible exact HA11p.out.all|with_reducible exact HA12.out.all|with_reducible exact HA13.out.all|with_reducible exact HA14.out.all|with_reducible exact HA15.out.all|with_reducible exact HA8p.out.all|with_reducible exact HA8q.out.all|with_reducible exact HA8n.out.all|with_reducible exact HA8d.out.all)
 clear hK K
 refine wpAnyH_ready (rs:=[53]) (by kernel_rfl) (by simp) ?_
 refine AllReadyH.cons rfl (fun K hK=>?_) AllReadyH.nil
 go_simp
 go_wp2_with fail
 have HC11:Hid (Calls Tryz.prog 10 #[.slice A7 3 c7,.slice (some ⟨w11.heap.size,0,none⟩) 3 3] (w11.alloc (.cells #[.int .i64 0,.int .i64 97,.int .i64 98] 3)) (BooK (w11.alloc (.cells #[.int .i64 0,.int .i64 97,.int .i64 98] 3)) true)):=(by have h:=pints_b (a:=[0,97,98]) (b:=[0,97,98]) ((HA11.out.on (qa_ w11 (.cells #[.int .i64 0,.int .i64 97,.int .i64 98] 3))).j) (lit_i w11 [0,97,98] (by decide)).ins;rw[show decide (([0,97,98]:List Int)=[0,97,98])=true from by decide] at h;exact h)
 (with_reducible refine HC11.out.mono ?_)
 rintro en w12 ⟨rfl,hb⟩
 have HA12:=hd_ (HA11.out.on ((qa_ w11 (.cells #[.int .i64 0,.int .i64 97,.int .i64 98] 3)).trans (hb.mono (qa_ w11 (.cells #[.int .i64 0,.int .i64 97,.int .i64 98] 3)).size)))
 have HB12:=hd_ (HB11.out.trans (((qa_ w11 (.cells #[.int .i64 0,.int .i64 97,.int .i64 98] 3)).trans (hb.mono (qa_ w11 (.cells #[.int .i64 0,.int .i64 97,.int .i64 98] 3)).size)).mono HB11.out.size))
 clear hb
 refine hK.out _ _ ?_ (fun hHeld=>?_)
 ·(first|with_reducible exact HA9.out.all|with_reducible exact HA9p.out.all|with_reducible exact HA10.out.all|with_reducible exact HA10p.out.all|with_reducible exact HA11.out.all|with_reducible exact HA11p.out.all|with_reducible exact HA12.out.all|with_reducible exact HA13.out.all|with_reducible exact HA14.out.all|with_reducible exact HA15.out.all|with_reducible exact HA8p.out.all|with_reducible exact HA8q.out.all|with_reducible exact HA8n.out.all|with_reducible exact HA8d.out.all)
 clear hK K
 refine K_t 54 114 (v:=?_) rfl rfl (by kernel_rfl) (fun _ _ _ h=>h) ?_ ?_ (by assumption) ?_
 rotate_left
 ·with_unfolding_all rfl
 ·intro wz hSw
  try dsimp only at hSw
  go_simp
  with_reducible rfl
 try simp only[Act.put,List.setIfInBounds_toArray,List.set_cons_zero,List.set_cons_succ]
 refine K_t 55 115 (v:=?_) rfl rfl (by kernel_rfl) (fun _ _ _ h=>h) ?_ ?_ (by assumption) ?_
 rotate_left
 ·with_unfolding_all rfl
 ·intro wz hSw
  try dsimp only at hSw
  go_simp
  with_reducible rfl
 try simp only[Act.put,List.setIfInBounds_toArray,List.set_cons_zero,List.set_cons_succ]
 refine K_t 56 116 (v:=?_) rfl rfl (by kernel_rfl) (fun _ _ _ h=>h) ?_ ?_ (by assumption) ?_
 rotate_left
 ·with_unfolding_all rfl
 ·intro wz hSw
  try dsimp only at hSw
  go_simp
  with_reducible rfl
 try simp only[Act.put,List.setIfInBounds_toArray,List.set_cons_zero,List.set_cons_succ]
 refine K_t 57 117 (v:=?_) rfl rfl (by kernel_rfl) (fun _ _ _ h=>h) ?_ ?_ (by assumption) ?_
 rotate_left
 ·with_unfolding_all rfl
 ·intro wz hSw
  try dsimp only at hSw
  go_simp
  with_reducible rfl
 try simp only[Act.put,List.setIfInBounds_toArray,List.set_cons_zero,List.set_cons_succ]
 refine K_t 58 118 (v:=?_) rfl rfl (by kernel_rfl) (fun _ _ _ h=>h) ?_ ?_ (by assumption) ?_
 rotate_left
 ·with_unfolding_all rfl
 ·intro wz hSw
  try dsimp only at hSw
  go_simp
  with_reducible rfl
 try simp only[Act.put,List.setIfInBounds_toArray,List.set_cons_zero,List.set_cons_succ]
 refine K_t 59 119 (v:=?_) rfl rfl (by kernel_rfl) (fun _ _ _ h=>h) ?_ ?_ (by assumption) ?_
 rotate_left
 ·with_unfolding_all rfl
 ·intro wz hSw
  try dsimp only at hSw
  go_simp
  with_reducible rfl
 try simp only[Act.put,List.setIfInBounds_toArray,List.set_cons_zero,List.set_cons_succ]
 refine K_t 60 120 (v:=?_) rfl rfl (by kernel_rfl) (fun _ _ _ h=>h) ?_ ?_ (by assumption) ?_
 rotate_left
 ·with_unfolding_all rfl
 ·intro wz hSw
  try dsimp only at hSw
  go_simp
  with_reducible rfl
 try simp only[Act.put,List.setIfInBounds_toArray,List.set_cons_zero,List.set_cons_succ]
 refine K_t 61 121 (v:=?_) rfl rfl (by kernel_rfl) (fun _ _ _ h=>h) ?_ ?_ (by assumption) ?_
 rotate_left
 ·with_unfolding_all rfl
 ·intro wz hSw
  try dsimp only at hSw
  go_simp
  with_reducible rfl
 try simp only[Act.put,List.setIfInBounds_toArray,List.set_cons_zero,List.set_cons_succ]
 refine K_t 62 122 (v:=?_) rfl rfl (by kernel_rfl) (fun _ _ _ h=>h) ?_ ?_ (by assumption) ?_
 rotate_left
 ·with_unfolding_all rfl
 ·intro wz hSw
  try dsimp only at hSw
  go_simp
  with_reducible rfl
 try simp only[Act.put,List.setIfInBounds_toArray,List.set_cons_zero,List.set_cons_succ]
 refine K_t 63 123 (v:=?_) rfl rfl (by kernel_rfl) (fun _ _ _ h=>h) ?_ ?_ (by assumption) ?_
 rotate_left
 ·with_unfolding_all rfl
 ·intro wz hSw
  try dsimp only at hSw
  go_simp
  with_reducible rfl
 try simp only[Act.put,List.setIfInBounds_toArray,List.set_cons_zero,List.set_cons_succ]
 refine K_t 64 124 (v:=?_) rfl rfl (by kernel_rfl) (fun _ _ _ h=>h) ?_ ?_ (by assumption) ?_
 rotate_left
 ·with_unfolding_all rfl
 ·intro wz hSw
  try dsimp only at hSw
  go_simp
  with_reducible rfl
 try simp only[Act.put,List.setIfInBounds_toArray,List.set_cons_zero,List.set_cons_succ]
 refine wpAnyH_ready (rs:=[65]) (by kernel_rfl) (by simp) ?_
 refine AllReadyH.cons rfl (fun K hK=>?_) AllReadyH.nil
 go_simp
 go_wp2_with fail
 have HC12:Hid (Calls Tryz.prog 14 #[.agg #[.int .i64 p10B.kind,.slice s3A s3n s3c,.slice g3A g3n g3c,.slice k3A k3n k3c]] w12 (SetsP w12 1)):=(by rw[← star10];exact sets_one (S:=Bl w12) (fun b hb=>hb) HA12.out.a ⟨by decide,by decide,fun y hy=>by rw[List.mem_singleton.1 hy];decide⟩ (fun y hy=>by rw[List.mem_singleton.1 hy];rfl))
 (with_reducible refine HC12.out.mono ?_)
 rintro en w13 ⟨A9,c9,rfl,hb⟩
 have HA13:=hd_ (HA12.out.on hb)
 have HB13:=hd_ (HB12.out.trans (hb.mono HB12.out.size))
 clear hb
 refine hK.out _ _ ?_ (fun hHeld=>?_)
 ·(first|with_reducible exact HA9.out.all|with_reducible exact HA9p.out.all|with_reducible exact HA10.out.all|with_reducible exact HA10p.out.all|with_reducible exact HA11.out.all|with_reducible exact HA11p.out.all|with_reducible exact HA12.out.all|with_reducible exact HA13.out.all|with_reducible exact HA14.out.all|with_reducible exact HA15.out.all|with_reducible exact HA8p.out.all|with_reducible exact HA8q.out.all|with_reducible exact HA8n.out.all|with_reducible exact HA8d.out.all)
 clear hK K
 refine K_t 66 126 (v:=?_) rfl rfl (by kernel_rfl) (fun _ _ _ h=>h) ?_ ?_ (by assumption) ?_
 rotate_left
 ·with_unfolding_all rfl
 ·intro wz hSw
  try dsimp only at hSw
  go_simp
  with_reducible rfl
 try simp only[Act.put,List.setIfInBounds_toArray,List.set_cons_zero,List.set_cons_succ]
 refine K_t 67 127 (v:=?_) rfl rfl (by kernel_rfl) (fun _ _ _ h=>h) ?_ ?_ (by assumption) ?_
 rotate_left
 ·with_unfolding_all rfl
 ·intro wz hSw
  try dsimp only at hSw
  go_simp
  with_reducible rfl
 try simp only[Act.put,List.setIfInBounds_toArray,List.set_cons_zero,List.set_cons_succ]
 refine K_t 68 128 (v:=?_) rfl rfl (by kernel_rfl) (fun _ _ _ h=>h) ?_ ?_ (by assumption) ?_
 rotate_left
 ·with_unfolding_all rfl
 ·intro wz hSw
  try dsimp only at hSw
  go_simp
  with_reducible rfl
 try simp only[Act.put,List.setIfInBounds_toArray,List.set_cons_zero,List.set_cons_succ]
 refine K_t 69 129 (v:=?_) rfl rfl (by kernel_rfl) (fun _ _ _ h=>h) ?_ ?_ (by assumption) ?_
 rotate_left
 ·with_unfolding_all rfl
 ·intro wz hSw
  try dsimp only at hSw
  go_simp
  with_reducible rfl
 try simp only[Act.put,List.setIfInBounds_toArray,List.set_cons_zero,List.set_cons_succ]
 refine K_t 70 130 (v:=?_) rfl rfl (by kernel_rfl) (fun _ _ _ h=>h) ?_ ?_ (by assumption) ?_
 rotate_left
 ·with_unfolding_all rfl
 ·intro wz hSw
  try dsimp only at hSw
  go_simp
  with_reducible rfl
 try simp only[Act.put,List.setIfInBounds_toArray,List.set_cons_zero,List.set_cons_succ]
 refine K_t 71 131 (v:=?_) rfl rfl (by kernel_rfl) (fun _ _ _ h=>h) ?_ ?_ (by assumption) ?_
 rotate_left
 ·with_unfolding_all rfl
 ·intro wz hSw
  try dsimp only at hSw
  go_simp
  with_reducible rfl
 try simp only[Act.put,List.setIfInBounds_toArray,List.set_cons_zero,List.set_cons_succ]
 refine K_t 72 132 (v:=?_) rfl rfl (by kernel_rfl) (fun _ _ _ h=>h) ?_ ?_ (by assumption) ?_
 rotate_left
 ·with_unfolding_all rfl
 ·intro wz hSw
  try dsimp only at hSw
  go_simp
  with_reducible rfl
 try simp only[Act.put,List.setIfInBounds_toArray,List.set_cons_zero,List.set_cons_succ]
 refine K_t 73 133 (v:=?_) rfl rfl (by kernel_rfl) (fun _ _ _ h=>h) ?_ ?_ (by assumption) ?_
 rotate_left
 ·with_unfolding_all rfl
 ·intro wz hSw
  try dsimp only at hSw
  go_simp
  with_reducible rfl
 try simp only[Act.put,List.setIfInBounds_toArray,List.set_cons_zero,List.set_cons_succ]
 refine K_t 74 134 (v:=?_) rfl rfl (by kernel_rfl) (fun _ _ _ h=>h) ?_ ?_ (by assumption) ?_
 rotate_left
 ·with_unfolding_all rfl
 ·intro wz hSw
  try dsimp only at hSw
  go_simp
  with_reducible rfl
 try simp only[Act.put,List.setIfInBounds_toArray,List.set_cons_zero,List.set_cons_succ]
 refine K_t 75 135 (v:=?_) rfl rfl (by kernel_rfl) (fun _ _ _ h=>h) ?_ ?_ (by assumption) ?_
 rotate_left
 ·with_unfolding_all rfl
 ·intro wz hSw
  try dsimp only at hSw
  go_simp
  with_reducible rfl
 try simp only[Act.put,List.setIfInBounds_toArray,List.set_cons_zero,List.set_cons_succ]
 refine K_t 77 137 (v:=?_) rfl rfl (by kernel_rfl) (fun _ _ _ h=>h) ?_ ?_ (by assumption) ?_
 rotate_left
 ·with_unfolding_all rfl
 ·intro wz hSw
  try dsimp only at hSw
  go_simp
  with_reducible rfl
 try simp only[Act.put,List.setIfInBounds_toArray,List.set_cons_zero,List.set_cons_succ]
 refine K_t 78 138 (v:=?_) rfl rfl (by kernel_rfl) (fun _ _ _ h=>h) ?_ ?_ (by assumption) ?_
 rotate_left
 ·with_unfolding_all rfl
 ·intro wz hSw
  try dsimp only at hSw
  go_simp
  with_reducible rfl
 try simp only[Act.put,List.setIfInBounds_toArray,List.set_cons_zero,List.set_cons_succ]
 refine K_t 79 139 (v:=?_) rfl rfl (by kernel_rfl) (fun _ _ _ h=>h) ?_ ?_ (by assumption) ?_
 rotate_left
 ·with_unfolding_all rfl
 ·intro wz hSw
  try dsimp only at hSw
  go_simp
  with_reducible rfl
 try simp only[Act.put,List.setIfInBounds_toArray,List.set_cons_zero,List.set_cons_succ]
 refine K_t 80 140 (v:=?_) rfl rfl (by kernel_rfl) (fun _ _ _ h=>h) ?_ ?_ (by assumption) ?_
 rotate_left
 ·with_unfolding_all rfl
 ·intro wz hSw
  try dsimp only at hSw
  go_simp
  with_reducible rfl
 try simp only[Act.put,List.setIfInBounds_toArray,List.set_cons_zero,List.set_cons_succ]
 refine K_t 81 141 (v:=?_) rfl rfl (by kernel_rfl) (fun _ _ _ h=>h) ?_ ?_ (by assumption) ?_
 rotate_left
 ·with_unfolding_all rfl
 ·intro wz hSw
  try dsimp only at hSw
  go_simp
  with_reducible rfl
 try simp only[Act.put,List.setIfInBounds_toArray,List.set_cons_zero,List.set_cons_succ]
 refine wpAnyH_ready (rs:=[76]) (by kernel_rfl) (by simp) ?_
 refine AllReadyH.cons rfl (fun K hK=>?_) AllReadyH.nil
 go_simp
 go_wp2_with fail
 have HC13:Hid (Calls Tryz.prog 16 #[.agg #[.int .i64 p10A.kind,.slice s2A s2n s2c,.slice g2A g2n g2c,.slice k2A k2n k2c],.slice A 3 c] w13 (TelP t10A w13)):=(by have h:=telling_any (S:=Bl w13) (fun b hb=>hb) HA13.out.g (by have:=HA13.out.g.len;omega) HA13.out.b rfl (by decide) (by rw[HGL.out,firsts10];exact pure_n.1);rw[HGL.out,firsts10] at h;rw[← pure_a];exact h)
 (with_reducible refine HC13.out.mono ?_)
 rintro en w14 ⟨cA,cn,cc,qA,qn,qc,eA,en9,ec,rfl,hp,hb⟩
 have HA14:=hd_ (HA13.out.on hb)
 have HB14:=hd_ (HB13.out.trans (hb.mono HB13.out.size))
 have HP14:Hid (PtIn w14 (Bl w14) cA cn cc qA qn qc eA en9 ec t10A):=hp.keep (fun b hb=>hb.2) (fun _ _=>rfl)
 clear hp hb
 refine hK.out _ _ ?_ (fun hHeld=>?_)
 ·(first|with_reducible exact HA9.out.all|with_reducible exact HA9p.out.all|with_reducible exact HA10.out.all|with_reducible exact HA10p.out.all|with_reducible exact HA11.out.all|with_reducible exact HA11p.out.all|with_reducible exact HA12.out.all|with_reducible exact HA13.out.all|with_reducible exact HA14.out.all|with_reducible exact HA15.out.all|with_reducible exact HA8p.out.all|with_reducible exact HA8q.out.all|with_reducible exact HA8n.out.all|with_reducible exact HA8d.out.all)
 clear hK K
 refine wpAnyH_ready (rs:=[82]) (by kernel_rfl) (by simp) ?_
 refine AllReadyH.cons rfl (fun K hK=>?_) AllReadyH.nil
 go_simp
 go_wp2_with fail
 have HC14:Hid (Calls Tryz.prog 15 #[.agg #[.int .i64 t10A.kind,.slice cA cn cc,.slice qA qn qc,.slice eA en9 ec],.agg #[.int .i64 t10A.kind,.slice sA sn sc,.slice gA gn gc,.slice kA kn kc]] w14 (BooK w14 true)):=(by have h:=psame_any HP14.out HA14.out.p;rw[eqP_iff.2 rfl] at h;exact h)
 (with_reducible refine HC14.out.mono ?_)
 rintro en w15 ⟨rfl,hb⟩
 have HA15:=hd_ (HA14.out.on hb)
 have HB15:=hd_ (HB14.out.trans (hb.mono HB14.out.size))
 clear hb
 refine hK.out _ _ ?_ (fun hHeld=>?_)
 ·(first|with_reducible exact HA9.out.all|with_reducible exact HA9p.out.all|with_reducible exact HA10.out.all|with_reducible exact HA10p.out.all|with_reducible exact HA11.out.all|with_reducible exact HA11p.out.all|with_reducible exact HA12.out.all|with_reducible exact HA13.out.all|with_reducible exact HA14.out.all|with_reducible exact HA15.out.all|with_reducible exact HA8p.out.all|with_reducible exact HA8q.out.all|with_reducible exact HA8n.out.all|with_reducible exact HA8d.out.all)
 clear hK K
 refine K_t 83 143 (v:=?_) rfl rfl (by kernel_rfl) (fun _ _ _ h=>h) ?_ ?_ (by assumption) ?_
 rotate_left
 ·with_unfolding_all rfl
 ·intro wz hSw
  try dsimp only at hSw
  go_simp
  with_reducible rfl
 try simp only[Act.put,List.setIfInBounds_toArray,List.set_cons_zero,List.set_cons_succ]
 refine wpAnyH_ready (rs:=[84]) (by kernel_rfl) (by simp) ?_
 refine AllReadyH.cons rfl (fun K hK=>?_) AllReadyH.nil
 go_simp
 refine hK.out _ _ ?_ (fun hHeld=>?_)
 ·(first|with_reducible exact HA9.out.all|with_reducible exact HA9p.out.all|with_reducible exact HA10.out.all|with_reducible exact HA10p.out.all|with_reducible exact HA11.out.all|with_reducible exact HA11p.out.all|with_reducible exact HA12.out.all|with_reducible exact HA13.out.all|with_reducible exact HA14.out.all|with_reducible exact HA15.out.all|with_reducible exact HA8p.out.all|with_reducible exact HA8q.out.all|with_reducible exact HA8n.out.all|with_reducible exact HA8d.out.all)
 clear hK K
 refine wpAnyH_done (by kernel_rfl) ?_ _
 go_wp2_with fail
 go_ret
 exact ⟨rfl,HB15.out⟩

theorem ints_same {w:World}{A A' : Option Addr}{n m c d:Nat}{a b:List Int}(ha:RdI w w.heap.size A n c a) (hb:RdI w w.heap.size A' m d b) (h:a=b) :
  Calls Tryz.prog 10 #[.slice A n c,.slice A' m d] w (BooK w true):=by
 have h1:=pints_b ha.ins hb.ins
 rw[decide_eq_true h] at h1
 exact h1

def WdE (w:World) (l:List Int) (x:Int) (en:Ending) (w' : World):Prop:=∃ A n c,en=.returned (.tuple #[.slice A n c,.int .i64 x])∧RdI w' w'.heap.size A n c l∧Below w.heap.size w w'
def errI (o:Option (List Int)):Int:=if o=none then 1 else 0
theorem wd_e {w w' : World}{o:Option (List Int)}{en:Ending}{x:Int}(h:WdP w o en w') (hx:errI o=x):WdE w (o.getD []) x en w' := by
 subst hx
 exact h

set_option maxHeartbeats 4000000 in
set_option maxRecDepth 100000 in
theorem words_walk {w:World}{A B D:Option Addr}{n c m d k e:Nat}{gs:List Given}{L M:List Int}(hg:RdS w w.heap.size A n c gs) (hs:SmallS gs) (hl:RdI w w.heap.size B m d L) (hr:RdI w w.heap.size D k e M) :
  Calls Tryz.prog 3 #[.slice A n c,.slice B m d,.slice D k e] w (fun en w' => en=.returned (.bool true)∧Below w.heap.size w w'):=by
 have HG:=hd_ hg
 have HS:=hd_ hs
 have HL:=hd_ hl
 have HR:=hd_ hr
 have hm:=Nat.le_trans hl.cap hl.capm
 have hk:=Nat.le_trans hr.cap hr.capm
 clear hg hs hl hr
 go_enter Tryz.func3,Tryz.ntmps3
 go_wp2_with fail
 refine alive10_any.mono ?_
 rintro en w1 ⟨rfl,hb1⟩
 have HG1:=hd_ (HG.out.on hb1)
 have HL1:=hd_ (HL.out.on hb1)
 have HR1:=hd_ (HR.out.on hb1)
 have HB1:=hd_ hb1
 clear hb1 HG HL HR
 go_wp2_with fail
 refine (tgreat_any HG1.out HS.out 300 (by decide) (by decide)).mono ?_
 rintro en w2 ⟨rfl,rfl⟩
 by_cases hgr:(300:Int)<(totalS gs:Int)
 ·rw[decide_eq_true hgr]
  go_wp2
  go_ret
  exact ⟨rfl,HB1.out⟩
 rw[decide_eq_false hgr]
 have hlen:gs.length≤100000:=by unfold totalS at hgr;omega
 have HLE:=hd_ hlen
 clear hgr hlen
 by_cases hm3:300<m
 ·have hm3' : (300:Int)<m:=by omega
  go_wp2
  go_ret
  exact ⟨rfl,HB1.out⟩
 have hm3' : ¬ (300:Int)<m:=by omega
 have HM3:Hid (m≤100000):=hd_ (by omega)
 clear hm3
 by_cases hk3:300<k
 ·have hk3' : (300:Int)<k:=by omega
  go_wp2
  go_ret
  exact ⟨rfl,HB1.out⟩
 have hk3' : ¬ (300:Int)<k:=by omega
 have HK3:Hid (k≤100000):=hd_ (by omega)
 clear hk3
 obtain ⟨x1,HX1⟩:∃ x,Hid (errI (allF (wordF gs) L)=x):=⟨_,hd_ rfl⟩
 obtain ⟨x2,HX2⟩:∃ x,Hid (errI (allF (charF (firstsF (listsOf gs))) M)=x):=⟨_,hd_ rfl⟩
 go_wp2_with fail
 refine ((sword_any HG1.out HL1.out HM3.out).mono fun _ _ h=>wd_e h HX1.out).mono ?_
 rintro en w3 ⟨A3,n3,c3,rfl,r3,hb⟩
 have HG3:=hd_ (HG1.out.on hb)
 have HL3:=hd_ (HL1.out.on hb)
 have HR3:=hd_ (HR1.out.on hb)
 have Q3:=hd_ r3
 have HB3:=hd_ (HB1.out.trans (hb.mono HB1.out.size))
 clear hb r3 HG1 HL1 HR1 HB1
 go_wp2_with fail
 refine ((dword_any HG3.out HL3.out HM3.out).mono fun _ _ h=>wd_e h HX1.out).mono ?_
 rintro en w4 ⟨A4,n4,c4,rfl,r4,hb⟩
 have HG4:=hd_ (HG3.out.on hb)
 have HR4:=hd_ (HR3.out.on hb)
 have Q34:=hd_ (Q3.out.on hb)
 have Q4:=hd_ r4
 have HB4:=hd_ (HB3.out.trans (hb.mono HB3.out.size))
 clear hb r4 HG3 HL3 HR3 HB3 Q3
 go_wp2_with fail
 refine ((schars_any HG4.out HLE.out HR4.out HK3.out).mono fun _ _ h=>wd_e h HX2.out).mono ?_
 rintro en w5 ⟨A5,n5,c5,rfl,r5,hb⟩
 have HG5:=hd_ (HG4.out.on hb)
 have HR5:=hd_ (HR4.out.on hb)
 have Q35:=hd_ (Q34.out.on hb)
 have Q45:=hd_ (Q4.out.on hb)
 have Q5:=hd_ r5
 have HB5:=hd_ (HB4.out.trans (hb.mono HB4.out.size))
 clear hb r5 HG4 HR4 HB4 Q34 Q4
 go_wp2_with fail
 refine ((dchars_any HG5.out HLE.out HR5.out HK3.out).mono fun _ _ h=>wd_e h HX2.out).mono ?_
 rintro en w6 ⟨A6,n6,c6,rfl,r6,hb⟩
 have Q36:=hd_ (Q35.out.on hb)
 have Q46:=hd_ (Q45.out.on hb)
 have Q56:=hd_ (Q5.out.on hb)
 have Q6:=hd_ r6
 have HB6:=hd_ (HB5.out.trans (hb.mono HB5.out.size))
 clear hb r6 HG5 HR5 HB5 Q35 Q45 Q5
 go_wp2_with fail
 refine (ints_same Q36.out Q46.out rfl).mono ?_
 rintro en w7 ⟨rfl,hb⟩
 have Q57:=hd_ (Q56.out.on hb)
 have Q67:=hd_ (Q6.out.on hb)
 have HB7:=hd_ (HB6.out.trans (hb.mono HB6.out.size))
 clear hb Q36 Q46 Q56 Q6 HB6
 go_wp2_with fail
 refine (ints_same Q57.out Q67.out rfl).mono ?_
 rintro en w8 ⟨rfl,hb⟩
 have HB8:=hd_ (HB7.out.trans (hb.mono HB7.out.size))
 clear hb Q57 Q67 HB7
 go_wp2_with fail
 go_ret
 exact ⟨rfl,HB8.out⟩
end Go.Proofs.YtbbmjdddemahfaaGreat
