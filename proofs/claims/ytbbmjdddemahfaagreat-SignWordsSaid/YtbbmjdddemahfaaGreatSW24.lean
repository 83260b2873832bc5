/- Part of the proof. -/
import Derived.Test.YtbbmjdddemahfaaGreatSW19
import Derived.Test.YtbbmjdddemahfaaGreatSW23
set_option maxRecDepth 100000
namespace Go.Proofs.YtbbmjdddemahfaaGreat
open Go.RowKit
open M (Rg)

def headsOf (fs:List Int):List (List Rg):=fs.map fun f=>[(f,f)]
def ByP (w:World) (H:List (List Rg)) (en:Ending) (w' : World):Prop:=∃ bx m1 m2 m3:Nat,en=.returned (.pointer (some ⟨bx,0,none⟩))∧w.heap.size≤bx∧w.heap.size≤m1∧w.heap.size≤m2∧w.heap.size≤m3∧Tel bx m1 m2 m3 (fun _=>False) H [] [] true 0 w' ∧ Below w.heap.size w w'
set_option maxHeartbeats 4000000 in
theorem by_any {w:World}{A:Option Addr}{n c:Nat}{gs:List Given}(hg:RdS w w.heap.size A n c gs) (hs:gs.length≤100) :
  Calls Tryz.prog 26 #[.slice A n c] w (ByP w (headsOf (firstsF (listsOf gs)))):=by
 have hmm:=@run_makeMap Tryz.prog
 obtain ⟨s1,r0,r1,r2,r3,hb⟩:=rows4 w (.map #[] 0) (.map #[] 0) (.map #[] 0) (.cells #[.slice none 0 0,.map (some w.heap.size),.map (some (w.heap.size+1)),.map (some (w.heap.size+1+1)),.int .i64 0] 115)
 have HB:=hb_ hb
 have HG:=hb_ (hg.on hb)
 have R0:=hb_ r0
 have R1:=hb_ r1
 have R2:=hb_ r2
 have R3:=hb_ r3
 have HSZ:Hid (((((w.alloc (.map #[] 0)).alloc (.map #[] 0)).alloc (.map #[] 0)).alloc (.cells #[.slice none 0 0,.map (some w.heap.size),.map (some (w.heap.size+1)),.map (some (w.heap.size+1+1)),.int .i64 0] 115)).heap.size=w.heap.size+4):=s1
 clear r0 r1 r2 r3 hb hg s1
 go_enter Tryz.func26,Tryz.ntmps26
 go_upto_region 2 with fail
 generalize hW0:((((w.alloc (.map #[] 0)).alloc (.map #[] 0)).alloc (.map #[] 0)).alloc (.cells #[.slice none 0 0,.map (some w.heap.size),.map (some (w.heap.size+1)),.map (some (w.heap.size+1+1)),.int .i64 0] 115))=W0 at *
 clear hW0 hmm
 have HC:=hb_ (sfirsts_new HG.out (by omega))
 have hfl:(firstsF (listsOf gs)).length≤100:=by simpa [firstsF,listsOf] using hs
 clear HG
 generalize hfs:firstsF (listsOf gs)=fs at *
 clear hfs
 go_wp2_with fail
 refine HC.out.mono ?_
 rintro en w1 ⟨fA,fn,fc,rfl,hin,hb1⟩
 have hfn:fn≤100:=by have:=hin.len;omega
 have HIN:=hb_ hin
 have HB1:=hb_ (HB.out.trans (hb1.mono HB.out.size))
 have HS1:Hid (w.heap.size+4≤w1.heap.size):=by have:=HSZ.out;have:=hb1.size;show _≤_;omega
 have T0:=hb_ ((hb1.block _ (by have:=HSZ.out;omega)).trans R0.out)
 have T1:=hb_ ((hb1.block _ (by have:=HSZ.out;omega)).trans R1.out)
 have T2:=hb_ ((hb1.block _ (by have:=HSZ.out;omega)).trans R2.out)
 have T3:=hb_ ((hb1.block _ (by have:=HSZ.out;omega)).trans R3.out)
 have HFL:Hid (fs.length=fn):=hin.len
 clear hin hb1 HC R0 R1 R2 R3 HB
 go_wp2_with fail
 go_loopw [14] (fun iv wx=>∃ (j:Nat) (hA:Option Addr) (hc:Nat),j≤fn∧iv=.int .i64 j∧Hid (wx.heap[w.heap.size]?=some (.map #[] 0))∧Hid (wx.heap[w.heap.size+1]?=some (.map #[] 0))∧Hid (wx.heap[w.heap.size+1+1]?=some (.map #[] 0))∧Hid (wx.heap[w.heap.size+1+1+1]?=some (.cells #[.slice hA j hc,.map (some w.heap.size),.map (some (w.heap.size+1)),.map (some (w.heap.size+1+1)),.int .i64 0] 115 (0,0)))∧Hid (OwnX setD (fun b=>w1.heap.size≤b) 44 wx w1.heap.size (.slice hA j hc) (headsOf (fs.take j)))∧Hid (InAt wx (Nw W0 w1) fA fn fc fs)∧Hid (w1.heap.size≤wx.heap.size)∧Hid (Below w.heap.size w wx)) (fun iv _=>fn - (intOf iv).toNat)
 case atStart=>exact ⟨0,none,0,by omega,rfl,T0.out,T1.out,T2.out,T3.out,OwnX.nil _ _ _ _ _,HIN.out,Nat.le_refl _,HB1.out⟩
 case round =>
  obtain ⟨j,hA,hc,hj,rfl,U0,U1,U2,U3,HO,HI,HSL,HB⟩:=hrel
  rcases (⟨wr,rfl⟩:∃ WL:World,WL=wr) with ⟨WL,rfl⟩
  clear T0 T1 T2 T3 HIN HB1
  obtain ⟨c0,c1,c2,c3,c4⟩:=tcells5 U3.out
  by_cases hlt:j<fn
  ·have hj0:(0:Int)≤(j:Int):=by omega
   have hj1:(j:Int)<(fn:Int):=by omega
   obtain ⟨b,off,f,eA,hbN,hx,k0⟩:=HI.out.got hlt
   subst eA
   have HX:=hb_ hx
   have HP1:Hid (Below WL.heap.size WL ((WL.alloc (.cells #[.int .i64 f,.int .i64 f] 108)).alloc (.cells #[.slice (some ⟨WL.heap.size,0,none⟩) 1 1] 44))):=(qa_ WL _).trans ((qa_ _ _).mono (by simp))
   obtain ⟨hz2,hr1,hr2,_⟩:=rows2 WL (.cells #[.int .i64 f,.int .i64 f] 108) (.cells #[.slice (some ⟨WL.heap.size,0,none⟩) 1 1] 44)
   have HR2:=hb_ hr2
   have HO2:=hb_ (HO.out.on HP1.out)
   have HLB:Hid (∀ i,(Value.slice hA j hc).ownBlock=some i→i<WL.heap.size∧w1.heap.size≤i):=fun i e=>⟨(HO.out.block i e).2,(HO.out.block i e).1⟩
   have HY:Hid (setD.at_ ((WL.alloc (.cells #[.int .i64 f,.int .i64 f] 108)).alloc (.cells #[.slice (some ⟨WL.heap.size,0,none⟩) 1 1] 44)) (fun b=>b<((WL.alloc (.cells #[.int .i64 f,.int .i64 f] 108)).alloc (.cells #[.slice (some ⟨WL.heap.size,0,none⟩) 1 1] 44)).heap.size∧w1.heap.size≤b∧(Value.slice hA j hc).ownBlock≠some b) #[.slice (some ⟨WL.heap.size,0,none⟩) 1 1].toList [(f,f)]):=by
    obtain ⟨e0,e1⟩:=cells2 hr1
    refine ⟨_,1,1,rfl,rfl,Nat.le_refl _,by unfold maxLen;omega,fun _=>⟨WL.heap.size,0,rfl,⟨by omega,HSL.out,fun e=>by have:=(HLB.out _ e).1;omega⟩,fun k r hr=>?_⟩⟩
    match k,hr with
    | 0,hr=>injection hr with hr;subst hr;exact ⟨e0,e1⟩
    | k+1,hr=>cases hr
   have HSZ2:Hid (((WL.alloc (.cells #[.int .i64 f,.int .i64 f] 108)).alloc (.cells #[.slice (some ⟨WL.heap.size,0,none⟩) 1 1] 44)).heap.size=WL.heap.size+2):=hz2
   have HLH:Hid ((headsOf (fs.take j)).length=j):=by show _=_;unfold headsOf;rw[List.length_map,List.length_take];have:=HFL.out;omega
   clear hbN hx hr1 hr2 hz2 HO
   go_wp2_with (at_builtin;refine app_x (D:=setD) (X:=fun b=>w1.heap.size≤b) rfl _ _ 22 rfl Tryz.underlying22 info_rgs rfl (by decide) (by decide) rfl HO2.out (WL.heap.size+1) [(f,f)] #[.slice (some ⟨WL.heap.size,0,none⟩) 1 1] 44 (by go_simp) HR2.out HY.out (by rw[HLH.out];omega) (by have:=HSZ2.out;have:=HSL.out;omega) ?_;intro v6 w6 ho6 hg6;have HBX6:=hb_ ((hg6.block (w.heap.size+1+1+1) (by have:=HSZ2.out;have:=HSL.out;have:=HS1.out;omega) (fun e=>by have:=(HLB.out _ e.symm).2;have:=HS1.out;omega)).trans ((HP1.out.block _ (by have:=HSL.out;have:=HS1.out;omega)).trans U3.out));have fr6:=qv_ HBX6.out;obtain ⟨d0,d1,d2,d3,d4⟩:=tcells5 HBX6.out;obtain ⟨hA6,hc6,e6,_⟩:=ho6.rd;have hl6:(headsOf (fs.take j)++[[(f,f)]]).length=j+1:=(by rw[List.length_append,HLH.out];rfl);rw[hl6] at e6;subst e6)
   have HO6:=hb_ ho6
   have HG6:=hb_ hg6
   clear ho6 hg6
   go_roundw
   case rel =>
    have h2:=HSZ2.out
    have h3:=HSL.out
    have h4:=HS1.out
    have hs6:=HG6.out.size
    have hbk:∀ i,i<WL.heap.size→(Value.slice hA j hc).ownBlock≠some i→i≠w.heap.size+1+1+1→(w6.setCell ⟨w.heap.size+1+1+1,0,none⟩ (.slice hA6 (j+1) hc6)).heap[i]?=WL.heap[i]? := fun i h1 h5 h6=>(Below.heap_setCell _ _ _ _ h6).trans ((HG6.out.block i (by omega) (fun e=>h5 e.symm)).trans (HP1.out.block i h1))
    have hob:∀ i,i<w1.heap.size→(Value.slice hA j hc).ownBlock≠some i:=fun i h1 e=>by have:=(HLB.out i e).2;omega
    have htk:headsOf (fs.take (j+1))=headsOf (fs.take j)++[[(f,f)]]:=by unfold headsOf;rw[List.take_add_one,HX.out,List.map_append];rfl
    refine ⟨j+1,hA6,hc6,by omega,by go_num,(hbk _ (by omega) (hob _ (by omega)) (by omega)).trans U0.out,(hbk _ (by omega) (hob _ (by omega)) (by omega)).trans U1.out,(hbk _ (by omega) (hob _ (by omega)) (by omega)).trans U2.out,heap_setCell_same _ _ _ _ _ _ HBX6.out,?_,HI.out.keep (fun _ h=>h) (fun p hp=>World.cell?_of_block (hbk _ (by have:=hp.2;omega) (hob _ hp.2) (by have:=hp.1;have:=HSZ.out;omega))),?_,?_⟩
    ·show OwnX _ _ _ _ _ _ _
     rw[htk]
     exact HO6.out.setCell (by omega) (fun h=>by omega) _ _
    ·show w1.heap.size≤(w6.setCell _ _).heap.size
     simp;omega
    ·exact (qe_ (HB.out.trans (HP1.out.mono HB.out.size)) HG6.out (fun i hi=>by have:=(HLB.out i hi).2;omega)).setCell (by show w.heap.size≤w.heap.size+1+1+1;omega) _
   case measure=>simp[intOf];omega
  ·obtain rfl:j=fn:=by omega
   have ht:fs.take j=fs:=List.take_of_length_le (by have:=HFL.out;omega)
   have hhl:(headsOf fs).length=j:=by unfold headsOf;rw[List.length_map];exact HFL.out
   have HR:Hid (ByP w (headsOf fs) (.returned (.pointer (some ⟨w.heap.size+1+1+1,0,none⟩))) WL):=by
    have ho:=HO.out
    rw[ht] at ho
    obtain ⟨A', c', e', hrd⟩:=ho.rd
    rw[hhl] at e' hrd
    injection e' with e1 _ e3
    subst e1 e3
    have h4:=HS1.out
    refine ⟨_,w.heap.size,w.heap.size+1,w.heap.size+1+1,rfl,by omega,by omega,by omega,by omega,⟨⟨hA,hc,?_,?_⟩,⟨#[],0,U0.out,rfl⟩,(fun p hp=>by cases hp),⟨[],⟨#[],0,U1.out,rfl⟩,trivial⟩,⟨#[],0,U2.out,fun _=>rfl⟩,⟨by omega,by omega,by omega⟩⟩,HB.out⟩
    ·rw[hhl];exact U3.out
    ·rw[hhl]
     exact hrd.keep (fun b hb=>⟨hb.1,(fun e=>by
      have h5:=hb.2
      have h6:w1.heap.size≤b:=by rcases h5 with h|h <;> exact h
      rcases e with e|e|e|e <;> omega),id⟩) (fun _ _=>rfl)
   clear HO HI U0 U1 U2 U3 HB ht
   go_wp2_with fail
   go_ret
   exact HR.out

abbrev TSt:=List ((Int × Int × Int) × Value) × SgL
def Rn (s1 N:Nat) (W:World) (b:Nat):Prop:=s1≤b∧b<W.heap.size∧b≠N
structure Tm (kb:Int) (bx m1 m2 m3 s1:Nat) (E:Nat→Prop) (H:List (List Rg)) (st:TSt) (g:Bool) (k:Int) (W1 W:World):Prop where
 fx:Fx (TW bx m1 m2 m3) W1 W
 tel:Tel bx m1 m2 m3 E H st.1 st.2 g k W
 old:∀ b,TW bx m1 m2 m3 b→b<s1
 s1:s1≤W1.heap.size
 kk:0≤k∧k≤kb
 ee:∀ b,E b→b<W.heap.size
section
variable {kb:Int}{bx m1 m2 m3 s1 N:Nat}{E:Nat→Prop}{H:List (List Rg)}{st st' : TSt}{g g' : Bool}{k k' : Int}{W1 W W' : World}
theorem Tm.on (h:Tm kb bx m1 m2 m3 s1 E H st g k W1 W) (hb:Below W.heap.size W W'):Tm kb bx m1 m2 m3 s1 E H st g k W1 W' := ⟨h.fx.below hb,h.tel.on hb,h.old,h.s1,h.kk,fun b hb2=>Nat.lt_of_lt_of_le (h.ee b hb2) hb.size⟩
theorem Tm.step (h:Tm kb bx m1 m2 m3 s1 E H st g k W1 W) (ht:Tel bx m1 m2 m3 E H st'.1 st'.2 g' k' W') (hf:Fx (TW bx m1 m2 m3) W W') (hk:0≤k' ∧ k' ≤ kb):Tm kb bx m1 m2 m3 s1 E H st' g' k' W1 W' := ⟨h.fx.trans hf (fun _ _ h=>h),ht,h.old,h.s1,hk,fun b hb2=>Nat.lt_of_lt_of_le (h.ee b hb2) hf.size⟩
theorem Tm.sz (h:Tm kb bx m1 m2 m3 s1 E H st g k W1 W):s1≤W.heap.size:=Nat.le_trans h.s1 h.fx.size
theorem Tm.box (h:Tm kb bx m1 m2 m3 s1 E H st g k W1 W) (o:Obj):Tm kb bx m1 m2 m3 s1 (fun b=>E b∨b=W.heap.size) H st g k W1 (W.alloc o) :=
 ⟨h.fx.below (qa_ W o),(h.tel.more (F:=fun b=>E b∨b=W.heap.size) (fun b hb e=>e.resolve_right (by omega))).on (qa_ W o),h.old,h.s1,h.kk,fun b hb=>by
  rcases hb with hb|hb
  ·have:=h.ee b hb;simp;omega
  ·subst hb;simp⟩
theorem rn_on (hb:Below W.heap.size W W'):(∀ b,Rn s1 N W b→Rn s1 N W' b)∧∀ p:Addr,Rn s1 N W p.block→W'.cell? p=W.cell? p:=⟨fun _ h=>⟨h.1,Nat.lt_of_lt_of_le h.2.1 hb.size,h.2.2⟩,fun _ h=>hb.cell h.2.1⟩
theorem rn_fx (ho:∀ b,TW bx m1 m2 m3 b→b<s1) (hf:Fx (TW bx m1 m2 m3) W W'):(∀ b,Rn s1 N W b→Rn s1 N W' b)∧∀ p:Addr,Rn s1 N W p.block→W'.cell? p=W.cell? p:=⟨fun _ h=>⟨h.1,Nat.lt_of_lt_of_le h.2.1 hf.size,h.2.2⟩,fun _ h=>hf.cell h.2.1 (fun e=>by have:=ho _ e;have:=h.1;omega)⟩
theorem rn_box (o:Obj):(∀ b,Rn s1 N W b→Rn s1 W.heap.size (W.alloc o) b)∧∀ p:Addr,Rn s1 N W p.block→(W.alloc o).cell? p=W.cell? p:=⟨fun b h=>⟨h.1,by have:=h.2.1;simp;omega,by have:=h.2.1;omega⟩,fun _ h=>(qa_ W o).cell h.2.1⟩
end
def EaP (kb:Int) (bx m1 m2 m3:Nat) (E:Nat→Prop) (H:List (List Rg)) (st:TSt) (g:Bool) (l:List Pt) (w:World) (en:Ending) (w' : World):Prop:=∃ (A:Option Addr) (n c:Nat) (k:Int),en=.returned (.slice A n c)∧RdP w' (fun b=>w.heap.size≤b∧b<w'.heap.size) A n c l∧Tel bx m1 m2 m3 E H st.1 st.2 g k w' ∧ (0≤k∧k≤kb)∧Fx (TW bx m1 m2 m3) w w'
def Cut2 (kb:Int) (bx m1 m2 m3 s1:Nat) (E:Nat→Prop) (H:List (List Rg)) (st:TSt) (g:Bool) (x:Pt) (l:List Pt) (W1:World) (v:Value) (wx:World):Prop:=∃ (N:Nat) (cA:Option Addr) (cc:Nat) (eA:Option Addr) (en ec:Nat) (k:Int),v=.pointer (some ⟨N,0,none⟩)∧Hid (s1≤N∧W1.heap.size≤N)∧Hid (wx.heap[N]?=some (.cells #[.int .i64 x.kind,.slice cA x.set.length cc,.slice none 0 0,.slice eA en ec] 47 (0,0)))∧Hid (RgAt wx (Rn s1 N wx) cA x.set.length cc x.set)∧Hid (RdP wx (Rn s1 N wx) eA en ec l)∧Hid (Tm kb bx m1 m2 m3 s1 (fun b=>E b∨b=N) H st g k W1 wx)
section
variable {kb:Int}{bx m1 m2 m3 s1 N:Nat}{E:Nat→Prop}{H:List (List Rg)}{st:TSt}{g:Bool}{k:Int}{W1 W:World}{x:Pt}{l:List Pt}{cA eA:Option Addr}{cc en9 ec:Nat}
theorem cut2_a (h:Tm kb bx m1 m2 m3 s1 E H st g k W1 W) (hc:RgAt W (Rn s1 N W) cA x.set.length cc x.set) (he:RdP W (Rn s1 N W) eA en9 ec l):Cut2 kb bx m1 m2 m3 s1 E H st g x l W1 (.pointer (some ⟨W.heap.size,0,none⟩)) (W.alloc (.cells #[.int .i64 x.kind,.slice cA x.set.length cc,.slice none 0 0,.slice eA en9 ec] 47)):=by
 obtain ⟨q1,q2⟩:=rn_box (s1:=s1) (N:=N) (W:=W) (.cells #[.int .i64 x.kind,.slice cA x.set.length cc,.slice none 0 0,.slice eA en9 ec] 47)
 exact ⟨W.heap.size,cA,cc,eA,en9,ec,k,rfl,⟨h.sz,h.fx.size⟩,heap_alloc_new W _,hc.keep q1 q2,he.keep q1 q2,h.box _⟩
theorem cut2_b (h:Tm kb bx m1 m2 m3 s1 (fun b=>E b∨b=N) H st g k W1 W) (hs:s1≤N) (hz:W.heap[N]?=some (.cells #[.int .i64 0,.slice none 0 0,.slice none 0 0,.slice none 0 0] 47 (0,0))) (hN:W1.heap.size≤N) (hc:RgAt W (Rn s1 N W) cA x.set.length cc x.set) (he:RdP W (Rn s1 N W) eA en9 ec l):Cut2 kb bx m1 m2 m3 s1 E H st g x l W1 (.pointer (some ⟨N,0,none⟩)) (set4 W N (.int .i64 x.kind) (.slice cA x.set.length cc) (.slice none 0 0) (.slice eA en9 ec)):=by
 have q1:∀ b,Rn s1 N W b→Rn s1 N (set4 W N (.int .i64 x.kind) (.slice cA x.set.length cc) (.slice none 0 0) (.slice eA en9 ec)) b:=fun b h=>⟨h.1,by rw[qg_];exact h.2.1,h.2.2⟩
 have q2:∀ p:Addr,Rn s1 N W p.block→(set4 W N (.int .i64 x.kind) (.slice cA x.set.length cc) (.slice none 0 0) (.slice eA en9 ec)).cell? p=W.cell? p:=fun p h=>qn_ _ _ _ _ _ h.2.2
 have hf:Fx (fun b=>b=N) W (set4 W N (.int .i64 x.kind) (.slice cA x.set.length cc) (.slice none 0 0) (.slice eA en9 ec)):=⟨rfl,rfl,rfl,by rw[qg_];exact Nat.le_refl _,fun i _ hn=>qu_ _ _ _ _ _ _ hn⟩
 have ht:Tm kb bx m1 m2 m3 s1 (fun b=>E b∨b=N) H st g k W1 (set4 W N (.int .i64 x.kind) (.slice cA x.set.length cc) (.slice none 0 0) (.slice eA en9 ec)) :=
  ⟨⟨h.fx.os,h.fx.tape,h.fx.output,by rw[qg_];exact h.fx.size,fun i hi hn=>(qu_ _ _ _ _ _ _ (by omega)).trans (h.fx.block i hi hn)⟩,h.tel.other hf (fun b e=>⟨.inr e,fun e2=>by have:=h.old _ e2;omega⟩),h.old,h.s1,h.kk,fun b hb=>by rw[qg_];exact h.ee b hb⟩
 exact ⟨N,cA,cc,eA,en9,ec,k,rfl,⟨hs,hN⟩,qx_ hz _ _ _ _,hc.keep q1 q2,he.keep q1 q2,ht⟩
end
def toldP (H:List (List Rg)) (st:TSt) (x:Pt) (l:List Pt):Pt:=.mk x.kind x.set (if x.kind=2 then (wiS H st x.set).2 else []) l
def toldS (H:List (List Rg)) (st:TSt) (x:Pt):TSt:=if x.kind=2 then (wiS H st x.set).1 else st
def TlP (kb:Int) (bx m1 m2 m3:Nat) (E:Nat→Prop) (H:List (List Rg)) (st:TSt) (g:Bool) (y:Pt) (w:World) (en:Ending) (w' : World):Prop:=∃ (cA:Option Addr) (cn cc:Nat) (qA:Option Addr) (qn qc:Nat) (eA:Option Addr) (en9 ec:Nat) (k:Int),en=.returned (.agg #[.int .i64 y.kind,.slice cA cn cc,.slice qA qn qc,.slice eA en9 ec])∧PtIn w' (fun b=>w.heap.size≤b∧b<w'.heap.size) cA cn cc qA qn qc eA en9 ec y∧Tel bx m1 m2 m3 E H st.1 st.2 g k w' ∧ (0≤k∧k≤kb)∧Fx (TW bx m1 m2 m3) w w'
def Cut4 (kb:Int) (bx m1 m2 m3 s1 N:Nat) (E:Nat→Prop) (H:List (List Rg)) (st:TSt) (g:Bool) (x:Pt) (q:List Int) (l:List Pt) (cA:Option Addr) (cc:Nat) (eA:Option Addr) (en ec:Nat) (W1:World) (wx:World):Prop:=∃ (qA:Option Addr) (qn qc:Nat) (k:Int),Hid (wx.heap[N]?=some (.cells #[.int .i64 x.kind,.slice cA x.set.length cc,.slice qA qn qc,.slice eA en ec] 47 (0,0)))∧Hid (RgAt wx (Rn s1 N wx) cA x.set.length cc x.set)∧Hid (InAt wx (Rn s1 N wx) qA qn qc q)∧Hid (RdP wx (Rn s1 N wx) eA en ec l)∧Hid (Tm kb bx m1 m2 m3 s1 (fun b=>E b∨b=N) H st g k W1 wx)
theorem ownI_new {X:Nat→Prop}{e:TypeId}{w:World}{B:Nat}{A:Option Addr}{n c:Nat}{l:List Int}(h:OwnX inX X e w B (.slice A n c) l):InAt w (fun b=>B≤b∧b<w.heap.size) A l.length c l:=by
 obtain ⟨cs,h1,h2⟩:=h
 have h3:OwnX inX (fun _=>False) e w B (.slice A n c) l:=⟨cs,h1,fun i x hx=>h2 i x hx⟩
 obtain ⟨A', c', e1,hr⟩:=h3.rd
 injection e1 with e1 e2 e3
 subst e1 e2 e3
 exact (hr.keep (fun b hb=>⟨hb.2.resolve_left id,hb.1⟩) (fun _ _=>rfl)).intx
theorem cut4_of {kb:Int}{bx m1 m2 m3 s1 N:Nat}{E:Nat→Prop}{H:List (List Rg)}{st:TSt}{g:Bool}{k:Int}{W1 W:World}{x:Pt}{q:List Int}{l:List Pt}{cA eA dA:Option Addr}{cc en9 ec dc dn:Nat}{v2:Value}(h:Tm kb bx m1 m2 m3 s1 (fun b=>E b∨b=N) H st g k W1 W) (hs:s1≤N) (hN:W1.heap.size≤N) (hr:W.heap[N]?=some (.cells #[.int .i64 x.kind,.slice cA x.set.length cc,v2,.slice eA en9 ec] 47 (0,0))) (hc:RgAt W (Rn s1 N W) cA x.set.length cc x.set) (hd:InAt W (Rn s1 N W) dA dn dc q) (he:RdP W (Rn s1 N W) eA en9 ec l):Cut4 kb bx m1 m2 m3 s1 N E H st g x q l cA cc eA en9 ec W1 (W.setCell ⟨N,2,none⟩ (.slice dA dn dc)):=by
 have hf:Fx (fun b=>b=N) W (W.setCell ⟨N,2,none⟩ (.slice dA dn dc)):=Fx.setCell (X:=fun b=>b=N) rfl 2 _
 have q1:∀ b,Rn s1 N W b→Rn s1 N (W.setCell ⟨N,2,none⟩ (.slice dA dn dc)) b:=fun b h=>⟨h.1,by have:=h.2.1;simpa using this,h.2.2⟩
 have q2:∀ p:Addr,Rn s1 N W p.block→(W.setCell ⟨N,2,none⟩ (.slice dA dn dc)).cell? p=W.cell? p:=fun p h=>hf.cell h.2.1 h.2.2
 refine ⟨dA,dn,dc,k,heap_setCell_same _ _ _ _ _ _ hr,hc.keep q1 q2,hd.keep q1 q2,he.keep q1 q2,⟨⟨h.fx.os,h.fx.tape,h.fx.output,Nat.le_trans h.fx.size hf.size,fun i hi hn=>(hf.block _ (Nat.lt_of_lt_of_le hi h.fx.size) (by omega)).trans (h.fx.block i hi hn)⟩,h.tel.other hf (fun b e=>⟨.inr e,fun e2=>by have:=h.old _ e2;omega⟩),h.old,h.s1,h.kk,fun b hb=>by have:=h.ee b hb;simpa using this⟩⟩
set_option maxHeartbeats 16000000 in
theorem tell_of {kb:Int}{bx m1 m2 m3:Nat}{E:Nat→Prop}{H:List (List Rg)}{M:List ((Int × Int × Int) × Value)}{G:SgL}{g:Bool}{k:Int}{w:World}(h:Tel bx m1 m2 m3 E H M G g k w) (hE:∀ b,E b→b<w.heap.size) (hk:0≤k∧k+1≤kb∧kb≤1000) (hH:H.length≤100){S:Nat→Prop}(hS:∀ b,S b→b<w.heap.size∧¬ TW bx m1 m2 m3 b){x:Pt}{sA gA kA:Option Addr}{sn sc gn gc kn kc:Nat}(hp:PtIn w S sA sn sc gA gn gc kA kn kc x) (hx10:x.set.length≤10){st1:TSt}{g1:Bool}{l:List Pt}(hm:st1.1.length≤10000) (hq:(wiS H st1 x.set).2.length≤1000)
  (hea:∀ (F:Nat→Prop) (W:World),(∀ b,F b→b<W.heap.size)→Fx (TW bx m1 m2 m3) w W→Tel bx m1 m2 m3 F H M G g (k+1) W→Calls Tryz.prog 53 #[.pointer (some ⟨bx,0,none⟩),.slice kA kn kc] W (EaP kb bx m1 m2 m3 F H st1 g1 l W)) :
  Calls Tryz.prog 28 #[.pointer (some ⟨bx,0,none⟩),.agg #[.int .i64 x.kind,.slice sA sn sc,.slice gA gn gc,.slice kA kn kc]] w (TlP kb bx m1 m2 m3 E H (toldS H st1 x) g1 (toldP H st1 x l) w):=by
 obtain ⟨t0,t1,t2,t3⟩:=h.lt
 have hsn:sn≤10:=by have:=hp.set.len;omega
 have hsw:(w.setCell ⟨bx,4,none⟩ (.int .i64 (k+1))).heap.size=w.heap.size:=by simp
 obtain ⟨hz,r0,r1,hb⟩:=rows2 (w.setCell ⟨bx,4,none⟩ (.int .i64 (k+1))) (.cells #[.int .i64 x.kind,.slice sA sn sc,.slice gA gn gc,.slice kA kn kc] 47) (.cells #[.int .i64 0,.slice none 0 0,.slice none 0 0,.slice none 0 0] 47)
 rw[hsw] at hz r0 r1
 have hold:∀ b,TW bx m1 m2 m3 b→b<w.heap.size:=fun b e=>by rcases e with e|e|e|e <;> omega
 have HOLD:=hb_ hold
 have hT:Tel bx m1 m2 m3 (fun b=>E b∨(w.heap.size≤b∧b<w.heap.size+2)) H M G g (k+1) (((w.setCell ⟨bx,4,none⟩ (.int .i64 (k+1))).alloc (.cells #[.int .i64 x.kind,.slice sA sn sc,.slice gA gn gc,.slice kA kn kc] 47)).alloc (.cells #[.int .i64 0,.slice none 0 0,.slice none 0 0,.slice none 0 0] 47)):=((h.more (F:=(fun b=>E b∨(w.heap.size≤b∧b<w.heap.size+2))) (fun b hb e=>e.resolve_right (by omega))).node (k+1)).on hb
 have hF:Fx (TW bx m1 m2 m3) w (((w.setCell ⟨bx,4,none⟩ (.int .i64 (k+1))).alloc (.cells #[.int .i64 x.kind,.slice sA sn sc,.slice gA gn gc,.slice kA kn kc] 47)).alloc (.cells #[.int .i64 0,.slice none 0 0,.slice none 0 0,.slice none 0 0] 47)):=(Fx.setCell (X:=TW bx m1 m2 m3) (.inl rfl) 4 _).below hb
 have hsz:(((w.setCell ⟨bx,4,none⟩ (.int .i64 (k+1))).alloc (.cells #[.int .i64 x.kind,.slice sA sn sc,.slice gA gn gc,.slice kA kn kc] 47)).alloc (.cells #[.int .i64 0,.slice none 0 0,.slice none 0 0,.slice none 0 0] 47)).heap.size=w.heap.size+2:=hz
 have R3:Hid ((((w.setCell ⟨bx,4,none⟩ (.int .i64 (k+1))).alloc (.cells #[.int .i64 x.kind,.slice sA sn sc,.slice gA gn gc,.slice kA kn kc] 47)).alloc (.cells #[.int .i64 0,.slice none 0 0,.slice none 0 0,.slice none 0 0] 47)).heap[w.heap.size]?=some (.cells #[.int .i64 x.kind,.slice sA sn sc,.slice gA gn gc,.slice kA kn kc] 47 (0,0))):=r0
 have R4:Hid ((((w.setCell ⟨bx,4,none⟩ (.int .i64 (k+1))).alloc (.cells #[.int .i64 x.kind,.slice sA sn sc,.slice gA gn gc,.slice kA kn kc] 47)).alloc (.cells #[.int .i64 0,.slice none 0 0,.slice none 0 0,.slice none 0 0] 47)).heap[w.heap.size+1]?=some (.cells #[.int .i64 0,.slice none 0 0,.slice none 0 0,.slice none 0 0] 47 (0,0))):=r1
 obtain ⟨hA,hc,hbx,_⟩:=h.box
 obtain ⟨c0,c1,c2,c3,c4⟩:=tcells5 hbx
 have fbx:=qv_ hbx
 have HSS:=hb_ hS
 have HP:=hb_ hp
 have HF:=hb_ hF
 have HEW:=hb_ hE
 have T0:Hid (Tm kb bx m1 m2 m3 (w.heap.size+2) (fun b=>E b∨(w.heap.size≤b∧b<w.heap.size+2)) H (M,G) g (k+1) (((w.setCell ⟨bx,4,none⟩ (.int .i64 (k+1))).alloc (.cells #[.int .i64 x.kind,.slice sA sn sc,.slice gA gn gc,.slice kA kn kc] 47)).alloc (.cells #[.int .i64 0,.slice none 0 0,.slice none 0 0,.slice none 0 0] 47)) (((w.setCell ⟨bx,4,none⟩ (.int .i64 (k+1))).alloc (.cells #[.int .i64 x.kind,.slice sA sn sc,.slice gA gn gc,.slice kA kn kc] 47)).alloc (.cells #[.int .i64 0,.slice none 0 0,.slice none 0 0,.slice none 0 0] 47))):=⟨Fx.refl _ _,hT,fun b e=>by have:=hold b e;omega,by omega,⟨by omega,by omega⟩,fun b e=>by
  rcases e with e|e
  ·have:=hE b e;omega
  ·omega⟩
 have HSZ:Hid ((((w.setCell ⟨bx,4,none⟩ (.int .i64 (k+1))).alloc (.cells #[.int .i64 x.kind,.slice sA sn sc,.slice gA gn gc,.slice kA kn kc] 47)).alloc (.cells #[.int .i64 0,.slice none 0 0,.slice none 0 0,.slice none 0 0] 47)).heap.size=w.heap.size+2):=hsz
 have hk1:IntKind.i64.wrap (k+1)=k+1:=IntWalk.i64_in _ (by omega)
 have HEA0:=hb_ hea
 clear r0 r1 hb hT hF h hea hS hp hE hsz hz hbx hsw
 go_enter Tryz.func28,Tryz.ntmps28
 go_upto_region 2 with fail
 generalize hW1:(((w.setCell ⟨bx,4,none⟩ (.int .i64 (k+1))).alloc (.cells #[.int .i64 x.kind,.slice sA sn sc,.slice gA gn gc,.slice kA kn kc] 47)).alloc (.cells #[.int .i64 0,.slice none 0 0,.slice none 0 0,.slice none 0 0] 47))=W1 at *
 clear hW1 c0 c1 c2 c3 c4 fbx
 have HCL:Hid (∀ W:World,Fx (TW bx m1 m2 m3) W1 W→Calls Tryz.prog 52 #[.slice sA sn sc] W (ClP rgX 108 S W x.set)):=fun W hf=>by
  have hff:=HF.out.trans hf (fun _ _ h=>h)
  exact clone_rg (S:=S) (fun b hb=>Nat.lt_of_lt_of_le (HSS.out b hb).1 hff.size) ((HP.out.set.keep (fun _ h=>h) (fun p hp=>hff.cell (HSS.out _ hp).1 (HSS.out _ hp).2)).g) (by omega)
 have HEA:Hid (∀ (F:Nat→Prop) (W:World),(∀ b,F b→b<W.heap.size)→Fx (TW bx m1 m2 m3) W1 W→Tel bx m1 m2 m3 F H M G g (k+1) W→Calls Tryz.prog 53 #[.pointer (some ⟨bx,0,none⟩),.slice kA kn kc] W (EaP kb bx m1 m2 m3 F H st1 g1 l W)):=fun F W h1 h2 h3=>HEA0.out F W h1 (HF.out.trans h2 (fun _ _ h=>h)) h3
 have HS3:Hid (∀ W:World,Fx (TW bx m1 m2 m3) W1 W→(W.cell? ⟨w.heap.size,0,none⟩=some (.int .i64 x.kind)∧W.cell? ⟨w.heap.size,1,none⟩=some (.slice sA sn sc)∧W.cell? ⟨w.heap.size,2,none⟩=some (.slice gA gn gc)∧W.cell? ⟨w.heap.size,3,none⟩=some (.slice kA kn kc))):=fun W hf=>by
  have hr:=(hf.block w.heap.size (by have:=HSZ.out;omega) (fun e=>by have:=HOLD.out _ e;omega)).trans R3.out
  exact qj_ hr
 have TA:Hid (Tm kb bx m1 m2 m3 (w.heap.size+2) (fun b=>E b∨(w.heap.size≤b∧b<w.heap.size+2)) H (M,G) g (k+1) W1 W1.drew):=T0.out.on (qb_ (Below.refl _ _) 1)
 have TB:Hid (Tm kb bx m1 m2 m3 (w.heap.size+2) (fun b=>(fun b=>E b∨(w.heap.size≤b∧b<w.heap.size+2)) b∨b=W1.heap.size) H (M,G) g (k+1) W1 (W1.alloc (.cells #[.int .i64 0,.slice none 0 0,.slice none 0 0,.slice none 0 0] 47)).drew):=(T0.out.box (.cells #[.int .i64 0,.slice none 0 0,.slice none 0 0,.slice none 0 0] 47)).on (qb_ (Below.refl _ _) 1)
 have YB:Hid ((W1.alloc (.cells #[.int .i64 0,.slice none 0 0,.slice none 0 0,.slice none 0 0] 47)).drew.heap[W1.heap.size]?=some (.cells #[.int .i64 0,.slice none 0 0,.slice none 0 0,.slice none 0 0] 47 (0,0))):=heap_alloc_new W1 _
 have HNBB:Hid (w.heap.size+2≤W1.heap.size∧W1.heap.size≤W1.heap.size):=⟨by have:=HSZ.out;omega,Nat.le_refl _⟩
 clear HEA0 T0
 go_cut [5] (fun v wx=>Cut2 kb bx m1 m2 m3 (w.heap.size+2) (fun b=>E b∨(w.heap.size≤b∧b<w.heap.size+2)) H st1 g1 x l W1 v wx)
 case first =>
  go_region_held_law (fun w' => w'.cell? ⟨w.heap.size,0,none⟩=some (.int .i64 x.kind)∧w'.cell? ⟨w.heap.size,1,none⟩=some (.slice sA sn sc)∧w'.cell? ⟨w.heap.size,2,none⟩=some (.slice gA gn gc)∧w'.cell? ⟨w.heap.size,3,none⟩=some (.slice kA kn kc)) (first|exact HS3.out _ TA.out.fx|exact HS3.out _ TB.out.fx|exact HS3.out _ TC1.out.fx|exact HS3.out _ TE1.out.fx|exact HS3.out _ TCB.out.fx|exact HS3.out _ TEB.out.fx|exact HS3.out _ TBC.out.fx|exact HS3.out _ TBE.out.fx|exact HS3.out _ TF1.out.fx|exact HS3.out _ TF2.out.fx|exact HS3.out _ TF3.out.fx|exact HS3.out _ TF4.out.fx|exact HS3.out _ TF5.out.fx|exact HS3.out _ TF6.out.fx|exact HS3.out _ TX.out.fx|exact HS3.out _ TZ.out|exact HS3.out _ TZ.out.fx) (first
   | (go_at_call 52;(with_reducible refine (HCL.out _ TA.out.fx).mono ?_);rintro en WC1 ⟨cA,cc,rfl,ho,hb⟩;have TC1:=hb_ (TA.out.on hb);have CC1:Hid (RgAt WC1 (Rn (w.heap.size+2) (w.heap.size) WC1) cA x.set.length cc x.set):=(ownR_new ho).2.keep (fun b hb2=>⟨Nat.le_trans TA.out.sz hb2.1,hb2.2,by have h1:=hb2.1;have h2:=TA.out.sz;omega⟩) (fun _ _=>rfl);clear ho hb;have TCB:=hb_ (TC1.out.box (.cells #[.int .i64 0,.slice none 0 0,.slice none 0 0,.slice none 0 0] 47));have YCB:Hid ((WC1.alloc (.cells #[.int .i64 0,.slice none 0 0,.slice none 0 0,.slice none 0 0] 47)).heap[WC1.heap.size]?=some (.cells #[.int .i64 0,.slice none 0 0,.slice none 0 0,.slice none 0 0] 47 (0,0))):=heap_alloc_new WC1 _;have HNBCB:Hid (w.heap.size+2≤WC1.heap.size∧W1.heap.size≤WC1.heap.size):=⟨TC1.out.sz,TC1.out.fx.size⟩;have CCB:Hid (RgAt (WC1.alloc (.cells #[.int .i64 0,.slice none 0 0,.slice none 0 0,.slice none 0 0] 47)) (Rn (w.heap.size+2) WC1.heap.size (WC1.alloc (.cells #[.int .i64 0,.slice none 0 0,.slice none 0 0,.slice none 0 0] 47))) cA x.set.length cc x.set):=CC1.out.keep (rn_box (s1:=w.heap.size+2) (N:=w.heap.size) (.cells #[.int .i64 0,.slice none 0 0,.slice none 0 0,.slice none 0 0] 47)).1 (rn_box (s1:=w.heap.size+2) (N:=w.heap.size) (.cells #[.int .i64 0,.slice none 0 0,.slice none 0 0,.slice none 0 0] 47)).2)
   | (go_at_call 53;(with_reducible refine (HEA.out _ _ TA.out.ee TA.out.fx TA.out.tel).mono ?_);rintro en WE1 ⟨eA,en9,ec,k9,rfl,hr,ht,hk,hf⟩;have TE1:=hb_ (TA.out.step ht hf hk);have KE1:Hid (RdP WE1 (Rn (w.heap.size+2) (w.heap.size) WE1) eA en9 ec l):=hr.keep (fun b hb2=>⟨Nat.le_trans TA.out.sz hb2.1,hb2.2,by have h1:=hb2.1;have h2:=TA.out.sz;omega⟩) (fun _ _=>rfl);clear hr ht hk hf;have TEB:=hb_ (TE1.out.box (.cells #[.int .i64 0,.slice none 0 0,.slice none 0 0,.slice none 0 0] 47));have YEB:Hid ((WE1.alloc (.cells #[.int .i64 0,.slice none 0 0,.slice none 0 0,.slice none 0 0] 47)).heap[WE1.heap.size]?=some (.cells #[.int .i64 0,.slice none 0 0,.slice none 0 0,.slice none 0 0] 47 (0,0))):=heap_alloc_new WE1 _;have HNBEB:Hid (w.heap.size+2≤WE1.heap.size∧W1.heap.size≤WE1.heap.size):=⟨TE1.out.sz,TE1.out.fx.size⟩;have KEB:Hid (RdP (WE1.alloc (.cells #[.int .i64 0,.slice none 0 0,.slice none 0 0,.slice none 0 0] 47)) (Rn (w.heap.size+2) WE1.heap.size (WE1.alloc (.cells #[.int .i64 0,.slice none 0 0,.slice none 0 0,.slice none 0 0] 47))) eA en9 ec l):=KE1.out.keep (rn_box (s1:=w.heap.size+2) (N:=w.heap.size) (.cells #[.int .i64 0,.slice none 0 0,.slice none 0 0,.slice none 0 0] 47)).1 (rn_box (s1:=w.heap.size+2) (N:=w.heap.size) (.cells #[.int .i64 0,.slice none 0 0,.slice none 0 0,.slice none 0 0] 47)).2)
   | (go_at_call 52;(with_reducible refine (HCL.out _ TB.out.fx).mono ?_);rintro en WBC ⟨cA,cc,rfl,ho,hb⟩;have TBC:=hb_ (TB.out.on hb);have CBC:Hid (RgAt WBC (Rn (w.heap.size+2) (W1.heap.size) WBC) cA x.set.length cc x.set):=(ownR_new ho).2.keep (fun b hb2=>⟨Nat.le_trans TB.out.sz hb2.1,hb2.2,by have h1:=hb2.1;have h2:=qq_ YB.out;omega⟩) (fun _ _=>rfl);have YBC:=hb_ ((hb.block _ (qq_ YB.out)).trans YB.out);obtain ⟨yBC0,yBC1,yBC2,yBC3⟩:=qj_ YBC.out;have fyBC:=qv_ YBC.out;clear ho hb;have HNBBC:=HNBB)
   | (go_at_call 53;(with_reducible refine (HEA.out _ _ TB.out.ee TB.out.fx TB.out.tel).mono ?_);rintro en WBE ⟨eA,en9,ec,k9,rfl,hr,ht,hk,hf⟩;have TBE:=hb_ (TB.out.step ht hf hk);have KBE:Hid (RdP WBE (Rn (w.heap.size+2) (W1.heap.size) WBE) eA en9 ec l):=hr.keep (fun b hb2=>⟨Nat.le_trans TB.out.sz hb2.1,hb2.2,by have h1:=hb2.1;have h2:=qq_ YB.out;omega⟩) (fun _ _=>rfl);have YBE:=hb_ ((hf.block _ (qq_ YB.out) (fun e=>by have h1:=TB.out.old _ e;have h2:=HNBB.out;omega)).trans YB.out);obtain ⟨yBE0,yBE1,yBE2,yBE3⟩:=qj_ YBE.out;have fyBE:=qv_ YBE.out;have HNBBE:=HNBB;clear hr ht hk hf)
   | (go_at_call 53;(with_reducible refine (HEA.out _ _ TC1.out.ee TC1.out.fx TC1.out.tel).mono ?_);rintro en WF1 ⟨eA,en9,ec,k9,rfl,hr,ht,hk,hf⟩;have TF1:=hb_ (TC1.out.step ht hf hk);have KF1:Hid (RdP WF1 (Rn (w.heap.size+2) (w.heap.size) WF1) eA en9 ec l):=hr.keep (fun b hb2=>⟨Nat.le_trans TC1.out.sz hb2.1,hb2.2,by have h1:=hb2.1;have h2:=TC1.out.sz;omega⟩) (fun _ _=>rfl);have CF1:=hb_ (CC1.out.keep (rn_fx (s1:=w.heap.size+2) (N:=w.heap.size) TC1.out.old hf).1 (rn_fx (s1:=w.heap.size+2) (N:=w.heap.size) TC1.out.old hf).2);clear hr ht hk hf;have HFIN:Hid (Cut2 kb bx m1 m2 m3 (w.heap.size+2) (fun b=>E b∨(w.heap.size≤b∧b<w.heap.size+2)) H st1 g1 x l W1 (.pointer (some ⟨WF1.heap.size,0,none⟩)) (WF1.alloc (.cells #[.int .i64 x.kind,.slice cA x.set.length cc,.slice none 0 0,.slice eA en9 ec] 47))):=cut2_a TF1.out CF1.out KF1.out;have TX:=hb_ (TF1.out.on (qa_ WF1 (.cells #[.int .i64 0,.slice none 0 0,.slice none 0 0,.slice none 0 0] 47)));have TZ:=hb_ (TF1.out.on (qa_ WF1 (.cells #[.int .i64 x.kind,.slice cA x.set.length cc,.slice none 0 0,.slice eA en9 ec] 47))))
   | (go_at_call 52;(with_reducible refine (HCL.out _ TE1.out.fx).mono ?_);rintro en WF2 ⟨cA,cc,rfl,ho,hb⟩;have TF2:=hb_ (TE1.out.on hb);have CF2:Hid (RgAt WF2 (Rn (w.heap.size+2) (w.heap.size) WF2) cA x.set.length cc x.set):=(ownR_new ho).2.keep (fun b hb2=>⟨Nat.le_trans TE1.out.sz hb2.1,hb2.2,by have h1:=hb2.1;have h2:=TE1.out.sz;omega⟩) (fun _ _=>rfl);have KF2:=hb_ (KE1.out.keep (rn_on (s1:=w.heap.size+2) (N:=w.heap.size) hb).1 (rn_on (s1:=w.heap.size+2) (N:=w.heap.size) hb).2);clear ho hb;have HFIN:Hid (Cut2 kb bx m1 m2 m3 (w.heap.size+2) (fun b=>E b∨(w.heap.size≤b∧b<w.heap.size+2)) H st1 g1 x l W1 (.pointer (some ⟨WF2.heap.size,0,none⟩)) (WF2.alloc (.cells #[.int .i64 x.kind,.slice cA x.set.length cc,.slice none 0 0,.slice eA en9 ec] 47))):=cut2_a TF2.out CF2.out KF2.out;have TX:=hb_ (TF2.out.on (qa_ WF2 (.cells #[.int .i64 0,.slice none 0 0,.slice none 0 0,.slice none 0 0] 47)));have TZ:=hb_ (TF2.out.on (qa_ WF2 (.cells #[.int .i64 x.kind,.slice cA x.set.length cc,.slice none 0 0,.slice eA en9 ec] 47))))
   | (go_at_call 53;(with_reducible refine (HEA.out _ _ TCB.out.ee TCB.out.fx TCB.out.tel).mono ?_);rintro en WF3 ⟨eA,en9,ec,k9,rfl,hr,ht,hk,hf⟩;have TF3:=hb_ (TCB.out.step ht hf hk);have KF3:Hid (RdP WF3 (Rn (w.heap.size+2) (WC1.heap.size) WF3) eA en9 ec l):=hr.keep (fun b hb2=>⟨Nat.le_trans TCB.out.sz hb2.1,hb2.2,by have h1:=hb2.1;have h2:=qq_ YCB.out;omega⟩) (fun _ _=>rfl);have CF3:=hb_ (CCB.out.keep (rn_fx (s1:=w.heap.size+2) (N:=WC1.heap.size) TCB.out.old hf).1 (rn_fx (s1:=w.heap.size+2) (N:=WC1.heap.size) TCB.out.old hf).2);have YF3:=hb_ ((hf.block _ (qq_ YCB.out) (fun e=>by have h1:=TCB.out.old _ e;have h2:=HNBCB.out;omega)).trans YCB.out);obtain ⟨yF30,yF31,yF32,yF33⟩:=qj_ YF3.out;have fyF3:=qv_ YF3.out;have HNBF3:=HNBCB;clear hr ht hk hf;have HFIN:=hb_ (cut2_b TF3.out HNBCB.out.1 YF3.out HNBCB.out.2 CF3.out KF3.out);have TZ:Hid (Fx (TW bx m1 m2 m3) W1 (set4 WF3 (WC1.heap.size) (.int .i64 x.kind) (.slice cA x.set.length cc) (.slice none 0 0) (.slice eA en9 ec))):=⟨TF3.out.fx.os,TF3.out.fx.tape,TF3.out.fx.output,by rw[qg_];exact TF3.out.fx.size,fun i hi hn=>(qu_ _ _ _ _ _ _ (by have:=HNBCB.out.2;omega)).trans (TF3.out.fx.block i hi hn)⟩)
   | (go_at_call 52;(with_reducible refine (HCL.out _ TEB.out.fx).mono ?_);rintro en WF4 ⟨cA,cc,rfl,ho,hb⟩;have TF4:=hb_ (TEB.out.on hb);have CF4:Hid (RgAt WF4 (Rn (w.heap.size+2) (WE1.heap.size) WF4) cA x.set.length cc x.set):=(ownR_new ho).2.keep (fun b hb2=>⟨Nat.le_trans TEB.out.sz hb2.1,hb2.2,by have h1:=hb2.1;have h2:=qq_ YEB.out;omega⟩) (fun _ _=>rfl);have KF4:=hb_ (KEB.out.keep (rn_on (s1:=w.heap.size+2) (N:=WE1.heap.size) hb).1 (rn_on (s1:=w.heap.size+2) (N:=WE1.heap.size) hb).2);have YF4:=hb_ ((hb.block _ (qq_ YEB.out)).trans YEB.out);obtain ⟨yF40,yF41,yF42,yF43⟩:=qj_ YF4.out;have fyF4:=qv_ YF4.out;clear ho hb;have HFIN:=hb_ (cut2_b TF4.out HNBEB.out.1 YF4.out HNBEB.out.2 CF4.out KF4.out);have TZ:Hid (Fx (TW bx m1 m2 m3) W1 (set4 WF4 (WE1.heap.size) (.int .i64 x.kind) (.slice cA x.set.length cc) (.slice none 0 0) (.slice eA en9 ec))):=⟨TF4.out.fx.os,TF4.out.fx.tape,TF4.out.fx.output,by rw[qg_];exact TF4.out.fx.size,fun i hi hn=>(qu_ _ _ _ _ _ _ (by have:=HNBEB.out.2;omega)).trans (TF4.out.fx.block i hi hn)⟩)
   | (go_at_call 53;(with_reducible refine (HEA.out _ _ TBC.out.ee TBC.out.fx TBC.out.tel).mono ?_);rintro en WF5 ⟨eA,en9,ec,k9,rfl,hr,ht,hk,hf⟩;have TF5:=hb_ (TBC.out.step ht hf hk);have KF5:Hid (RdP WF5 (Rn (w.heap.size+2) (W1.heap.size) WF5) eA en9 ec l):=hr.keep (fun b hb2=>⟨Nat.le_trans TBC.out.sz hb2.1,hb2.2,by have h1:=hb2.1;have h2:=qq_ YBC.out;omega⟩) (fun _ _=>rfl);have CF5:=hb_ (CBC.out.keep (rn_fx (s1:=w.heap.size+2) (N:=W1.heap.size) TBC.out.old hf).1 (rn_fx (s1:=w.heap.size+2) (N:=W1.heap.size) TBC.out.old hf).2);have YF5:=hb_ ((hf.block _ (qq_ YBC.out) (fun e=>by have h1:=TBC.out.old _ e;have h2:=HNBBC.out;omega)).trans YBC.out);obtain ⟨yF50,yF51,yF52,yF53⟩:=qj_ YF5.out;have fyF5:=qv_ YF5.out;have HNBF5:=HNBBC;clear hr ht hk hf;have HFIN:=hb_ (cut2_b TF5.out HNBB.out.1 YF5.out HNBB.out.2 CF5.out KF5.out);have TZ:Hid (Fx (TW bx m1 m2 m3) W1 (set4 WF5 (W1.heap.size) (.int .i64 x.kind) (.slice cA x.set.length cc) (.slice none 0 0) (.slice eA en9 ec))):=⟨TF5.out.fx.os,TF5.out.fx.tape,TF5.out.fx.output,by rw[qg_];exact TF5.out.fx.size,fun i hi hn=>(qu_ _ _ _ _ _ _ (by have:=HNBB.out.2;omega)).trans (TF5.out.fx.block i hi hn)⟩)
   | (go_at_call 52;(with_reducible refine (HCL.out _ TBE.out.fx).mono ?_);rintro en WF6 ⟨cA,cc,rfl,ho,hb⟩;have TF6:=hb_ (TBE.out.on hb);have CF6:Hid (RgAt WF6 (Rn (w.heap.size+2) (W1.heap.size) WF6) cA x.set.length cc x.set):=(ownR_new ho).2.keep (fun b hb2=>⟨Nat.le_trans TBE.out.sz hb2.1,hb2.2,by have h1:=hb2.1;have h2:=qq_ YBE.out;omega⟩) (fun _ _=>rfl);have KF6:=hb_ (KBE.out.keep (rn_on (s1:=w.heap.size+2) (N:=W1.heap.size) hb).1 (rn_on (s1:=w.heap.size+2) (N:=W1.heap.size) hb).2);have YF6:=hb_ ((hb.block _ (qq_ YBE.out)).trans YBE.out);obtain ⟨yF60,yF61,yF62,yF63⟩:=qj_ YF6.out;have fyF6:=qv_ YF6.out;clear ho hb;have HFIN:=hb_ (cut2_b TF6.out HNBB.out.1 YF6.out HNBB.out.2 CF6.out KF6.out);have TZ:Hid (Fx (TW bx m1 m2 m3) W1 (set4 WF6 (W1.heap.size) (.int .i64 x.kind) (.slice cA x.set.length cc) (.slice none 0 0) (.slice eA en9 ec))):=⟨TF6.out.fx.os,TF6.out.fx.tape,TF6.out.fx.output,by rw[qg_];exact TF6.out.fx.size,fun i hi hn=>(qu_ _ _ _ _ _ _ (by have:=HNBB.out.2;omega)).trans (TF6.out.fx.block i hi hn)⟩))
  all_goals (go_wp2_with fail;go_meet;exact HFIN.out)
 case rest =>
  obtain ⟨N,cA,cc,eA,en9,ec,k2,rfl,HN,HRW,HCS,HKS,HTM⟩:=hcut
  rcases (⟨wc,rfl⟩:∃ W2:World,W2=wc) with ⟨W2,rfl⟩
  obtain ⟨s0,s1,s2,s3⟩:=HS3.out _ HTM.out.fx
  clear TA TB YB HNBB HCL HEA
  go_upto_if 25 with fail
  go_cut [] (fun wx=>Cut4 kb bx m1 m2 m3 (w.heap.size+2) N (fun b=>E b∨(w.heap.size≤b∧b<w.heap.size+2)) H (toldS H st1 x) g1 x (toldP H st1 x l).signs l cA cc eA en9 ec W1 wx)
  case first =>
   by_cases hk:x.kind=2
   ·have gk:(x.kind == 2)=true:=beq_iff_eq.2 hk
    have HTS:Hid (toldS H st1 x=(wiS H st1 x.set).1∧(toldP H st1 x l).signs=(wiS H st1 x.set).2):=⟨if_pos hk,if_pos hk⟩
    have HW2:Hid (∀ b,S b→b<W2.heap.size∧¬ TW bx m1 m2 m3 b):=fun b hb=>⟨Nat.lt_of_lt_of_le (HSS.out b hb).1 (Nat.le_trans HF.out.size HTM.out.fx.size),(HSS.out b hb).2⟩
    have HX2:Hid (RgAt W2 S sA sn sc x.set):=HP.out.set.keep (fun _ h=>h) (fun p hp=>(HF.out.trans HTM.out.fx (fun _ _ h=>h)).cell (HSS.out _ hp).1 (HSS.out _ hp).2)
    have HC:Hid (Calls Tryz.prog 55 #[.pointer (some ⟨bx,0,none⟩),.slice sA sn sc] W2 (WiP bx m1 m2 m3 (fun b=>(fun b=>E b∨(w.heap.size≤b∧b<w.heap.size+2)) b∨b=N) H g1 k2 (wiS H st1 x.set) W2)):=tellwithin_any HTM.out.tel HTM.out.ee hH hm HW2.out HX2.out (by omega)
    clear hk
    go_wp2_with fail
    refine HC.out.mono ?_
    rintro en W3 ⟨qA,qn,qc,rfl,hin,ht,hf⟩
    have hql:=hin.len
    have T3:=hb_ (HTM.out.step ht hf HTM.out.kk)
    have HC2:=hb_ (clone_in (S:=fun b=>b<W3.heap.size∧¬ TW bx m1 m2 m3 b∧¬ ((fun b=>E b∨(w.heap.size≤b∧b<w.heap.size+2)) b∨b=N)) (fun b hb=>hb.1) hin.g (by omega))
    have HNT:Hid (¬ TW bx m1 m2 m3 N):=fun e=>by have h1:=HTM.out.old _ e;have h2:=HN.out.1;omega
    have R3w:=hb_ ((hf.block _ (qq_ HRW.out) HNT.out).trans HRW.out)
    have C3:=hb_ (HCS.out.keep (rn_fx (s1:=w.heap.size+2) (N:=N) HTM.out.old hf).1 (rn_fx (s1:=w.heap.size+2) (N:=N) HTM.out.old hf).2)
    have K3:=hb_ (HKS.out.keep (rn_fx (s1:=w.heap.size+2) (N:=N) HTM.out.old hf).1 (rn_fx (s1:=w.heap.size+2) (N:=N) HTM.out.old hf).2)
    clear hin ht hf HC s0 s1 s2 s3 hql
    go_wp2_with fail
    refine HC2.out.mono ?_
    rintro en W4 ⟨dA,dc,rfl,ho,hb⟩
    have T4:=hb_ (T3.out.on hb)
    have R4w:=hb_ ((hb.block _ (qq_ R3w.out)).trans R3w.out)
    have C4:=hb_ (C3.out.keep (rn_on (s1:=w.heap.size+2) (N:=N) hb).1 (rn_on (s1:=w.heap.size+2) (N:=N) hb).2)
    have K4:=hb_ (K3.out.keep (rn_on (s1:=w.heap.size+2) (N:=N) hb).1 (rn_on (s1:=w.heap.size+2) (N:=N) hb).2)
    have D4:Hid (InAt W4 (Rn (w.heap.size+2) N W4) dA (wiS H st1 x.set).2.length dc (wiS H st1 x.set).2):=(ownI_new ho).keep (fun b hb2=>⟨Nat.le_trans T3.out.sz hb2.1,hb2.2,by have h1:=hb2.1;have h2:=qq_ R3w.out;omega⟩) (fun _ _=>rfl)
    obtain ⟨d0,d1,d2,d3⟩:=qj_ R4w.out
    have fr4:=qv_ R4w.out
    have HFC:Hid (Cut4 kb bx m1 m2 m3 (w.heap.size+2) N (fun b=>E b∨(w.heap.size≤b∧b<w.heap.size+2)) H (toldS H st1 x) g1 x (toldP H st1 x l).signs l cA cc eA en9 ec W1 (W4.setCell ⟨N,2,none⟩ (.slice dA (wiS H st1 x.set).2.length dc))):=by
     show Cut4 _ _ _ _ _ _ _ _ _ _ _ _ _ _ _ _ _ _ _ _ _
     rw[HTS.out.1,HTS.out.2]
     exact cut4_of T4.out HN.out.1 HN.out.2 R4w.out C4.out D4.out K4.out
    clear ho hb HC2 T3 R3w C3 K3
    go_wp2_with fail
    go_meet
    exact HFC.out
   ·have gk:(x.kind == 2)=false:=beq_eq_false_iff_ne.2 hk
    have HTS:Hid (toldS H st1 x=st1∧(toldP H st1 x l).signs=[]):=⟨if_neg hk,if_neg hk⟩
    have HFC:Hid (Cut4 kb bx m1 m2 m3 (w.heap.size+2) N (fun b=>E b∨(w.heap.size≤b∧b<w.heap.size+2)) H (toldS H st1 x) g1 x (toldP H st1 x l).signs l cA cc eA en9 ec W1 W2):=by
     show Cut4 _ _ _ _ _ _ _ _ _ _ _ _ _ _ _ _ _ _ _ _ _
     rw[HTS.out.1,HTS.out.2]
     exact ⟨none,0,0,k2,HRW.out,HCS.out,InAt.nil _ _,HKS.out,HTM.out⟩
    clear hk
    go_wp2_with fail
    go_meet
    exact HFC.out
  case rest =>
   obtain ⟨qA,qn,qc,k4,HRW4,HC4,HQ4,HK4,HT4⟩:=hcut
   rcases (⟨wc,rfl⟩:∃ W5:World,W5=wc) with ⟨W5,rfl⟩
   have HR5:=hb_ ((HT4.out.fx.block (w.heap.size+1) (by have:=HSZ.out;omega) (fun e=>by have:=HOLD.out _ e;omega)).trans R4.out)
   have hNne:N≠w.heap.size+1:=by have:=HN.out.1;omega
   have HRES:Hid (TlP kb bx m1 m2 m3 E H (toldS H st1 x) g1 (toldP H st1 x l) w (.returned (.agg #[.int .i64 x.kind,.slice cA x.set.length cc,.slice qA qn qc,.slice eA en9 ec])) (set4 W5 (w.heap.size+1) (.int .i64 x.kind) (.slice cA x.set.length cc) (.slice qA qn qc) (.slice eA en9 ec))):=by
    have q1:∀ b,Rn (w.heap.size+2) N W5 b→(w.heap.size≤b∧b<(set4 W5 (w.heap.size+1) (.int .i64 x.kind) (.slice cA x.set.length cc) (.slice qA qn qc) (.slice eA en9 ec)).heap.size):=fun b h=>⟨by have:=h.1;omega,by rw[qg_];exact h.2.1⟩
    have q2:∀ p:Addr,Rn (w.heap.size+2) N W5 p.block→(set4 W5 (w.heap.size+1) (.int .i64 x.kind) (.slice cA x.set.length cc) (.slice qA qn qc) (.slice eA en9 ec)).cell? p=W5.cell? p:=fun p h=>qn_ _ _ _ _ _ (by have:=h.1;omega)
    have hf:Fx (fun b=>b=w.heap.size+1) W5 (set4 W5 (w.heap.size+1) (.int .i64 x.kind) (.slice cA x.set.length cc) (.slice qA qn qc) (.slice eA en9 ec)):=⟨rfl,rfl,rfl,by rw[qg_];exact Nat.le_refl _,fun i _ hn=>qu_ _ _ _ _ _ _ hn⟩
    refine ⟨cA,x.set.length,cc,qA,qn,qc,eA,en9,ec,k4,rfl,⟨HC4.out.keep q1 q2,HQ4.out.keep q1 q2,HK4.out.keep q1 q2⟩,(HT4.out.tel.other hf (fun b e=>⟨.inl (.inr ⟨by omega,by omega⟩),fun e2=>by have:=HOLD.out _ e2;omega⟩)).more (fun b _ e=>.inl (.inl e)),HT4.out.kk,?_⟩
    refine ⟨HT4.out.fx.os.trans HF.out.os,HT4.out.fx.tape.trans HF.out.tape,HT4.out.fx.output.trans HF.out.output,by rw[qg_];exact Nat.le_trans HF.out.size HT4.out.fx.size,fun i hi hn=>(qu_ _ _ _ _ _ _ (by omega)).trans ((HT4.out.fx.block i (Nat.lt_of_lt_of_le hi HF.out.size) hn).trans (HF.out.block i hi hn))⟩
   have HQQ:=hb_ (qx_ HR5.out (.int .i64 x.kind) (.slice cA x.set.length cc) (.slice qA qn qc) (.slice eA en9 ec))
   obtain ⟨d0,d1,d2,d3⟩:=qj_ HRW4.out
   obtain ⟨e0,e1,e2,e3⟩:=qj_ HR5.out
   have fr5:=qv_ HR5.out
   clear HC4 HQ4 HK4 HT4 HRW4 HR5 HCS HKS HTM HRW HS3 R3 R4 HF
   go_wp2_with fail
   change bodyPost _ _ _ _ _ (set4 W5 (w.heap.size+1) (.int .i64 x.kind) (.slice cA x.set.length cc) (.slice qA qn qc) (.slice eA en9 ec))
   generalize hW9:set4 W5 (w.heap.size+1) (.int .i64 x.kind) (.slice cA x.set.length cc) (.slice qA qn qc) (.slice eA en9 ec)=W9 at *
   exact bodyPost_ret (results_c4 (a:=4) rfl (Tryz.isAgg47 _) (Tryz.sizeOf47 _) _ rfl HQQ.out) rfl HRES.out

theorem zero_pats (w:World):(zeroValue 45).run Tryz.prog w=.ok (.slice none 0 0) w:=by
 have h:(Tryz.prog.info? 45).map (·.zero)=some (some (.slice none 0 0)):=by kernel_rfl
 cases e:Tryz.prog.info? 45 with
 | none=>rw[e] at h;cases h
 | some j =>
  rw[e] at h
  simp at h
  simp[zeroValue,typeInfo,e,h]
theorem made4:madeCells (Value.agg #[.int .i64 0,.slice none 0 0,.slice none 0 0,.slice none 0 0]).cells (1*4)=#[.int .i64 0,.slice none 0 0,.slice none 0 0,.slice none 0 0]:=by
 apply Array.ext
 ·simp[madeCells]
 ·intro i h1 h2
  match i,h2 with
  | 0,_=>simp[madeCells,Value.cells]
  | 1,_=>simp[madeCells,Value.cells]
  | 2,_=>simp[madeCells,Value.cells]
  | 3,_=>simp[madeCells,Value.cells]
  | i+4,h2=>simp at h2;omega
theorem made_row {w:World}{base R:Nat}{e:TypeId}(h:w.ownsRow base e 4 (.slice (some ⟨R,0,none⟩) 1 1) 1 (madeCells (Value.agg #[.int .i64 0,.slice none 0 0,.slice none 0 0,.slice none 0 0]).cells (1*4)).toList):w.heap[R]?=some (.cells #[.int .i64 0,.slice none 0 0,.slice none 0 0,.slice none 0 0] e (0,0)):=by
 obtain ⟨_,h⟩:=h
 rcases h with ⟨h1,_⟩|⟨g,cap,cur,h1,h2,h3,h4,h5,h6,h7⟩
 ·cases h1
 ·injection h1 with a1 a2 a3
  injection a1 with a1
  injection a1 with a1
  subst a1 a3
  rw[List.take_of_length_le (by simp[h6])] at h7
  have e7:cur=(madeCells (Value.agg #[.int .i64 0,.slice none 0 0,.slice none 0 0,.slice none 0 0]).cells (1*4)):=Array.ext' h7
  rw[h3,e7,made4]
section
variable {kb:Int}{bx m1 m2 m3:Nat}{F:Nat→Prop}{H:List (List Rg)}{M:List ((Int × Int × Int) × Value)}{G:SgL}{g:Bool}{k:Int}{w W:World}
theorem each_nil (h:Tel bx m1 m2 m3 F H M G g k W) (hk:0≤k∧k≤kb){A:Option Addr}{c:Nat}:Calls Tryz.prog 53 #[.pointer (some ⟨bx,0,none⟩),.slice A 0 c] W (EaP kb bx m1 m2 m3 F H (M,G) g [] W):=by
 have HR:Hid (EaP kb bx m1 m2 m3 F H (M,G) g [] W (.returned (.slice none 0 0)) W):=⟨none,0,0,k,rfl,RdP.nil _ _,h,hk,Fx.refl _ _⟩
 clear h hk
 go_enter Tryz.func53,Tryz.ntmps53
 go_wp2_with fail
 go_ret
 exact HR.out
theorem tell_leaf (h:Tel bx m1 m2 m3 F H M G g k w) (hE:∀ b,F b→b<w.heap.size) (hk:0≤k∧k+1≤kb∧kb≤1000) (hH:H.length≤100){S:Nat→Prop}(hS:∀ b,S b→b<w.heap.size∧¬ TW bx m1 m2 m3 b){x:Pt}{sA gA kA:Option Addr}{sn sc gn gc kn kc:Nat}(hp:PtIn w S sA sn sc gA gn gc kA kn kc x) (hx0:x.kids=[]) (hx10:x.set.length≤10) (hm:M.length≤10000) (hq:(wiS H (M,G) x.set).2.length≤1000) :
  Calls Tryz.prog 28 #[.pointer (some ⟨bx,0,none⟩),.agg #[.int .i64 x.kind,.slice sA sn sc,.slice gA gn gc,.slice kA kn kc]] w (TlP kb bx m1 m2 m3 F H (toldS H (M,G) x) g (toldP H (M,G) x []) w):=by
 have hkn:kn=0:=by
  have:=hp.kids.len
  rw[hx0] at this
  exact this.symm
 subst hkn
 exact tell_of (st1:=(M,G)) h hE hk hH hS hp hx10 hm hq (fun F W hF hf ht=>each_nil ht ⟨by omega,hk.2.1⟩)
end
set_option maxHeartbeats 16000000 in
theorem each_one {kb:Int}{bx m1 m2 m3:Nat}{F:Nat→Prop}{H:List (List Rg)}{M:List ((Int × Int × Int) × Value)}{G:SgL}{k:Int}{w:World}(h:Tel bx m1 m2 m3 F H M G true k w) (hF:∀ b,F b→b<w.heap.size) (hk:0≤k∧k+1≤kb∧kb≤1000) (hH:H.length≤100){S:Nat→Prop}(hS:∀ b,S b→b<w.heap.size∧¬ TW bx m1 m2 m3 b){A:Option Addr}{c:Nat}{y:Pt}(hr:RdP w S A 1 c [y]) (hy0:y.kids=[]) (hy10:y.set.length≤10) (hm:M.length≤10000) (hq:(wiS H (M,G) y.set).2.length≤1000) :
  Calls Tryz.prog 53 #[.pointer (some ⟨bx,0,none⟩),.slice A 1 c] w (EaP kb bx m1 m2 m3 F H (toldS H (M,G) y) false [toldP H (M,G) y []] w):=by
 obtain ⟨b,off,x,sA,sn,sc,gA,gn,gc,kA,kn,kc,eA,hb,hx,hin,s0,s1,s2,s3⟩:=hr.got (i:=0) (by omega)
 subst eA
 obtain rfl:y=x:=by simpa using hx
 rw[Nat.zero_mul,Nat.add_zero] at s0 s1 s2 s3
 obtain ⟨i0,hi0,hz0,hz1,hz2⟩:=info_parts info_pt
 obtain ⟨t0,t1,t2,t3⟩:=h.lt
 have HOLD:Hid (∀ b,TW bx m1 m2 m3 b→b<w.heap.size):=fun b e=>by rcases e with e|e|e|e <;> omega
 have HSS:=hb_ hS
 have HFF:=hb_ hF
 have HIN:=hb_ hin
 have hs1:(w.alloc (.cells #[.pointer (some ⟨b,off,none⟩),.int .i64 1] 141)).heap.size=w.heap.size+1:=by simp
 have HB1:Hid (Below w.heap.size w (w.alloc (.cells #[.pointer (some ⟨b,off,none⟩),.int .i64 1] 141))):=qa_ w _
 have HRW:=hb_ (heap_alloc_new w (.cells #[.pointer (some ⟨b,off,none⟩),.int .i64 1] 141))
 have HT:=hb_ (h.on HB1.out)
 have HSZ:=hb_ hs1
 have HLT:Hid (bx<w.heap.size∧m1<w.heap.size∧m2<w.heap.size∧m3<w.heap.size):=⟨t0,t1,t2,t3⟩
 have SC:Hid (∀ W', Below w.heap.size w W' → W'.cell? ⟨b,off,none⟩=some (.int .i64 y.kind)∧W'.cell? ⟨b,off+1,none⟩=some (.slice sA sn sc)∧W'.cell? ⟨b,off+2,none⟩=some (.slice gA gn gc)∧W'.cell? ⟨b,off+3,none⟩=some (.slice kA kn kc)):=by
  intro W' hw
  have hb' := (hS b hb).1
  exact ⟨(hw.cell (p:=⟨b,off,none⟩) hb').trans s0,(hw.cell (p:=⟨b,off+1,none⟩) hb').trans s1,(hw.cell (p:=⟨b,off+2,none⟩) hb').trans s2,(hw.cell (p:=⟨b,off+3,none⟩) hb').trans s3⟩
 have HQ:=hb_ hq
 clear h hS hF hr hx hin s0 s1 s2 s3 hs1 t0 t1 t2 t3 hq
 go_enter Tryz.func53,Tryz.ntmps53
 go_upto_region 4 with fail
 generalize hW1:w.alloc (.cells #[.pointer (some ⟨b,off,none⟩),.int .i64 1] 141)=w1 at *
 clear hW1
 have HT1:Hid (Tel bx m1 m2 m3 F H M G true k w1.drew):=HT.out.on (qb_ (Below.refl _ _) 1)
 have HR1:Hid (w1.drew.heap[w.heap.size]?=some (.cells #[.pointer (some ⟨b,off,none⟩),.int .i64 1] 141 (0,0))):=HRW.out
 obtain ⟨hA1,hc1,hbx1,_⟩:=HT1.out.box
 obtain ⟨c0,c1,c2,c3,c4⟩:=tcells5 hbx1
 obtain ⟨k0,k1⟩:=cells2 HR1.out
 obtain ⟨hA0,hc0,hbx0,_⟩:=HT.out.box
 obtain ⟨d0,d1,d2,d3,d4⟩:=tcells5 hbx0
 obtain ⟨l0,l1⟩:=cells2 HRW.out
 obtain ⟨es,ck,hg,he⟩:=HT1.out.gone
 obtain rfl:=he rfl
 have hl9:=look0 hg (mt:=113) Tryz.underlying113 (zero_pats w1.drew) b off 1
 have hl9:Sem.run Tryz.prog (Instr.lookup 113 (.map (some m3)) (.agg #[.pointer (some ⟨b,off,none⟩),.int .i64 1]) true) w1.drew=.ok (.tuple #[.slice none 0 0,.bool false]) w1.drew:=hl9
 have HB2:Hid (Below w.heap.size w w1.drew):=qb_ HB1.out 1
 clear hg he hbx0 hbx1 HT HB1
 go_cut [6,7] (fun v6 v7 wx=>v6=.slice none 0 0∧v7=.bool false∧wx=w1.drew)
 case first =>
  go_region
  all_goals (go_wp2_with fail;go_meet;exact ⟨rfl,rfl,rfl⟩)
 case rest =>
  obtain ⟨rfl,rfl,rfl⟩:=hcut
  have HSZ2:Hid (w1.drew.heap.size=w.heap.size+1):=HSZ.out
  clear hl9 c0 c1 c2 c3 c4 d0 d1 d2 d3 d4 k0 k1 l0 l1 HRW HSZ
  generalize hW2:w1.drew=w2 at *
  clear hW2
  have hs2:w.heap.size<w2.heap.size:=by have:=HSZ2.out;omega
  go_upto_region 8 with (at_make;refine wpList_make_full _ rfl _ _ 45 rfl w2.heap.size 47 i0 (.agg #[.int .i64 0,.slice none 0 0,.slice none 0 0,.slice none 0 0]) 4 Tryz.underlying45 hi0 hz0 hz1 _ _ _ _ 1 rfl rfl rfl rfl (by rw[hz2];omega) (by simp only[maxLen];omega) (Nat.le_refl _) ?_;intro wm hom hgm;have HR9:=hb_ (made_row hom);have HBM:=hb_ ((Below.refl w2.heap.size w2).grown hgm (Nat.le_refl _) (fun k hk=>by cases hk));clear hom hgm)
  have HTM:Hid (Tel bx m1 m2 m3 (fun b=>F b∨b=w2.heap.size) H M G true k wm):=(HT1.out.more (F:=fun b=>F b∨b=w2.heap.size) (fun b hb e=>e.resolve_right (by omega))).on HBM.out
  have HRP:Hid (wm.heap[w.heap.size]?=some (.cells #[.pointer (some ⟨b,off,none⟩),.int .i64 1] 141 (0,0))):=(HBM.out.block _ hs2).trans HR1.out
  have HBW:=hb_ (HB2.out.trans (HBM.out.mono (Nat.le_of_lt hs2)))
  have hsm:w2.heap.size<wm.heap.size:=qq_ HR9.out
  clear HT1 HR1 HB2 HBM
  generalize hRR:w2.heap.size=R at *
  clear hRR
  obtain ⟨x0,x1,x2,x3⟩:=SC.out wm HBW.out
  go_wp2_with fail
  go_loopw [42] (fun iv wx=>(iv=.int .i64 0∧wx=wm)∨(iv=.int .i64 1∧∃ k' : Int,Hid (0≤k' ∧ k' ≤ kb)∧Hid (Tel bx m1 m2 m3 (fun b=>F b∨b=R) H (toldS H (M,G) y).1 (toldS H (M,G) y).2 true k' wx)∧Hid (Fx (TW bx m1 m2 m3) w wx)∧Hid (wx.heap[w.heap.size]?=some (.cells #[.pointer (some ⟨b,off,none⟩),.int .i64 1] 141 (0,0)))∧Hid (RdP wx (fun b=>w.heap.size≤b∧b<wx.heap.size) (some ⟨R,0,none⟩) 1 1 [toldP H (M,G) y []]))) (fun iv _=>1 - (intOf iv).toNat)
  case atStart=>exact .inl ⟨rfl,rfl⟩
  case round =>
   rcases hrel with ⟨rfl,e9⟩|⟨rfl,k', HK,HT5,HF5,HP5,HD5⟩
   ·subst e9
    have HB3:Hid (Below wr.heap.size wr (wr.alloc (.cells #[.int .i64 y.kind,.slice sA sn sc,.slice gA gn gc,.slice kA kn kc] 47))):=qa_ _ _
    have HR3:=hb_ (heap_alloc_new wr (.cells #[.int .i64 y.kind,.slice sA sn sc,.slice gA gn gc,.slice kA kn kc] 47))
    have hs3:wr.heap.size<(wr.alloc (.cells #[.int .i64 y.kind,.slice sA sn sc,.slice gA gn gc,.slice kA kn kc] 47)).heap.size:=by simp
    have HT3:=hb_ (HTM.out.on HB3.out)
    have HBW3:=hb_ (HBW.out.trans (HB3.out.mono HBW.out.size))
    have HR9b:=hb_ ((HB3.out.block R hsm).trans HR9.out)
    have HRPb:=hb_ ((HB3.out.block w.heap.size (by omega)).trans HRP.out)
    clear HR9 HRP HTM HBW HB3
    go_upto_region 11 with fail
    generalize hW3:wr.alloc (.cells #[.int .i64 y.kind,.slice sA sn sc,.slice gA gn gc,.slice kA kn kc] 47)=w3 at *
    clear hW3 x0 x1 x2 x3
    obtain ⟨z0,z1,z2,z3⟩:=qj_ HR3.out
    have HC:Hid (Calls Tryz.prog 28 #[.pointer (some ⟨bx,0,none⟩),.agg #[.int .i64 y.kind,.slice sA sn sc,.slice gA gn gc,.slice kA kn kc]] w3 (TlP kb bx m1 m2 m3 (fun b=>F b∨b=R) H (toldS H (M,G) y) true (toldP H (M,G) y []) w3)) :=
     tell_leaf HT3.out (fun b e=>by
      rcases e with e|e
      ·have h1:=HFF.out b e
       omega
      ·omega) hk hH (S:=S) (fun b hb=>⟨by have h1:=(HSS.out b hb).1;omega,(HSS.out b hb).2⟩) (HIN.out.keep (fun _ h=>h) (fun p hp=>HBW3.out.cell (HSS.out _ hp).1)) hy0 hy10 hm HQ.out
    generalize hTP:toldP H (M,G) y []=TP at *
    go_wp2_with fail
    refine HC.out.mono ?_
    rintro en w4 ⟨cA,cn,cc,qA,qn,qc,eA,en9,ec,k9,rfl,hp4,ht4,hk4,hf4⟩
    have hR9:=(hf4.block R (by omega) (fun e=>by have h1:=HOLD.out _ e;omega)).trans HR9b.out
    have HP4:=hb_ ((hf4.block w.heap.size (by omega) (fun e=>by have h1:=HOLD.out _ e;omega)).trans HRPb.out)
    have hfR:Fx (fun b=>b=R) w4 (set4 w4 R (.int .i64 TP.kind) (.slice cA cn cc) (.slice qA qn qc) (.slice eA en9 ec)):=⟨rfl,rfl,rfl,by rw[qg_];exact Nat.le_refl _,fun i _ hn=>qu_ _ _ _ _ _ _ hn⟩
    have HT9:=hb_ (ht4.other hfR (fun b e=>⟨.inr e,fun e2=>by have h1:=HOLD.out _ e2;omega⟩))
    have HF9:Hid (Fx (TW bx m1 m2 m3) w (set4 w4 R (.int .i64 TP.kind) (.slice cA cn cc) (.slice qA qn qc) (.slice eA en9 ec))):=((Fx.of HBW3.out (TW bx m1 m2 m3)).trans hf4 (fun _ _ h=>h)).trans hfR (fun i hi e=>by omega)
    have HP9:Hid ((set4 w4 R (.int .i64 TP.kind) (.slice cA cn cc) (.slice qA qn qc) (.slice eA en9 ec)).heap[w.heap.size]?=some (.cells #[.pointer (some ⟨b,off,none⟩),.int .i64 1] 141 (0,0))):=(qu_ _ _ _ _ _ _ (by omega)).trans HP4.out
    have HD9:Hid (RdP (set4 w4 R (.int .i64 TP.kind) (.slice cA cn cc) (.slice qA qn qc) (.slice eA en9 ec)) (fun b=>w.heap.size≤b∧b<(set4 w4 R (.int .i64 TP.kind) (.slice cA cn cc) (.slice qA qn qc) (.slice eA en9 ec)).heap.size) (some ⟨R,0,none⟩) 1 1 [TP]) :=
     (lit1 (S:=fun b=>w3.heap.size≤b∧b<w4.heap.size) (qx_ hR9 (.int .i64 TP.kind) (.slice cA cn cc) (.slice qA qn qc) (.slice eA en9 ec)) (PtAt.of (hp4.keep (fun _ h=>h) (fun p hp=>qn_ _ _ _ _ _ (by have h1:=hp.1;omega))))).keep (fun b hb=>by
      rw[qg_]
      rcases hb with hb|hb
      ·exact ⟨by have h1:=hb.1;omega,hb.2⟩
      ·have h1:=hf4.size
       omega) (fun _ _=>rfl)
    have HK9:=hb_ hk4
    obtain ⟨r0,r1,r2,r3⟩:=qj_ hR9
    have fr:=qv_ hR9
    clear hp4 ht4 hf4 hfR HC HT3 HR9b HRPb HP4 hk4
    go_wp2_with fail
    go_roundw
    case rel=>exact .inr ⟨rfl,k9,HK9.out,HT9.out,HF9.out,HP9.out,hTP ▸ HD9.out⟩
    case measure=>simp[intOf]
   ·have HT6:Hid (Tel bx m1 m2 m3 (fun b=>F b∨b=R) H (toldS H (M,G) y).1 (toldS H (M,G) y).2 true k' wr.drew):=HT5.out.on (qb_ (Below.refl _ _) 1)
    have HP6:Hid (wr.drew.heap[w.heap.size]?=some (.cells #[.pointer (some ⟨b,off,none⟩),.int .i64 1] 141 (0,0))):=HP5.out
    obtain ⟨hA6,hc6,hbx6,_⟩:=HT6.out.box
    obtain ⟨c0,c1,c2,c3,c4⟩:=tcells5 hbx6
    obtain ⟨hA5,hc5,hbx5,_⟩:=HT5.out.box
    obtain ⟨d0,d1,d2,d3,d4⟩:=tcells5 hbx5
    obtain ⟨k0,k1⟩:=cells2 HP6.out
    obtain ⟨l0,l1⟩:=cells2 HP5.out
    obtain ⟨es,ck2,hg,he⟩:=HT6.out.gone
    obtain rfl:=he rfl
    obtain ⟨es,ck', hu⟩:=upd0 hg (mt:=113) Tryz.underlying113 b off 1 (.slice (some ⟨R,0,none⟩) 1 1)
    have hu:Sem.run Tryz.prog (Instr.mapUpdate 113 (.map (some m3)) (.agg #[.pointer (some ⟨b,off,none⟩),.int .i64 1]) (.slice (some ⟨R,0,none⟩) 1 1)) wr.drew=.ok () ({ wr.drew with heap:=wr.drew.heap.setIfInBounds m3 (.map es ck') }:World):=hu
    have hf7:Fx (fun b=>b=m3) wr.drew ({ wr.drew with heap:=wr.drew.heap.setIfInBounds m3 (.map es ck') }:World):=Fx.put (X:=fun b=>b=m3) wr.drew rfl _
    have HRES:Hid (EaP kb bx m1 m2 m3 F H (toldS H (M,G) y) false [toldP H (M,G) y []] w (.returned (.slice (some ⟨R,0,none⟩) 1 1)) ({ wr.drew with heap:=wr.drew.heap.setIfInBounds m3 (.map es ck') }:World)):=⟨some ⟨R,0,none⟩,1,1,k', rfl,HD5.out.keep (fun b hb=>⟨hb.1,Nat.lt_of_lt_of_le hb.2 hf7.size⟩) (fun p hp=>hf7.cell hp.2 (fun e=>by have h1:=HLT.out;have h2:=hp.1;omega)),(HT6.out.go es ck').more (fun b _ e=>.inl e),HK.out,(HF5.out.below (qb_ (Below.refl _ _) 1)).trans hf7 (fun i _ e=>.inr (.inr (.inr e)))⟩
    generalize hW9:({ wr.drew with heap:=wr.drew.heap.setIfInBounds m3 (.map es ck') }:World)=W9 at *
    clear hW9 hf7 HT6 HT5 HP6 HP5 hbx5 hbx6 hg he HD5 HF5 HK HTM HR9 HRP HBW
    go_wp2_with fail
    go_region
    all_goals go_wp2_with fail
    all_goals go_ret
    all_goals exact HRES.out
theorem tell_star {kb:Int}{bx m1 m2 m3:Nat}{F:Nat→Prop}{H:List (List Rg)}{M:List ((Int × Int × Int) × Value)}{G:SgL}{k:Int}{w:World}(h:Tel bx m1 m2 m3 F H M G true k w) (hE:∀ b,F b→b<w.heap.size) (hk:0≤k∧k+2≤kb∧kb≤1000) (hH:H.length≤100){S:Nat→Prop}(hS:∀ b,S b→b<w.heap.size∧¬ TW bx m1 m2 m3 b){x y:Pt}{sA gA kA:Option Addr}{sn sc gn gc kn kc:Nat}(hp:PtIn w S sA sn sc gA gn gc kA kn kc x) (hx0:x.kids=[y]) (hy0:y.kids=[]) (hx10:x.set.length≤10) (hy10:y.set.length≤10) (hm:M.length≤10000) (hq:(wiS H (M,G) y.set).2.length≤1000) (hm2:(toldS H (M,G) y).1.length≤10000) (hq2:(wiS H (toldS H (M,G) y) x.set).2.length≤1000) :
  Calls Tryz.prog 28 #[.pointer (some ⟨bx,0,none⟩),.agg #[.int .i64 x.kind,.slice sA sn sc,.slice gA gn gc,.slice kA kn kc]] w (TlP kb bx m1 m2 m3 F H (toldS H (toldS H (M,G) y) x) false (toldP H (toldS H (M,G) y) x [toldP H (M,G) y []]) w):=by
 have hkn:kn=1:=by
  have:=hp.kids.len
  rw[hx0] at this
  exact this.symm
 subst hkn
 refine tell_of (st1:=toldS H (M,G) y) h hE ⟨hk.1,by omega,hk.2.2⟩ hH hS hp hx10 hm2 hq2 (fun F W hF hf ht=>?_)
 have hr:RdP W S kA 1 kc [y]:=by
  rw[← hx0]
  exact hp.kids.keep (fun _ h=>h) (fun p hp=>hf.cell (hS _ hp).1 (hS _ hp).2)
 exact each_one ht hF ⟨by omega,by omega,hk.2.2⟩ hH (fun b hb=>⟨Nat.lt_of_lt_of_le (hS b hb).1 hf.size,(hS b hb).2⟩) hr hy0 hy10 hm hq

def TelP (y:Pt) (w:World) (en:Ending) (w' : World):Prop:=∃ (cA:Option Addr) (cn cc:Nat) (qA:Option Addr) (qn qc:Nat) (eA:Option Addr) (en9 ec:Nat),en=.returned (.agg #[.int .i64 y.kind,.slice cA cn cc,.slice qA qn qc,.slice eA en9 ec])∧PtIn w' (fun b=>w.heap.size≤b∧b<w'.heap.size) cA cn cc qA qn qc eA en9 ec y∧Below w.heap.size w w'
theorem heads_len (gs:List Given):(headsOf (firstsF (listsOf gs))).length=gs.length:=by simp[headsOf,firstsF,listsOf]
set_option maxHeartbeats 8000000 in
theorem telling_any {w:World}{S:Nat→Prop}(hS:∀ b,S b→b<w.heap.size){A:Option Addr}{n c:Nat}{gs:List Given}(hg:RdS w w.heap.size A n c gs) (hs:gs.length≤100){x:Pt}{sA gA kA:Option Addr}{sn sc gn gc kn kc:Nat}(hp:PtIn w S sA sn sc gA gn gc kA kn kc x) (hx0:x.kids=[]) (hx10:x.set.length≤10) (hq:(wiS (headsOf (firstsF (listsOf gs))) ([],[]) x.set).2.length≤1000) :
  Calls Tryz.prog 16 #[.agg #[.int .i64 x.kind,.slice sA sn sc,.slice gA gn gc,.slice kA kn kc],.slice A n c] w (TelP (toldP (headsOf (firstsF (listsOf gs))) ([],[]) x []) w):=by
 obtain ⟨hz,r0,r1,hb⟩:=rows2 w (.cells #[.int .i64 x.kind,.slice sA sn sc,.slice gA gn gc,.slice kA kn kc] 47) (.cells #[.int .i64 0,.slice none 0 0,.slice none 0 0,.slice none 0 0] 47)
 have HB1:=hb_ hb
 have HZ:=hb_ hz
 have HRZ:=hb_ r1
 have hh:=heads_len gs
 have HS3:Hid (∀ W' : World,W'.heap[w.heap.size]?=some (.cells #[.int .i64 x.kind,.slice sA sn sc,.slice gA gn gc,.slice kA kn kc] 47 (0,0))→W'.cell? ⟨w.heap.size,0,none⟩=some (.int .i64 x.kind)∧W'.cell? ⟨w.heap.size,1,none⟩=some (.slice sA sn sc)∧W'.cell? ⟨w.heap.size,2,none⟩=some (.slice gA gn gc)∧W'.cell? ⟨w.heap.size,3,none⟩=some (.slice kA kn kc)):=fun W' h=>qj_ h
 have HBY:=hb_ (by_any (w:=((w.alloc (.cells #[.int .i64 x.kind,.slice sA sn sc,.slice gA gn gc,.slice kA kn kc] 47)).alloc (.cells #[.int .i64 0,.slice none 0 0,.slice none 0 0,.slice none 0 0] 47)).drew) (hg.on (qb_ hb 1)) hs)
 have HP1:Hid (PtIn ((w.alloc (.cells #[.int .i64 x.kind,.slice sA sn sc,.slice gA gn gc,.slice kA kn kc] 47)).alloc (.cells #[.int .i64 0,.slice none 0 0,.slice none 0 0,.slice none 0 0] 47)).drew S sA sn sc gA gn gc kA kn kc x):=hp.keep (fun _ h=>h) (fun p hp=>(qb_ hb 1).cell (hS _ hp))
 have R0:Hid (((w.alloc (.cells #[.int .i64 x.kind,.slice sA sn sc,.slice gA gn gc,.slice kA kn kc] 47)).alloc (.cells #[.int .i64 0,.slice none 0 0,.slice none 0 0,.slice none 0 0] 47)).drew.heap[w.heap.size]?=some (.cells #[.int .i64 x.kind,.slice sA sn sc,.slice gA gn gc,.slice kA kn kc] 47 (0,0))):=r0
 have RZ0:Hid (((w.alloc (.cells #[.int .i64 x.kind,.slice sA sn sc,.slice gA gn gc,.slice kA kn kc] 47)).alloc (.cells #[.int .i64 0,.slice none 0 0,.slice none 0 0,.slice none 0 0] 47)).drew.heap[w.heap.size+1]?=some (.cells #[.int .i64 0,.slice none 0 0,.slice none 0 0,.slice none 0 0] 47 (0,0))):=r1
 have HZ0:Hid (((w.alloc (.cells #[.int .i64 x.kind,.slice sA sn sc,.slice gA gn gc,.slice kA kn kc] 47)).alloc (.cells #[.int .i64 0,.slice none 0 0,.slice none 0 0,.slice none 0 0] 47)).drew.heap.size=w.heap.size+2):=hz
 have HB0:Hid (Below w.heap.size w ((w.alloc (.cells #[.int .i64 x.kind,.slice sA sn sc,.slice gA gn gc,.slice kA kn kc] 47)).alloc (.cells #[.int .i64 0,.slice none 0 0,.slice none 0 0,.slice none 0 0] 47)).drew):=qb_ hb 1
 have HSS:=hb_ hS
 clear hS hg hp hb hz r0 r1
 go_enter Tryz.func16,Tryz.ntmps16
 go_upto_region 1 with fail
 have fr0:=qv_ (w:=((w.alloc (.cells #[.int .i64 x.kind,.slice sA sn sc,.slice gA gn gc,.slice kA kn kc] 47)).alloc (.cells #[.int .i64 0,.slice none 0 0,.slice none 0 0,.slice none 0 0] 47))) HRZ.out
 generalize hW1:((w.alloc (.cells #[.int .i64 x.kind,.slice sA sn sc,.slice gA gn gc,.slice kA kn kc] 47)).alloc (.cells #[.int .i64 0,.slice none 0 0,.slice none 0 0,.slice none 0 0] 47))=W1 at *
 clear hW1
 generalize hTP:toldP (headsOf (firstsF (listsOf gs))) ([],[]) x []=TP at *
 generalize hHH:(headsOf (firstsF (listsOf gs)))=H at *
 go_cut [] (fun wx=>∃ (cA:Option Addr) (cn cc:Nat) (qA:Option Addr) (qn qc:Nat) (eA:Option Addr) (en9 ec:Nat),Hid (wx.heap[w.heap.size+1]?=some (.cells #[.int .i64 TP.kind,.slice cA cn cc,.slice qA qn qc,.slice eA en9 ec] 47 (0,0)))∧Hid (TelP TP w (.returned (.agg #[.int .i64 TP.kind,.slice cA cn cc,.slice qA qn qc,.slice eA en9 ec])) wx))
 case first =>
  go_region_held_law (fun w' => w'.cell? ⟨w.heap.size,0,none⟩=some (.int .i64 x.kind)∧w'.cell? ⟨w.heap.size,1,none⟩=some (.slice sA sn sc)∧w'.cell? ⟨w.heap.size,2,none⟩=some (.slice gA gn gc)∧w'.cell? ⟨w.heap.size,3,none⟩=some (.slice kA kn kc)) (first|exact HS3.out _ R0.out|exact HS3.out _ R2.out|exact HS3.out _ R4.out|exact HS3.out _ R9.out) (first
   | (go_at_call 26;(with_reducible refine HBY.out.mono ?_);rintro en w2 ⟨bx,m1,m2,m3,rfl,b0,b1,b2,b3,ht,hb2⟩;have R2:=hb_ ((hb2.block w.heap.size (by rw[HZ0.out];omega)).trans R0.out);have RZ2:=hb_ ((hb2.block (w.heap.size+1) (by rw[HZ0.out];omega)).trans RZ0.out);have HT2:=hb_ ht;have HLO:Hid (w.heap.size+2≤bx∧w.heap.size+2≤m1∧w.heap.size+2≤m2∧w.heap.size+2≤m3):=⟨by rw[← HZ0.out];exact b0,by rw[← HZ0.out];exact b1,by rw[← HZ0.out];exact b2,by rw[← HZ0.out];exact b3⟩;have HB2:=hb_ (HB0.out.trans (hb2.mono HB0.out.size));have HP2:=hb_ (HP1.out.keep (fun _ h=>h) (fun p hp=>hb2.cell (Nat.lt_of_lt_of_le (HSS.out _ hp) HB0.out.size)));have HSZ2:Hid (w.heap.size+2≤w2.heap.size):=Nat.le_trans (Nat.le_of_eq HZ0.out.symm) hb2.size;clear ht hb2 b0 b1 b2 b3)
   | (go_at_call 28;have HTL:=hb_ (tell_leaf (kb:=10) (S:=S) HT2.out (fun b e=>e.elim) ⟨by omega,by omega,by omega⟩ (by omega) (fun b hb=>⟨Nat.lt_of_lt_of_le (HSS.out b hb) HB2.out.size,fun e=>by have h1:=HSS.out b hb;have h2:=HLO.out;rcases e with e|e|e|e <;> omega⟩) HP2.out hx0 hx10 (by simp) hq);(with_reducible refine HTL.out.mono ?_);rintro en w4 ⟨cA,cn,cc,qA,qn,qc,eA,en9,ec,k9,rfl,hp4,ht4,hk4,hf4⟩;rw[hTP] at hp4;have NTW:∀ b,TW bx m1 m2 m3 b→w.heap.size+2≤b:=(fun b e=>by have h2:=HLO.out;rcases e with e|e|e|e <;> omega);have R4:=hb_ ((hf4.block w.heap.size (by have h1:=HSZ2.out;omega) (fun e=>by have h1:=NTW _ e;omega)).trans R2.out);have RZ4:=hb_ ((hf4.block (w.heap.size+1) (by have h1:=HSZ2.out;omega) (fun e=>by have h1:=NTW _ e;omega)).trans RZ2.out);have R9:Hid ((set4 w4 (w.heap.size+1) (.int .i64 TP.kind) (.slice cA cn cc) (.slice qA qn qc) (.slice eA en9 ec)).heap[w.heap.size]?=some (.cells #[.int .i64 x.kind,.slice sA sn sc,.slice gA gn gc,.slice kA kn kc] 47 (0,0))):=(qu_ _ _ _ _ _ _ (by omega)).trans R4.out;have HROW:Hid ((set4 w4 (w.heap.size+1) (.int .i64 TP.kind) (.slice cA cn cc) (.slice qA qn qc) (.slice eA en9 ec)).heap[w.heap.size+1]?=some (.cells #[.int .i64 TP.kind,.slice cA cn cc,.slice qA qn qc,.slice eA en9 ec] 47 (0,0))):=qx_ RZ4.out _ _ _ _;have HFIN:Hid (TelP TP w (.returned (.agg #[.int .i64 TP.kind,.slice cA cn cc,.slice qA qn qc,.slice eA en9 ec])) (set4 w4 (w.heap.size+1) (.int .i64 TP.kind) (.slice cA cn cc) (.slice qA qn qc) (.slice eA en9 ec))):=⟨cA,cn,cc,qA,qn,qc,eA,en9,ec,rfl,hp4.keep (fun b hb=>⟨by have h1:=HSZ2.out;have h2:=hb.1;omega,by rw[qg_];exact hb.2⟩) (fun p hp=>qn_ _ _ _ _ _ (by have h1:=HSZ2.out;have h2:=hp.1;omega)),qm_ (HB2.out.trans (⟨hf4.os,hf4.tape,hf4.output,hf4.size,fun i hi=>hf4.block i (by have h1:=HSZ2.out;omega) (fun e=>by have h1:=NTW _ e;omega)⟩)) (by omega) _ _ _ _⟩;obtain ⟨s0,s1,s2,s3⟩:=qj_ RZ4.out;have fr4:=qv_ RZ4.out;clear hp4 ht4 hk4 hf4 NTW))
  all_goals (go_wp2_with fail;go_meet;exact ⟨_,_,_,_,_,_,_,_,_,HROW.out,HFIN.out⟩)
 case rest =>
  obtain ⟨cA,cn,cc,qA,qn,qc,eA,en9,ec,HROW,HRES⟩:=hcut
  obtain ⟨s0,s1,s2,s3⟩:=qj_ HROW.out
  go_wp2_with fail
  exact bodyPost_ret (results_c4 (a:=4) rfl (Tryz.isAgg47 _) (Tryz.sizeOf47 _) _ rfl HROW.out) rfl HRES.out
end Go.Proofs.YtbbmjdddemahfaaGreat
