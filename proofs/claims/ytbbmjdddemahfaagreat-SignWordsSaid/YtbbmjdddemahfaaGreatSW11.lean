/- Part of the proof. -/
import Derived.Test.YtbbmjdddemahfaaGreatSW01
import Derived.Laws.StructEq
import Derived.Shelf.SlicesE.Equal
import Derived.IntWalk
import Derived.Deep.RegionHeldLaw
import Derived.Deep.RegionHeld3
set_option maxRecDepth 100000
namespace Go.Proofs.YtbbmjdddemahfaaGreat
theorem hb_ {p:Prop}(h:p):Go.RowKit.Hid p:=Go.Lib.hid h
open Go.RowKit

theorem pret_bool {a b:Bool}(h:a=b):Ending.returned (.bool a)=.returned (.bool b):=by rw[h]
def peqR (x y:Int × Int):Bool:=x.1 == y.1 && x.2 == y.2
theorem peqR_iff (x y:Int × Int):peqR x y=true↔x=y:=by simp[peqR,Prod.ext_iff]
theorem pneq_R:NeqAt Tryz.prog 108 (fun x:Int × Int=>.agg #[.int .i64 x.1,.int .i64 x.2]) peqR:=by
 refine ⟨fun x y w=>?_,GuardAt.agg _ (by kernel_rfl)⟩
 have u3:=Tryz.underlying3
 have a3:=Tryz.isAgg3
 have z3:=Tryz.sizeOf3
 have hS:Tryz.prog.underlying 108=some (.struct (Tryz.prog.fieldsOf 108)):=by kernel_rfl
 have hp:Tryz.prog.stoodInHeld 108=false:=by kernel_rfl
 rw[run_neq_struct,show (10000:Nat)=9999+1 from rfl,run_equalIn_agg w 9999 108 _ _ hS hp]
 simp only[Program.fieldsOf,Tryz.underlying108]
 unfold peqR
 go_simp
 by_cases h1:x.fst=y.fst <;> by_cases h2:x.snd=y.snd <;> simp[h1,h2]
theorem ptake_same {α:Type}{a b:List α}{k:Nat}{x y:α}(ht:a.take k=b.take k) (ha:a[k]?=some x) (hb:b[k]?=some y):(x=y→a.take (k+1)=b.take (k+1))∧(x≠y→a≠b):=by
 obtain ⟨ha1,ha2⟩:=List.getElem?_eq_some_iff.1 ha
 obtain ⟨hb1,hb2⟩:=List.getElem?_eq_some_iff.1 hb
 refine ⟨fun h=>?_,fun h e=>?_⟩
 ·rw[List.take_succ_eq_append_getElem ha1,List.take_succ_eq_append_getElem hb1,ha2,hb2,ht,h]
 ·subst e;rw[ha] at hb;injection hb with hb;exact h hb
set_option maxHeartbeats 1000000 in
theorem pranges_any {w:World}{S S' : Nat→Prop}{A A' : Option Addr}{n m c d:Nat}{a b:List (Int × Int)}(ha:RgAt w S A n c a) (hb:RgAt w S' A' m d b) :
  Calls Tryz.prog 32 #[.slice A n c,.slice A' m d] w (fun e w' => e=.returned (.bool (decide (a=b)))∧∃ q,w' = w.drewN q):=by
 have hn:n≤maxLen:=Nat.le_trans ha.cap ha.capm
 have hm:m≤maxLen:=Nat.le_trans hb.cap hb.capm
 unfold maxLen at hn hm
 by_cases hnm:n=m
 ·subst hnm
  have HN:=hb_ pneq_R.1
  have HG:=hb_ pneq_R.2
  have g0:((n:Int) != (n:Int))=false:=by simp
  go_enter Tryz.func32,Tryz.ntmps32
  go_wp2_with fail
  go_loopw [5] (fun i wx=>∃ k:Nat,k≤n∧i=.int .i64 k∧a.take k=b.take k∧∃ q,wx=w.drewN q) (fun i _=>n - (intOf i).toNat)
  case atStart=>exact ⟨0,Nat.zero_le _,rfl,rfl,0,rfl⟩
  case round =>
   obtain ⟨k,hk,rfl,ht,q,rfl⟩:=hrel
   have HT:=hb_ ht
   clear ht
   by_cases hlt:k<n
   ·obtain ⟨b1,o1,lo,hi,rfl,_,hr,k1,k2⟩:=ha.got hlt
    obtain ⟨b2,o2,lo', hi', rfl,_,hr', k3,k4⟩:=hb.got hlt
    have HS:=hb_ (ptake_same HT.out hr hr')
    have hne:∀ w,Sem.run Tryz.prog (binOp .neq 108 (.agg #[.int .i64 lo,.int .i64 hi]) (.agg #[.int .i64 lo', .int .i64 hi'])) w=.ok (.bool (!peqR (lo,hi) (lo', hi'))) w:=fun w=>HN.out (lo,hi) (lo', hi') w
    have hgd:∀ op x y w,Sem.run Tryz.prog (eqGuard op 108 x y (.agg #[.int .i64 lo,.int .i64 hi]) (.agg #[.int .i64 lo', .int .i64 hi'])) w=.ok () w:=fun op x y w=>HG.out op x y (lo,hi) (lo', hi') w
    clear hr hr' HT ha hb HN HG
    cases heq:peqR (lo,hi) (lo', hi')
    ·have HQ:=hb_ (HS.out.2 (fun e=>by rw[(peqR_iff _ _).2 e] at heq;cases heq))
     rw[heq] at hne
     clear heq HS
     go_wp2
     go_quiet (fail)
     go_wp2
     go_ret
     exact ⟨by rw[decide_eq_false HQ.out];rfl,_,kdrewN_two _ _ _⟩
    ·have HQ:=hb_ (HS.out.1 ((peqR_iff _ _).1 heq))
     rw[heq] at hne
     clear heq HS
     go_wp2
     go_quiet (fail)
     go_wp2
     go_roundw
     case rel=>exact ⟨k+1,by omega,by go_num,HQ.out,_,rfl⟩
     case measure=>simp[intOf];omega
   ·have HQ:Hid (a=b):=by
     have h1:=HT.out
     rwa [List.take_of_length_le (by rw[ha.len];omega),List.take_of_length_le (by rw[hb.len];omega)] at h1
    clear ha hb HT
    go_wp2
    go_ret
    exact ⟨by rw[decide_eq_true HQ.out];rfl,_,rfl⟩
 ·have HQ:Hid (a≠b):=fun e=>hnm (by rw[← ha.len,← hb.len,e])
  have g0:((n:Int) != (m:Int))=true:=by simp;omega
  clear ha hb
  go_enter Tryz.func32,Tryz.ntmps32
  go_wp2
  go_ret
  exact ⟨by rw[decide_eq_false HQ.out];rfl,0,rfl⟩
theorem pranges_b {w:World}{S S' : Nat→Prop}{A A' : Option Addr}{n m c d:Nat}{a b:List (Int × Int)}(ha:RgAt w S A n c a) (hb:RgAt w S' A' m d b) :
  Calls Tryz.prog 32 #[.slice A n c,.slice A' m d] w (BooK w (decide (a=b))) :=
 (pranges_any ha hb).mono fun _ _ ⟨he,q,hq⟩=>⟨he,by rw[hq];exact qb_ (Below.refl _ _) q⟩
set_option maxHeartbeats 1000000 in
theorem pints_any {w:World}{S S' : Nat→Prop}{A A' : Option Addr}{n m c d:Nat}{a b:List Int}(ha:InAt w S A n c a) (hb:InAt w S' A' m d b) :
  Calls Tryz.prog 10 #[.slice A n c,.slice A' m d] w fun e w' => e=.returned (.bool (decide (a=b)))∧∃ q,w' = w.drewN q:=by
 have hn:n≤maxLen:=Nat.le_trans ha.cap ha.capm
 have hm:m≤maxLen:=Nat.le_trans hb.cap hb.capm
 unfold maxLen at hn hm
 by_cases hnm:n=m
 ·subst hnm
  have g0:((n:Int) != (n:Int))=false:=by simp
  go_enter Tryz.func10,Tryz.ntmps10
  go_wp2_with fail
  go_loopw [5] (fun i wx=>∃ k:Nat,k≤n∧i=.int .i64 k∧a.take k=b.take k∧∃ q,wx=w.drewN q) (fun i _=>n - (intOf i).toNat)
  case atStart=>exact ⟨0,Nat.zero_le _,rfl,rfl,0,rfl⟩
  case round =>
   obtain ⟨k,hk,rfl,ht,q,rfl⟩:=hrel
   have HT:=hb_ ht
   clear ht
   by_cases hlt:k<n
   ·obtain ⟨b1,o1,x,rfl,_,hr,k1⟩:=ha.got hlt
    obtain ⟨b2,o2,y,rfl,_,hr', k3⟩:=hb.got hlt
    have HS:=hb_ (ptake_same HT.out hr hr')
    clear hr hr' HT ha hb
    by_cases heq:x=y
    ·have HQ:=hb_ (HS.out.1 heq)
     have g1:((x:Int) != y)=false:=by simpa using heq
     clear heq HS
     go_wp2
     go_quiet (fail)
     go_wp2
     go_roundw
     case rel=>exact ⟨k+1,by omega,by go_num,HQ.out,_,rfl⟩
     case measure=>simp[intOf];omega
    ·have HQ:=hb_ (HS.out.2 heq)
     have g1:((x:Int) != y)=true:=by simpa using heq
     clear heq HS
     go_wp2
     go_quiet (fail)
     go_wp2
     go_ret
     exact ⟨by rw[decide_eq_false HQ.out];rfl,_,kdrewN_two _ _ _⟩
   ·have HQ:Hid (a=b):=by
     have h1:=HT.out
     rwa [List.take_of_length_le (by rw[ha.len];omega),List.take_of_length_le (by rw[hb.len];omega)] at h1
    clear ha hb HT
    go_wp2
    go_ret
    exact ⟨by rw[decide_eq_true HQ.out];rfl,_,rfl⟩
 ·have HQ:Hid (a≠b):=fun e=>hnm (by rw[← ha.len,← hb.len,e])
  have g0:((n:Int) != (m:Int))=true:=by simp;omega
  clear ha hb
  go_enter Tryz.func10,Tryz.ntmps10
  go_wp2
  go_ret
  exact ⟨by rw[decide_eq_false HQ.out];rfl,0,rfl⟩
theorem pints_b {w:World}{S S' : Nat→Prop}{A A' : Option Addr}{n m c d:Nat}{a b:List Int}(ha:InAt w S A n c a) (hb:InAt w S' A' m d b) :
  Calls Tryz.prog 10 #[.slice A n c,.slice A' m d] w (BooK w (decide (a=b))) :=
 (pints_any ha hb).mono fun _ _ ⟨he,q,hq⟩=>⟨he,by rw[hq];exact qb_ (Below.refl _ _) q⟩

theorem qy_ {w:World}{N:Nat}{x0 x1 x2 x3:Value}{t:TypeId}(h:w.heap[N]?=some (.cells #[x0,x1,x2,x3] t (0,0))) :
  w.cell? ⟨N,0,none⟩=some x0∧w.cell? ⟨N,1,none⟩=some x1∧w.cell? ⟨N,2,none⟩=some x2∧w.cell? ⟨N,3,none⟩=some x3:=by
 refine ⟨?_,?_,?_,?_⟩ <;> (rw[cell_of_row _ _ _ _ _ _ h];rfl)


def PSizeK (k:Nat):Prop:=∀ (x:Pt),x.size≤k→∀ (w:World) (sA gA A:Option Addr) (sn sc gn gc n c:Nat),PtIn w (Bl w) sA sn sc gA gn gc A n c x →
 Calls Tryz.prog 93 #[.agg #[.int .i64 x.kind,.slice sA sn sc,.slice gA gn gc,.slice A n c]] w (NumK w ((min x.size 100000:Nat):Int))
set_option maxHeartbeats 8000000 in
theorem psize_all:∀ k:Nat,PSizeK k:=by
 intro k
 induction k with
 | zero=>intro x h;have:=Pt.size_pos x;omega
 | succ k ih =>
  intro x hk w sA gA A sn sc gn gc n c ha
  have hkids:=Pt.size_kids x
  have hn:=ha.kids.len
  have hsm:=ha.kids.small
  have HP:=hb_ (qa_ w (.cells #[.int .i64 x.kind,.slice sA sn sc,.slice gA gn gc,.slice A n c] 47))
  have HROW:=hb_ (heap_alloc_new w (.cells #[.int .i64 x.kind,.slice sA sn sc,.slice gA gn gc,.slice A n c] 47))
  have HA:=hb_ (ha.kids.on HP.out)
  have hz:(w.alloc (.cells #[.int .i64 x.kind,.slice sA sn sc,.slice gA gn gc,.slice A n c] 47)).heap.size=w.heap.size+1:=by simp
  generalize hs:x.size=sz at *
  generalize hl:x.kids=l at *
  have HKS:=hb_ hkids
  have HK:=hb_ hk
  clear ha hs hl hkids hk
  obtain ⟨R,hR⟩:∃ R:Int,R=((min sz 100000:Nat):Int):=⟨_,rfl⟩
  rw[← hR]
  have HR:=hb_ hR
  clear hR
  go_enter Tryz.func93,Tryz.ntmps93
  go_wp2_with fail
  generalize w.alloc (.cells #[.int .i64 x.kind,.slice sA sn sc,.slice gA gn gc,.slice A n c] 47)=W1 at *
  go_loopw [3,4] (fun sv iv wx=>∃ (j:Nat) (S:Int),j≤n∧iv=.int .i64 j∧sv=.int .i64 S∧1≤S∧S≤100000∧Hid (S=((min (ptsSize (l.take j)+1) 100000:Nat):Int))∧Hid (Below W1.heap.size W1 wx)) (fun _ iv _=>n - (intOf iv).toNat)
  case atStart=>exact ⟨0,1,by omega,rfl,rfl,by omega,by omega,(by show _=_;rw[List.take_zero];rfl),Below.refl _ _⟩
  case round =>
   obtain ⟨j,S,hj,rfl,rfl,hS0,hS1,HS,HB⟩:=hrel
   have HA2:=hb_ (HA.out.on HB.out)
   obtain ⟨r0,r1,r2,r3⟩:=qy_ ((HB.out.block w.heap.size (by omega)).trans HROW.out)
   by_cases hlt:j<n
   ·obtain ⟨b1,o1,y,sA1,sn1,sc1,gA1,gn1,gc1,A1,n1,c1,hA1,hb1,hy,hr1,s0,s1,s2,s3⟩:=HA2.out.got hlt
    subst hA1
    have hj0:(0:Int)≤(j:Int):=by omega
    have hj1:(j:Int)<(n:Int):=by omega
    have hyk:y.size≤k:=by have:=ptsSize_mem hy;have h1:=HKS.out;have h2:=HK.out;omega
    have HC:=hb_ (ih y hyk _ _ _ _ _ _ _ _ _ _ hr1)
    obtain ⟨T,hT⟩:∃ T:Int,T=((min y.size 100000:Nat):Int):=⟨_,rfl⟩
    rw[← hT] at HC
    have HS2:Hid ((min 100000 (S+T))=((min (ptsSize (l.take (j+1))+1) 100000:Nat):Int)):=by
     show _=_
     have h0:=HS.out
     rw[ptsSize_take hy]
     omega
    have hT0:0≤T:=by omega
    have hT1:T≤100000:=by omega
    have hM0:1≤(min 100000 (S+T)):=by omega
    have hM1:(min 100000 (S+T))≤100000:=by omega
    clear hy hr1 hb1 HA2 hyk hT
    go_wp2_with fail
    refine HC.out.mono ?_
    rintro en w3 ⟨rfl,hb3⟩
    have HB3:=hb_ (HB.out.trans (hb3.mono HB.out.size))
    clear hb3 HC HS HB
    go_wp2_with fail
    go_roundw
    case rel=>exact ⟨j+1,(min 100000 (S+T)),by omega,by go_num,rfl,hM0,hM1,HS2.out,HB3.out⟩
    case measure=>simp[intOf];omega
   ·obtain rfl:j=n:=by omega
    have HE:Hid (S=R):=by
     show _=_
     have e1:=HS.out
     have e2:=HKS.out
     rw[List.take_of_length_le (by omega)] at e1
     rw[e1,HR.out,e2]
    have HB2:=hb_ (HP.out.trans (HB.out.mono HP.out.size))
    have e:=HE.out
    subst e
    clear HA2 HS HB HR HE
    go_wp2_with fail
    go_ret
    exact ⟨rfl,HB2.out⟩
theorem psize_any {x:Pt}{w:World}{sA gA A:Option Addr}{sn sc gn gc n c:Nat}(ha:PtIn w (Bl w) sA sn sc gA gn gc A n c x) :
  Calls Tryz.prog 93 #[.agg #[.int .i64 x.kind,.slice sA sn sc,.slice gA gn gc,.slice A n c]] w (NumK w ((min x.size 100000:Nat):Int)) :=
 psize_all x.size x (Nat.le_refl _) w _ _ _ _ _ _ _ _ _ ha
end Go.Proofs.YtbbmjdddemahfaaGreat
