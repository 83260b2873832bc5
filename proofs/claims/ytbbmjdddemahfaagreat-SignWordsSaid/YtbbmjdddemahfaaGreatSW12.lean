/- Part of the proof. -/
import Derived.Test.YtbbmjdddemahfaaGreatSW10
import Derived.Test.YtbbmjdddemahfaaGreatSW04
import Derived.Test.YtbbmjdddemahfaaGreatSW11
import Derived.Test.YtbbmjdddemahfaaGreatSW05
import Derived.Test.YtbbmjdddemahfaaGreatSW01
import Derived.BigRegion
set_option maxRecDepth 100000
namespace Go.Proofs.YtbbmjdddemahfaaGreat
open Go.RowKit
open M (Rg)
open Y (Nd It)

theorem RgAt.rd {w:World}{A:Option Addr}{n c:Nat}{L:List Rg}(h:RgAt w (Bl w) A n c L):Rd w w.heap.size A n c L :=
 ⟨h.len,h.cap,h.capm,fun hn=>by
  obtain ⟨b,off,e,hb,hc⟩:=h.at_ hn
  refine ⟨b,off,e,hb,fun j u hu=>?_⟩
  have hj:j<L.length*2:=by have:=(List.getElem?_eq_some_iff.1 hu).1;rwa [zu_] at this
  have hk:j / 2<L.length:=by omega
  obtain ⟨h1,h2⟩:=hc (j / 2) _ (List.getElem?_eq_getElem hk)
  rcases Nat.mod_two_eq_zero_or_one j with h0|h0
  ·have e:j=j / 2*2:=by omega
   rw[e,cellsR_lo L (j / 2) hk] at hu
   injection hu with hu
   rw[e,← hu];exact h1
  ·have e:j=j / 2*2+1:=by omega
   rw[e,cellsR_hi L (j / 2) hk] at hu
   injection hu with hu
   rw[e,← hu,← Nat.add_assoc];exact h2⟩
theorem Rd.rg {w:World}{A:Option Addr}{n c:Nat}{L:List Rg}(h:Rd w w.heap.size A n c L):RgAt w (Bl w) A n c L :=
 ⟨h.len,h.cap,h.capm,fun hn=>by
  obtain ⟨b,off,e,hb,hc⟩:=h.at_ hn
  refine ⟨b,off,e,hb,fun j r hr=>?_⟩
  obtain ⟨hj,er⟩:=List.getElem?_eq_some_iff.1 hr
  subst er
  exact ⟨hc _ _ (cellsR_lo L j hj),by have:=hc _ _ (cellsR_hi L j hj);rwa [← Nat.add_assoc] at this⟩⟩
def Nw (w w' : World) (b:Nat):Prop:=w.heap.size≤b∧b<w'.heap.size
theorem rg_own {w w1 w' : World}{A:Option Addr}{n c:Nat}{L:List Rg}(h:Own w' w1.heap.size A n c L) (hw:w.heap.size≤w1.heap.size):RgAt w' (Nw w w') A n c L:=by
 have hr:=h.rd.rg
 refine ⟨hr.len,hr.cap,hr.capm,fun hn=>?_⟩
 obtain ⟨b,off,e,hb,hc⟩:=hr.at_ hn
 refine ⟨b,off,e,⟨?_,hb⟩,hc⟩
 have:=(h.lt b (by rw[e];rfl)).1
 omega
def DSetP (w:World) (r:Int × List Rg) (e:Ending) (w' : World):Prop:=∃ A n c,e=.returned (.tuple #[.slice A n c,.int .i64 r.1])∧RgAt w' (Nw w w') A n c r.2∧Below w.heap.size w w'
theorem DSetP.err {w w' : World}{r:Int × List Rg}{x:Int}(hr:r=(x,[])) (hb:Below w.heap.size w w'):DSetP w r (.returned (.tuple #[.slice none 0 0,.int .i64 x])) w' := by
 subst hr
 exact ⟨none,0,0,rfl,RgAt.nil _ _,hb⟩
theorem DSetP.few {w w' : World}{r:Int × List Rg}{A:Option Addr}{n c:Nat}{L:List Rg}(hr:r=fewD L) (h:RgAt w' (Nw w w') A n c L) (hn:¬ 400<n) (hb:Below w.heap.size w w'):DSetP w r (.returned (.tuple #[.slice A n c,.int .i64 0])) w' := by
 subst hr
 unfold fewD
 rw[h.len,if_neg hn]
 exact ⟨A,n,c,rfl,h,hb⟩
theorem DSetP.many {w w' : World}{r:Int × List Rg}{A:Option Addr}{n c:Nat}{L:List Rg}(hr:r=fewD L) (h:RgAt w' (Nw w w') A n c L) (hn:400<n) (hb:Below w.heap.size w w'):DSetP w r (.returned (.tuple #[.slice none 0 0,.int .i64 9])) w' := by
 subst hr
 unfold fewD
 rw[h.len,if_pos hn]
 exact ⟨none,0,0,rfl,RgAt.nil _ _,hb⟩
theorem dset_plain {vs:List Vr}{x:Nd}(h:innerD x.kind=false):dSet vs x=dSetOf vs x.kind x.low x.high x.name []:=by
 cases x with
 | mk k s lo hi l=>rw[dSet,if_neg (by rw[show innerD k=false from h];simp)];rfl
theorem zt_ {w:World}{N:Nat}{x0 x1 x2 x3 x4:Value}{t:TypeId}(h:w.heap[N]?=some (.cells #[x0,x1,x2,x3,x4] t (0,0))) :
  w.cell? ⟨N,0,none⟩=some x0∧w.cell? ⟨N,1,none⟩=some x1∧w.cell? ⟨N,2,none⟩=some x2∧w.cell? ⟨N,3,none⟩=some x3∧w.cell? ⟨N,4,none⟩=some x4:=by
 refine ⟨?_,?_,?_,?_,?_⟩ <;> (rw[cell_of_row _ _ _ _ _ _ h];rfl)
set_option maxHeartbeats 4000000 in
theorem dset_5 {vs:List Vr}{x:Nd}(hk:x.kind=5){w:World}{A:Option Addr}{n c:Nat}(ha:RdN w (Bl w) A n c x.kids){vA:Option Addr}{vn vc:Nat}(hv:RdG varD w (Bl w) vA vn vc vs) :
  Calls Tryz.prog 108 #[.agg #[.int .i64 x.kind,.string x.name,.int .i64 x.low,.int .i64 x.high,.slice A n c],.slice vA vn vc] w (DSetP w (dSet vs x)):=by
 have hsm:=ha.small
 have HE:Hid (dSet vs x=fewD (M.plainL [(x.low,x.high)])):=by
  show _=_
  rw[dset_plain (by rw[hk];rfl),hk];rfl
 have HP:=ha_ (qa_ w (.cells #[.int .i64 5,.string x.name,.int .i64 x.low,.int .i64 x.high,.slice A n c] 77))
 have HROW:=ha_ (heap_alloc_new w (.cells #[.int .i64 5,.string x.name,.int .i64 x.low,.int .i64 x.high,.slice A n c] 77))
 have hz:(w.alloc (.cells #[.int .i64 5,.string x.name,.int .i64 x.low,.int .i64 x.high,.slice A n c] 77)).heap.size=w.heap.size+1:=by simp
 clear ha hv
 rw[hk]
 go_enter Tryz.func108,Tryz.ntmps108
 go_wp2_with fail
 generalize hW1:w.alloc (.cells #[.int .i64 5,.string x.name,.int .i64 x.low,.int .i64 x.high,.slice A n c] 77)=W1 at *
 clear hW1
 go_loopw [8,6] (fun iv kv wx=>iv=.int .i64 0∧kv=.slice none 0 0∧W1=wx) (fun _ _ _=>0)
 case atStart=>exact ⟨rfl,rfl,rfl⟩
 case round =>
  obtain ⟨rfl,rfl,rfl⟩:=hrel
  obtain ⟨r0,r1,r2,r3,r4⟩:=zt_ HROW.out
  have HC:=ha_ (rplain_own (rd_one W1 x.low x.high 108))
  have HP2:Hid (Below W1.heap.size W1 (W1.alloc (.cells #[.int .i64 x.low,.int .i64 x.high] 108))):=qa_ _ _
  rw[hz] at HC
  by_cases hn0:0<n
  all_goals
   go_wp2_with fail
   refine HC.out.mono ?_
   rintro en w2 ⟨A1,n1,c1,L,rfl,hL,hr,hb2⟩
   have HR:=ha_ (rg_own (w:=w) hr (Nat.le_trans HP.out.size HP2.out.size))
   have HB:Hid (Below w.heap.size w w2):=HP.out.trans ((HP2.out.trans (hb2.mono HP2.out.size)).mono HP.out.size)
   have HE2:Hid (dSet vs x=fewD L):=by show _=_;rw[HE.out];exact congrArg fewD hL.symm
   have hn1:=hr.len
   have hr1:n1≤9223372036854775807:=hr.rd.rg.small
   clear hL hr hb2 HE HC
   by_cases h400:400<n1
   ·have g4:(400:Int)<(n1:Int):=by omega
    have HF:=ha_ (DSetP.many HE2.out HR.out h400 HB.out)
    clear h400 HR HE2
    go_wp2_with fail
    go_ret2
    exact HF.out
   ·have g4:¬ (400:Int)<(n1:Int):=by omega
    have HF:=ha_ (DSetP.few HE2.out HR.out h400 HB.out)
    clear h400 HR HE2
    go_wp2_with fail
    go_ret2
    exact HF.out
set_option maxHeartbeats 4000000 in
theorem dset_3 {vs:List Vr}{x:Nd}(hk:x.kind=3){w:World}{A:Option Addr}{n c:Nat}(ha:RdN w (Bl w) A n c x.kids){vA:Option Addr}{vn vc:Nat}(hv:RdG varD w (Bl w) vA vn vc vs) :
  Calls Tryz.prog 108 #[.agg #[.int .i64 x.kind,.string x.name,.int .i64 x.low,.int .i64 x.high,.slice A n c],.slice vA vn vc] w (DSetP w (dSet vs x)):=by
 have hsm:=ha.small
 have HE:Hid (dSet vs x=fewD (toldL (fun x _=>!x) [] [])):=by
  show _=_
  rw[dset_plain (by rw[hk];rfl),hk];rfl
 have HP:=ha_ (qa_ w (.cells #[.int .i64 3,.string x.name,.int .i64 x.low,.int .i64 x.high,.slice A n c] 77))
 have HROW:=ha_ (heap_alloc_new w (.cells #[.int .i64 3,.string x.name,.int .i64 x.low,.int .i64 x.high,.slice A n c] 77))
 have hz:(w.alloc (.cells #[.int .i64 3,.string x.name,.int .i64 x.low,.int .i64 x.high,.slice A n c] 77)).heap.size=w.heap.size+1:=by simp
 clear ha hv
 rw[hk]
 go_enter Tryz.func108,Tryz.ntmps108
 go_wp2_with fail
 generalize hW1:w.alloc (.cells #[.int .i64 3,.string x.name,.int .i64 x.low,.int .i64 x.high,.slice A n c] 77)=W1 at *
 clear hW1
 go_loopw [8,6] (fun iv kv wx=>iv=.int .i64 0∧kv=.slice none 0 0∧W1=wx) (fun _ _ _=>0)
 case atStart=>exact ⟨rfl,rfl,rfl⟩
 case round =>
  obtain ⟨rfl,rfl,rfl⟩:=hrel
  obtain ⟨r0,r1,r2,r3,r4⟩:=zt_ HROW.out
  have HC:=ha_ (rnot_own (Rd.nil W1 W1.heap.size))
  by_cases hn0:0<n
  all_goals
   go_wp2_with fail
   refine HC.out.mono ?_
   rintro en w2 ⟨A1,n1,c1,L,rfl,hL,hr,hb2⟩
   have HR:=ha_ (rg_own (w:=w) hr (HP.out.size))
   have HB:Hid (Below w.heap.size w w2):=HP.out.trans (hb2.mono HP.out.size)
   have HE2:Hid (dSet vs x=fewD L):=by show _=_;rw[HE.out];exact congrArg fewD (told_eq hL).symm
   have hn1:=hr.len
   have hr1:n1≤9223372036854775807:=hr.rd.rg.small
   clear hL hr hb2 HE HC
   by_cases h400:400<n1
   ·have g4:(400:Int)<(n1:Int):=by omega
    have HF:=ha_ (DSetP.many HE2.out HR.out h400 HB.out)
    clear h400 HR HE2
    go_wp2_with fail
    go_ret2
    exact HF.out
   ·have g4:¬ (400:Int)<(n1:Int):=by omega
    have HF:=ha_ (DSetP.few HE2.out HR.out h400 HB.out)
    clear h400 HR HE2
    go_wp2_with fail
    go_ret2
    exact HF.out
set_option maxHeartbeats 4000000 in
theorem dset_0 {vs:List Vr}{x:Nd}(hk:x.kind≠2∧x.kind≠3∧x.kind≠4∧x.kind≠5∧x.kind≠6∧x.kind≠7){w:World}{A:Option Addr}{n c:Nat}(ha:RdN w (Bl w) A n c x.kids){vA:Option Addr}{vn vc:Nat}(hv:RdG varD w (Bl w) vA vn vc vs) :
  Calls Tryz.prog 108 #[.agg #[.int .i64 x.kind,.string x.name,.int .i64 x.low,.int .i64 x.high,.slice A n c],.slice vA vn vc] w (DSetP w (dSet vs x)):=by
 have hsm:=ha.small
 obtain ⟨k2,k3,k4,k5,k6,k7⟩:=hk
 have HE:Hid (dSet vs x=(12,[])):=by
  show _=_
  rw[dset_plain (by unfold innerD;simp[k4,k6,k7])]
  unfold dSetOf
  rw[if_neg k5,if_neg k3,if_neg k2,if_neg k4,if_neg k6,if_neg k7]
 have HP:=ha_ (qa_ w (.cells #[.int .i64 x.kind,.string x.name,.int .i64 x.low,.int .i64 x.high,.slice A n c] 77))
 have HROW:=ha_ (heap_alloc_new w (.cells #[.int .i64 x.kind,.string x.name,.int .i64 x.low,.int .i64 x.high,.slice A n c] 77))
 have hz:(w.alloc (.cells #[.int .i64 x.kind,.string x.name,.int .i64 x.low,.int .i64 x.high,.slice A n c] 77)).heap.size=w.heap.size+1:=by simp
 clear ha hv
 have e2:(x.kind == 2)=false:=by rw[beq_eq_false_iff_ne];exact k2
 have e3:(x.kind == 3)=false:=by rw[beq_eq_false_iff_ne];exact k3
 have e4:(x.kind == 4)=false:=by rw[beq_eq_false_iff_ne];exact k4
 have e5:(x.kind == 5)=false:=by rw[beq_eq_false_iff_ne];exact k5
 have e6:(x.kind == 6)=false:=by rw[beq_eq_false_iff_ne];exact k6
 have e7:(x.kind == 7)=false:=by rw[beq_eq_false_iff_ne];exact k7
 clear k2 k3 k4 k5 k6 k7
 go_enter Tryz.func108,Tryz.ntmps108
 go_wp2_with fail
 generalize hW1:w.alloc (.cells #[.int .i64 x.kind,.string x.name,.int .i64 x.low,.int .i64 x.high,.slice A n c] 77)=W1 at *
 clear hW1
 go_loopw [8,6] (fun iv kv wx=>iv=.int .i64 0∧kv=.slice none 0 0∧W1=wx) (fun _ _ _=>0)
 case atStart=>exact ⟨rfl,rfl,rfl⟩
 case round =>
  obtain ⟨rfl,rfl,rfl⟩:=hrel
  obtain ⟨r0,r1,r2,r3,r4⟩:=zt_ HROW.out
  by_cases hn0:0<n
  all_goals
   go_wp2_with fail
   go_ret2
   exact DSetP.err HE.out HP.out
set_option maxHeartbeats 4000000 in
theorem dset_2 {vs:List Vr}{x:Nd}(hk:x.kind=2){w:World}{A:Option Addr}{n c:Nat}(ha:RdN w (Bl w) A n c x.kids){vA:Option Addr}{vn vc:Nat}(hv:RdG varD w (Bl w) vA vn vc vs) :
  Calls Tryz.prog 108 #[.agg #[.int .i64 x.kind,.string x.name,.int .i64 x.low,.int .i64 x.high,.slice A n c],.slice vA vn vc] w (DSetP w (dSet vs x)):=by
 have hsm:=ha.small
 have hvl:=hv.len
 have hvs:=hv.small
 have HE:Hid (dSet vs x=(match vrFind vs x.name with
  | none=>(10,[])
  | some i=>(match vs[i]? with|none=>(10,[])|some v=>if v.set=true then fewD (M.plainL v.pat.set) else (12,[])))):=by
  show _=_
  rw[dset_plain (by rw[hk];rfl),hk];rfl
 have HP:=ha_ (qa_ w (.cells #[.int .i64 2,.string x.name,.int .i64 x.low,.int .i64 x.high,.slice A n c] 77))
 have HROW:=ha_ (heap_alloc_new w (.cells #[.int .i64 2,.string x.name,.int .i64 x.low,.int .i64 x.high,.slice A n c] 77))
 have hz:(w.alloc (.cells #[.int .i64 2,.string x.name,.int .i64 x.low,.int .i64 x.high,.slice A n c] 77)).heap.size=w.heap.size+1:=by simp
 have HV:=ha_ (hv.on HP.out)
 clear ha hv
 rw[hk]
 go_enter Tryz.func108,Tryz.ntmps108
 go_wp2_with fail
 generalize hW1:w.alloc (.cells #[.int .i64 2,.string x.name,.int .i64 x.low,.int .i64 x.high,.slice A n c] 77)=W1 at *
 clear hW1
 go_loopw [8,6] (fun iv kv wx=>iv=.int .i64 0∧kv=.slice none 0 0∧W1=wx) (fun _ _ _=>0)
 case atStart=>exact ⟨rfl,rfl,rfl⟩
 case round =>
  obtain ⟨rfl,rfl,rfl⟩:=hrel
  obtain ⟨r0,r1,r2,r3,r4⟩:=zt_ HROW.out
  have HC:=ha_ (dfind_any HV.out x.name)
  cases hf:vrFind vs x.name with
  | none =>
   rw[hf,show plI none=-1 from rfl] at HC
   have HE2:Hid (dSet vs x=(10,[])):=by show _=_;rw[HE.out,hf]
   clear hf HE
   by_cases hn0:0<n
   all_goals
    go_wp2_with fail
    refine HC.out.mono ?_
    rintro en w2 ⟨rfl,hb2⟩
    have HB:Hid (Below w.heap.size w w2):=HP.out.trans (hb2.mono HP.out.size)
    clear hb2 HC
    go_wp2_with fail
    go_ret2
    exact DSetP.err HE2.out HB.out
  | some i =>
   rw[hf,show plI (some i)=(i:Int) from rfl] at HC
   have hi:i<vs.length:=by
    unfold vrFind at hf
    rw[List.findIdx?_eq_some_iff_getElem] at hf
    exact hf.1
   have hi0:(0:Int)≤(i:Int):=by omega
   have hi1:(i:Int)<(vn:Int):=by omega
   have HE2:Hid (dSet vs x=if (vs[i]'hi).set=true then fewD (M.plainL (vs[i]'hi).pat.set) else (12,[])):=by show _=_;rw[HE.out,hf];simp only[List.getElem?_eq_getElem hi]
   clear hf HE
   by_cases hn0:0<n
   all_goals
    go_wp2_with fail
    refine HC.out.mono ?_
    rintro en w2 ⟨rfl,hb2⟩
    have HB:Hid (Below w.heap.size w w2):=HP.out.trans (hb2.mono HP.out.size)
    obtain ⟨b1,o1,v,cs,hA,hb1,hx,hat,hc⟩:=(HV.out.on hb2).got (i:=i) (by omega)
    subst hA
    obtain ⟨sA,sn,sc,gA,gn,gc,A', n', c', hpt,s0,s1,s2,s3,s4,s5,s6⟩:=var_cells hat hc
    have hd:varD.k=7:=rfl
    rw[hd] at s0 s1 s2 s3 s4 s5 s6
    have ev:vs[i]'hi=v:=by rw[List.getElem?_eq_getElem hi] at hx;injection hx
    rw[ev] at HE2
    have HC2:=ha_ (rplain_own hpt.set.rd)
    have HB2:=ha_ hb2
    clear hx hat hc hb1 s0 s1 s3 s4 s6 hpt hb2 HC
    cases hset:v.set with
    | false =>
     rw[hset] at s5 HE2
     have HE3:Hid (dSet vs x=(12,[])):=by show _=_;rw[HE2.out];rfl
     clear HE2
     go_wp2_with fail
     go_ret2
     exact DSetP.err HE3.out HB.out
    | true =>
     rw[hset] at s5 HE2
     have HE3:Hid (dSet vs x=fewD (M.plainL v.pat.set)):=by show _=_;rw[HE2.out];rfl
     clear HE2
     go_wp2_with fail
     refine HC2.out.mono ?_
     rintro en w3 ⟨A1,n1,c1,L,rfl,hL,hr,hb2⟩
     have HR:=ha_ (rg_own (w:=w) hr (HB.out.size))
     have HB3:Hid (Below w.heap.size w w3):=HB.out.trans (hb2.mono HB.out.size)
     have HE2:Hid (dSet vs x=fewD L):=by show _=_;rw[HE3.out];exact congrArg fewD hL.symm
     have hn1:=hr.len
     have hr1:n1≤9223372036854775807:=hr.rd.rg.small
     clear hL hr hb2 HE3 HC2
     by_cases h400:400<n1
     ·have g4:(400:Int)<(n1:Int):=by omega
      have HF:=ha_ (DSetP.many HE2.out HR.out h400 HB3.out)
      clear h400 HR HE2
      go_wp2_with fail
      go_ret2
      exact HF.out
     ·have g4:¬ (400:Int)<(n1:Int):=by omega
      have HF:=ha_ (DSetP.few HE2.out HR.out h400 HB3.out)
      clear h400 HR HE2
      go_wp2_with fail
      go_ret2
      exact HF.out

noncomputable def eqP (x y:Pt):Bool:=@decide (x=y) (Classical.propDecidable _)
noncomputable def eqPs (l m:List Pt):Bool:=@decide (l=m) (Classical.propDecidable _)
theorem eqP_iff {x y:Pt}:eqP x y=true↔x=y:=by unfold eqP;exact @decide_eq_true_iff _ (Classical.propDecidable _)
theorem eqPs_iff {l m:List Pt}:eqPs l m=true↔l=m:=by unfold eqPs;exact @decide_eq_true_iff _ (Classical.propDecidable _)
theorem eqP_no {x y:Pt}(h:x≠y):eqP x y=false:=by rw[← Bool.not_eq_true,eqP_iff];exact h
theorem eqPs_no {l m:List Pt}(h:l≠m):eqPs l m=false:=by rw[← Bool.not_eq_true,eqPs_iff];exact h
theorem eqP_yes (x:Pt):eqP x x=true:=eqP_iff.2 rfl
theorem eqP_kids {x y:Pt}(h1:x.kind=y.kind) (h2:x.set=y.set) (h3:x.signs=y.signs):eqP x y=eqPs x.kids y.kids:=by
 rw[Bool.eq_iff_iff,eqP_iff,eqPs_iff]
 refine ⟨fun h=>by rw[h],fun h=>?_⟩
 cases x;cases y
 simp only[Pt.kind,Pt.set,Pt.signs,Pt.kids] at h1 h2 h3 h
 subst h1 h2 h3 h
 rfl
theorem qf_ {w w' : World}{b o:Nat}{v:Value}(h:Below w.heap.size w w') (hb:b<w.heap.size) (hc:w.cell? ⟨b,o,none⟩=some v):w'.cell? ⟨b,o,none⟩=some v:=(h.cell (p:=⟨b,o,none⟩) hb).trans hc
def PSameK (k:Nat):Prop:=∀ (x y:Pt),x.size≤k→∀ (w:World) (sA gA A:Option Addr) (sn sc gn gc n c:Nat) (sA' gA' A' : Option Addr) (sn' sc' gn' gc' n' c' : Nat),PtIn w (Bl w) sA sn sc gA gn gc A n c x→PtIn w (Bl w) sA' sn' sc' gA' gn' gc' A' n' c' y →
 Calls Tryz.prog 15 #[.agg #[.int .i64 x.kind,.slice sA sn sc,.slice gA gn gc,.slice A n c],.agg #[.int .i64 y.kind,.slice sA' sn' sc', .slice gA' gn' gc', .slice A' n' c']] w (BooK w (eqP x y))
set_option maxHeartbeats 8000000 in
theorem psame_all:∀ k:Nat,PSameK k:=by
 intro k
 induction k with
 | zero=>intro x y h;have:=Pt.size_pos x;omega
 | succ k ih =>
  intro x y hk w sA gA A sn sc gn gc n c sA' gA' A' sn' sc' gn' gc' n' c' ha hb
  have hkids:ptsSize x.kids≤k:=by have:=Pt.size_kids x;omega
  have hna:=ha.kids.len
  have hnb:=hb.kids.len
  have hsm:=ha.kids.small
  have hsm' := hb.kids.small
  have HP:=ha_ ((qa_ w (.cells #[.int .i64 x.kind,.slice sA sn sc,.slice gA gn gc,.slice A n c] 47)).trans ((qa_ _ (.cells #[.int .i64 y.kind,.slice sA' sn' sc', .slice gA' gn' gc', .slice A' n' c'] 47)).mono (by simp)))
  have HR1:Hid (((w.alloc (.cells #[.int .i64 x.kind,.slice sA sn sc,.slice gA gn gc,.slice A n c] 47)).alloc (.cells #[.int .i64 y.kind,.slice sA' sn' sc', .slice gA' gn' gc', .slice A' n' c'] 47)).heap[w.heap.size]?=some (.cells #[.int .i64 x.kind,.slice sA sn sc,.slice gA gn gc,.slice A n c] 47 (0,0))):=((qa_ (w.alloc (.cells #[.int .i64 x.kind,.slice sA sn sc,.slice gA gn gc,.slice A n c] 47)) (.cells #[.int .i64 y.kind,.slice sA' sn' sc', .slice gA' gn' gc', .slice A' n' c'] 47)).block _ (by simp)).trans (heap_alloc_new w _)
  have HR2:Hid (((w.alloc (.cells #[.int .i64 x.kind,.slice sA sn sc,.slice gA gn gc,.slice A n c] 47)).alloc (.cells #[.int .i64 y.kind,.slice sA' sn' sc', .slice gA' gn' gc', .slice A' n' c'] 47)).heap[w.heap.size+1]?=some (.cells #[.int .i64 y.kind,.slice sA' sn' sc', .slice gA' gn' gc', .slice A' n' c'] 47 (0,0))):=by
   have:=heap_alloc_new (w.alloc (.cells #[.int .i64 x.kind,.slice sA sn sc,.slice gA gn gc,.slice A n c] 47)) (.cells #[.int .i64 y.kind,.slice sA' sn' sc', .slice gA' gn' gc', .slice A' n' c'] 47)
   rwa [show (w.alloc (.cells #[.int .i64 x.kind,.slice sA sn sc,.slice gA gn gc,.slice A n c] 47)).heap.size=w.heap.size+1 by simp] at this
  have hz2:((w.alloc (.cells #[.int .i64 x.kind,.slice sA sn sc,.slice gA gn gc,.slice A n c] 47)).alloc (.cells #[.int .i64 y.kind,.slice sA' sn' sc', .slice gA' gn' gc', .slice A' n' c'] 47)).heap.size=w.heap.size+2:=by simp
  have HA:=ha_ (ha.on HP.out)
  have HB:=ha_ (hb.on HP.out)
  clear ha hb
  by_cases h1:x.kind=y.kind
  ·have g1:(x.kind != y.kind)=false:=by simpa using h1
   have HC1:=ha_ (pranges_b HA.out.set HB.out.set)
   by_cases h2:x.set=y.set
   ·have e2:decide (x.set=y.set)=true:=decide_eq_true h2
    rw[e2] at HC1
    by_cases h3:x.signs=y.signs
    ·have e3:decide (x.signs=y.signs)=true:=decide_eq_true h3
     have hE:=eqP_kids h1 h2 h3
     by_cases h5:n=n'
     ·subst h5
      have HF:=ha_ hE
      have HE3:=ha_ e3
      clear h1 h2 h3 hE e2 e3
      go_enter Tryz.func15,Tryz.ntmps15
      go_wp2_with fail
      generalize hW1:((w.alloc (.cells #[.int .i64 x.kind,.slice sA sn sc,.slice gA gn gc,.slice A n c] 47)).alloc (.cells #[.int .i64 y.kind,.slice sA' sn' sc', .slice gA' gn' gc', .slice A' n c'] 47))=W1 at *
      clear hW1
      refine HC1.out.mono ?_
      rintro en w1 ⟨rfl,hb1⟩
      have HB1:=ha_ hb1
      obtain ⟨r0,r1,r2,r3⟩:=qy_ ((hb1.block _ (by omega)).trans HR1.out)
      obtain ⟨q0,q1,q2,q3⟩:=qy_ ((hb1.block _ (by omega)).trans HR2.out)
      have HC2:=ha_ (pints_b (HA.out.on HB1.out).signs (HB.out.on HB1.out).signs)
      rw[HE3.out] at HC2
      clear hb1 HC1
      go_wp2_with fail
      refine HC2.out.mono ?_
      rintro en w2 ⟨rfl,hb2⟩
      have HB2:=ha_ (HB1.out.trans (hb2.mono HB1.out.size))
      clear r0 r1 r2 r3 q0 q1 q2 q3 hb2 HC2 HB1
      obtain ⟨r0,r1,r2,r3⟩:=qy_ ((HB2.out.block _ (by omega)).trans HR1.out)
      obtain ⟨q0,q1,q2,q3⟩:=qy_ ((HB2.out.block _ (by omega)).trans HR2.out)
      go_wp2_with fail
      clear r0 r1 r2 r3 q0 q1 q2 q3
      generalize hla:x.kids=la at *
      generalize hlb:y.kids=lb at *
      have HAK:Hid (RdP W1 (Bl W1) A n c la):=hla ▸ HA.out.kids
      have HBK:Hid (RdP W1 (Bl W1) A' n c' lb):=hlb ▸ HB.out.kids
      clear hla hlb HA HB
      go_loopw [5] (fun iv wx=>∃ j:Nat,j≤n∧iv=.int .i64 j∧Hid (la.take j=lb.take j)∧Hid (Below W1.heap.size W1 wx)) (fun iv _=>n - (intOf iv).toNat)
      case atStart=>exact ⟨0,by omega,rfl,rfl,HB2.out⟩
      case round =>
       obtain ⟨j,hj,rfl,HT,HBL⟩:=hrel
       have HA2:=ha_ (HAK.out.on HBL.out)
       have HB2:=ha_ (HBK.out.on HBL.out)
       have hS0:∀ w', Below wr.heap.size wr w' → w'.cell? ⟨w.heap.size,3,none⟩=some (.slice A n c)∧w'.cell? ⟨w.heap.size+1,3,none⟩=some (.slice A' n c'):=fun w' h=>by
        have hb:=HBL.out.trans (h.mono HBL.out.size)
        exact ⟨(qy_ ((hb.block _ (by omega)).trans HR1.out)).2.2.2,(qy_ ((hb.block _ (by omega)).trans HR2.out)).2.2.2⟩
       obtain ⟨r4,q4⟩:=hS0 wr (Below.refl _ _)
       by_cases hlt:j<n
       ·obtain ⟨b1,o1,u,sA1,sn1,sc1,gA1,gn1,gc1,A1,n1,c1,hA,hb1,hx,hr1,s0,s1,s2,s3⟩:=HA2.out.got hlt
        obtain ⟨b2,o2,v,sA2,sn2,sc2,gA2,gn2,gc2,A2,n2,c2,hB,hb2,hy,hr2,t0,t1,t2,t3⟩:=HB2.out.got hlt
        subst hA hB
        have hS:∀ w', Below wr.heap.size wr w' → w'.cell? ⟨w.heap.size,3,none⟩=some (.slice (some ⟨b1,o1,none⟩) n c)∧w'.cell? ⟨w.heap.size+1,3,none⟩=some (.slice (some ⟨b2,o2,none⟩) n c')∧w'.cell? ⟨b1,o1+j*4,none⟩=some (.int .i64 u.kind)∧w'.cell? ⟨b1,o1+j*4+1,none⟩=some (.slice sA1 sn1 sc1)∧w'.cell? ⟨b1,o1+j*4+2,none⟩=some (.slice gA1 gn1 gc1)∧w'.cell? ⟨b1,o1+j*4+3,none⟩=some (.slice A1 n1 c1)∧w'.cell? ⟨b2,o2+j*4,none⟩=some (.int .i64 v.kind)∧w'.cell? ⟨b2,o2+j*4+1,none⟩=some (.slice sA2 sn2 sc2)∧w'.cell? ⟨b2,o2+j*4+2,none⟩=some (.slice gA2 gn2 gc2)∧w'.cell? ⟨b2,o2+j*4+3,none⟩=some (.slice A2 n2 c2):=fun w' h=>⟨(hS0 w' h).1,(hS0 w' h).2,qf_ h hb1 s0,qf_ h hb1 s1,qf_ h hb1 s2,qf_ h hb1 s3,qf_ h hb2 t0,qf_ h hb2 t1,qf_ h hb2 t2,qf_ h hb2 t3⟩
        have HS:=ha_ hS
        have HX:=ha_ hx
        have HY:=ha_ hy
        have HR3:=ha_ hr1
        have HR4:=ha_ hr2
        have hsz:u.size≤k:=Nat.le_trans (ptsSize_mem hx) hkids
        have hj0:(0:Int)≤(j:Int):=by omega
        have hj1:(j:Int)<(n:Int):=by omega
        have HC:Hid (∀ w', Below wr.heap.size wr w' → Calls Tryz.prog 15 #[.agg #[.int .i64 u.kind,.slice sA1 sn1 sc1,.slice gA1 gn1 gc1,.slice A1 n1 c1],.agg #[.int .i64 v.kind,.slice sA2 sn2 sc2,.slice gA2 gn2 gc2,.slice A2 n2 c2]] w' (BooK w' (eqP u v))):=fun w' h=>ih u v hsz w' _ _ _ _ _ _ _ _ _ _ _ _ _ _ _ _ _ _ (HR3.out.on h) (HR4.out.on h)
        have HK0:=ha_ (HS.out _ (qb_ (Below.refl _ _) 1))
        have HC0:=ha_ (HC.out wr.drew (qb_ (Below.refl _ _) 1))
        have HBD:Hid (Below wr.heap.size wr wr.drew):=qb_ (Below.refl _ _) 1
        clear hx hy hr1 hr2 HA2 HB2 hS hS0 HC
        cases he:eqP u v with
        | true =>
         rw[he] at HC0
         have HT2:Hid (la.take (j+1)=lb.take (j+1)):=by
          show _=_
          have e:=eqP_iff.1 he
          subst e
          rw[List.take_add_one,List.take_add_one,HT.out,HX.out,HY.out]
         clear HT HX HY he
         go_wp2_with fail
         go_region_held_law (fun w' => w'.cell? ⟨w.heap.size,3,none⟩=some (.slice (some ⟨b1,o1,none⟩) n c)∧w'.cell? ⟨w.heap.size+1,3,none⟩=some (.slice (some ⟨b2,o2,none⟩) n c')∧w'.cell? ⟨b1,o1+j*4,none⟩=some (.int .i64 u.kind)∧w'.cell? ⟨b1,o1+j*4+1,none⟩=some (.slice sA1 sn1 sc1)∧w'.cell? ⟨b1,o1+j*4+2,none⟩=some (.slice gA1 gn1 gc1)∧w'.cell? ⟨b1,o1+j*4+3,none⟩=some (.slice A1 n1 c1)∧w'.cell? ⟨b2,o2+j*4,none⟩=some (.int .i64 v.kind)∧w'.cell? ⟨b2,o2+j*4+1,none⟩=some (.slice sA2 sn2 sc2)∧w'.cell? ⟨b2,o2+j*4+2,none⟩=some (.slice gA2 gn2 gc2)∧w'.cell? ⟨b2,o2+j*4+3,none⟩=some (.slice A2 n2 c2)) (first|exact HK0.out|exact HK1.out) ((go_at_call 15;refine HC0.out.mono ?_;rintro en w5 ⟨rfl,hb5⟩;have HB5:=ha_ (HBD.out.trans (hb5.mono HBD.out.size));have HK1:=ha_ (HS.out w5 HB5.out);clear hb5))
         go_wp2_with fail
         go_roundw
         case rel=>exact ⟨j+1,by omega,by go_num,HT2.out,HBL.out.trans (HB5.out.mono HBL.out.size)⟩
         case measure=>simp[intOf];omega
        | false =>
         rw[he] at HC0
         have HFF:Hid (eqP x y=false):=by
          show _=_
          rw[HF.out]
          refine eqPs_no fun e=>?_
          subst e
          have e2:=HX.out.symm.trans HY.out
          injection e2 with e2
          subst e2
          rw[eqP_yes] at he
          cases he
         clear HT HX HY he HF
         go_wp2_with fail
         go_region_held_law (fun w' => w'.cell? ⟨w.heap.size,3,none⟩=some (.slice (some ⟨b1,o1,none⟩) n c)∧w'.cell? ⟨w.heap.size+1,3,none⟩=some (.slice (some ⟨b2,o2,none⟩) n c')∧w'.cell? ⟨b1,o1+j*4,none⟩=some (.int .i64 u.kind)∧w'.cell? ⟨b1,o1+j*4+1,none⟩=some (.slice sA1 sn1 sc1)∧w'.cell? ⟨b1,o1+j*4+2,none⟩=some (.slice gA1 gn1 gc1)∧w'.cell? ⟨b1,o1+j*4+3,none⟩=some (.slice A1 n1 c1)∧w'.cell? ⟨b2,o2+j*4,none⟩=some (.int .i64 v.kind)∧w'.cell? ⟨b2,o2+j*4+1,none⟩=some (.slice sA2 sn2 sc2)∧w'.cell? ⟨b2,o2+j*4+2,none⟩=some (.slice gA2 gn2 gc2)∧w'.cell? ⟨b2,o2+j*4+3,none⟩=some (.slice A2 n2 c2)) (first|exact HK0.out|exact HK1.out) ((go_at_call 15;refine HC0.out.mono ?_;rintro en w5 ⟨rfl,hb5⟩;have HB5:=ha_ (HBD.out.trans (hb5.mono HBD.out.size));have HK1:=ha_ (HS.out w5 HB5.out);clear hb5))
         go_wp2_with fail
         go_ret
         exact ⟨pret_bool HFF.out.symm,HP.out.trans ((HBL.out.trans (HB5.out.mono HBL.out.size)).mono HP.out.size)⟩
       ·obtain rfl:j=n:=by omega
        have HFF:Hid (eqP x y=true):=by
         show _=_
         rw[HF.out]
         refine eqPs_iff.2 ?_
         have:=HT.out
         rwa [List.take_of_length_le (by omega),List.take_of_length_le (by omega)] at this
        clear HT HA2 HB2 HF
        go_wp2_with fail
        go_ret
        exact ⟨pret_bool HFF.out.symm,HP.out.trans (HBL.out.mono HP.out.size)⟩
     ·have g5:((n:Int) != (n' : Int))=true:=by rw[bne_iff_ne];omega
      have HF:Hid (eqP x y=false):=by
       show _=_
       rw[hE]
       exact eqPs_no fun e=>h5 (by rw[← hna,← hnb,e])
      have HE3:=ha_ e3
      clear h1 h2 h3 hE e2 e3
      go_enter Tryz.func15,Tryz.ntmps15
      go_wp2_with fail
      generalize hW1:((w.alloc (.cells #[.int .i64 x.kind,.slice sA sn sc,.slice gA gn gc,.slice A n c] 47)).alloc (.cells #[.int .i64 y.kind,.slice sA' sn' sc', .slice gA' gn' gc', .slice A' n' c'] 47))=W1 at *
      refine HC1.out.mono ?_
      rintro en w1 ⟨rfl,hb1⟩
      have HB1:=ha_ hb1
      obtain ⟨r0,r1,r2,r3⟩:=qy_ ((hb1.block _ (by omega)).trans HR1.out)
      obtain ⟨q0,q1,q2,q3⟩:=qy_ ((hb1.block _ (by omega)).trans HR2.out)
      have HC2:=ha_ (pints_b (HA.out.on HB1.out).signs (HB.out.on HB1.out).signs)
      rw[HE3.out] at HC2
      clear hb1 HC1 hW1
      go_wp2_with fail
      refine HC2.out.mono ?_
      rintro en w2 ⟨rfl,hb2⟩
      have HB2:=ha_ (HB1.out.trans (hb2.mono HB1.out.size))
      clear r0 r1 r2 r3 q0 q1 q2 q3 hb2 HC2 HB1
      obtain ⟨r0,r1,r2,r3⟩:=qy_ ((HB2.out.block _ (by omega)).trans HR1.out)
      obtain ⟨q0,q1,q2,q3⟩:=qy_ ((HB2.out.block _ (by omega)).trans HR2.out)
      go_wp2_with fail
      go_ret
      exact ⟨pret_bool HF.out.symm,HP.out.trans (HB2.out.mono HP.out.size)⟩
    ·have e3:decide (x.signs=y.signs)=false:=decide_eq_false h3
     have HF:=ha_ (eqP_no (x:=x) (y:=y) fun e=>h3 (by rw[e]))
     have HE3:=ha_ e3
     clear h1 h2 h3 e2 e3
     go_enter Tryz.func15,Tryz.ntmps15
     go_wp2_with fail
     generalize hW1:((w.alloc (.cells #[.int .i64 x.kind,.slice sA sn sc,.slice gA gn gc,.slice A n c] 47)).alloc (.cells #[.int .i64 y.kind,.slice sA' sn' sc', .slice gA' gn' gc', .slice A' n' c'] 47))=W1 at *
     refine HC1.out.mono ?_
     rintro en w1 ⟨rfl,hb1⟩
     have HB1:=ha_ hb1
     obtain ⟨r0,r1,r2,r3⟩:=qy_ ((hb1.block _ (by omega)).trans HR1.out)
     obtain ⟨q0,q1,q2,q3⟩:=qy_ ((hb1.block _ (by omega)).trans HR2.out)
     have HC2:=ha_ (pints_b (HA.out.on HB1.out).signs (HB.out.on HB1.out).signs)
     rw[HE3.out] at HC2
     clear hb1 HC1 hW1
     go_wp2_with fail
     refine HC2.out.mono ?_
     rintro en w2 ⟨rfl,hb2⟩
     have HB2:=ha_ (HB1.out.trans (hb2.mono HB1.out.size))
     clear hb2 HC2 HB1
     go_wp2_with fail
     go_ret
     exact ⟨pret_bool HF.out.symm,HP.out.trans (HB2.out.mono HP.out.size)⟩
   ·have e2:decide (x.set=y.set)=false:=decide_eq_false h2
    rw[e2] at HC1
    have HF:=ha_ (eqP_no (x:=x) (y:=y) fun e=>h2 (by rw[e]))
    clear h1 h2 e2
    go_enter Tryz.func15,Tryz.ntmps15
    go_wp2_with fail
    generalize hW1:((w.alloc (.cells #[.int .i64 x.kind,.slice sA sn sc,.slice gA gn gc,.slice A n c] 47)).alloc (.cells #[.int .i64 y.kind,.slice sA' sn' sc', .slice gA' gn' gc', .slice A' n' c'] 47))=W1 at *
    refine HC1.out.mono ?_
    rintro en w1 ⟨rfl,hb1⟩
    have HB1:=ha_ hb1
    clear hb1 HC1 hW1
    go_wp2_with fail
    go_ret
    exact ⟨pret_bool HF.out.symm,HP.out.trans (HB1.out.mono HP.out.size)⟩
  ·have g1:(x.kind != y.kind)=true:=by rw[bne_iff_ne];exact h1
   have HF:=ha_ (eqP_no (x:=x) (y:=y) fun e=>h1 (by rw[e]))
   clear h1
   go_enter Tryz.func15,Tryz.ntmps15
   go_wp2_with fail
   go_ret
   exact ⟨pret_bool HF.out.symm,HP.out⟩
theorem psame_any {x y:Pt}{w:World}{sA gA A:Option Addr}{sn sc gn gc n c:Nat}{sA' gA' A' : Option Addr}{sn' sc' gn' gc' n' c' : Nat}(ha:PtIn w (Bl w) sA sn sc gA gn gc A n c x) (hb:PtIn w (Bl w) sA' sn' sc' gA' gn' gc' A' n' c' y) :
  Calls Tryz.prog 15 #[.agg #[.int .i64 x.kind,.slice sA sn sc,.slice gA gn gc,.slice A n c],.agg #[.int .i64 y.kind,.slice sA' sn' sc', .slice gA' gn' gc', .slice A' n' c']] w (BooK w (eqP x y)) :=
 psame_all x.size x y (Nat.le_refl _) w _ _ _ _ _ _ _ _ _ _ _ _ _ _ _ _ _ _ ha hb

theorem dsets_all {vs:List Vr}:∀ {l:List Nd},(∀ (i:Nat) (x:Nd),l[i]?=some x→(dSet vs x).1=0)→dSets vs l=(0,l.map fun x=>(dSet vs x).2)
 | [],_=>by rw[dSets];rfl
 | x :: t,h=>by
  have h0:=h 0 x rfl
  have ht:=dsets_all (vs:=vs) (l:=t) fun i y hy=>h (i+1) y (by simpa using hy)
  rw[dSets,if_neg (by rw[h0];simp),ht,if_neg (by simp)]
  rfl
theorem dsets_fail {vs:List Vr}:∀ {l:List Nd}{j:Nat}{x:Nd},l[j]?=some x→(∀ (i:Nat) (y:Nd),i<j→l[i]?=some y→(dSet vs y).1=0)→(dSet vs x).1≠0→dSets vs l=((dSet vs x).1,[])
 | [],j,x,h,_,_=>by simp at h
 | y :: t,0,x,h,_,hx=>by
  simp at h
  subst h
  rw[dSets,if_pos hx]
 | y :: t,j+1,x,h,hb,hx=>by
  have h0:=hb 0 y (by omega) rfl
  have ht:=dsets_fail (vs:=vs) (l:=t) (j:=j) (x:=x) (by simpa using h) (fun i z hi hz=>hb (i+1) z (by omega) (by simpa using hz)) hx
  rw[dSets,if_neg (by rw[h0];simp),ht,if_pos hx]
theorem dset_inner {vs:List Vr}{x:Nd}(h:innerD x.kind=true):dSet vs x=if (dSets vs x.kids).1≠0 then ((dSets vs x.kids).1,[]) else dSetOf vs x.kind x.low x.high x.name (dSets vs x.kids).2:=by
 cases x with
 | mk k s lo hi l=>rw[dSet,if_pos (show innerD k=true from h)];rfl
theorem ors_snoc:∀ (l:List (List Rg)) (a x:List Rg),(orsD a l).1=0→orsD a (l++[x])=if 400<(toldL (fun x y=>x || y) (orsD a l).2 x).length then (9,[]) else (0,toldL (fun x y=>x || y) (orsD a l).2 x)
 | [],a,x,_=>by
  simp only[List.nil_append,orsD]
  rfl
 | y :: t,a,x,h=>by
  simp only[List.cons_append,orsD] at h ⊢
  split
  ·rename_i hg
   rw[if_pos hg] at h
   simp at h
  ·rename_i hg
   rw[if_neg hg] at h
   exact ors_snoc t _ x h
theorem ors_more:∀ (l m:List (List Rg)) (a:List Rg),(orsD a l).1≠0→orsD a (l++m)=orsD a l
 | [],m,a,h=>by simp[orsD] at h
 | y :: t,m,a,h=>by
  simp only[List.cons_append,orsD] at h ⊢
  split
  ·rfl
  ·rename_i hg
   rw[if_neg hg] at h
   exact ors_more t m _ h
theorem info_S9:(Tryz.prog.info? 44).map (fun i=>(i.zero,i.size,i.bytes))=some (some (.slice none 0 0),1,24):=by kernel_rfl
def DSetK (vs:List Vr) (k:Nat):Prop:=∀ (x:Nd),x.size≤k→∀ (w:World) (A:Option Addr) (n c:Nat),RdN w (Bl w) A n c x.kids→∀ (vA:Option Addr) (vn vc:Nat),RdG varD w (Bl w) vA vn vc vs →
 Calls Tryz.prog 108 #[.agg #[.int .i64 x.kind,.string x.name,.int .i64 x.low,.int .i64 x.high,.slice A n c],.slice vA vn vc] w (DSetP w (dSet vs x))
theorem nd_size_mem {l:List Nd}{i:Nat}{x:Nd}(h:l[i]?=some x):x.size≤Y.sizeL l:=by
 induction l generalizing i with
 | nil=>simp at h
 | cons y t ih =>
  rw[Y.sizeL]
  cases i with
  | zero=>simp at h;subst h;omega
  | succ i=>have:=ih (i:=i) (by simpa using h);omega
theorem zm_ (x:Nd):Y.sizeL x.kids+1=x.size:=by cases x;rw[Nd.size];rfl
def UpTo (vs:List Vr) (l:List Nd) (j:Nat):Prop:=∀ (i:Nat) (y:Nd),i<j→l[i]?=some y→(dSet vs y).1=0
set_option maxHeartbeats 8000000 in
theorem dset_4 {vs:List Vr}{k:Nat}(ih:DSetK vs k){x:Nd}(hsz:x.size≤k+1) (hk:x.kind=4){w:World}{A:Option Addr}{n c:Nat}(ha:RdN w (Bl w) A n c x.kids){vA:Option Addr}{vn vc:Nat}(hv:RdG varD w (Bl w) vA vn vc vs) (hfew:n≤100000) :
  Calls Tryz.prog 108 #[.agg #[.int .i64 x.kind,.string x.name,.int .i64 x.low,.int .i64 x.high,.slice A n c],.slice vA vn vc] w (DSetP w (dSet vs x)):=by
 have hsm:=ha.small
 have hal:=ha.len
 have hks:=zm_ x
 have HE:Hid (dSet vs x=if (dSets vs x.kids).1≠0 then ((dSets vs x.kids).1,[]) else dSetOf vs 4 x.low x.high x.name (dSets vs x.kids).2):=by
  show _=_
  rw[dset_inner (by rw[hk];rfl),hk]
 have HP:=ha_ (qa_ w (.cells #[.int .i64 4,.string x.name,.int .i64 x.low,.int .i64 x.high,.slice A n c] 77))
 have HROW:=ha_ (heap_alloc_new w (.cells #[.int .i64 4,.string x.name,.int .i64 x.low,.int .i64 x.high,.slice A n c] 77))
 have hz:(w.alloc (.cells #[.int .i64 4,.string x.name,.int .i64 x.low,.int .i64 x.high,.slice A n c] 77)).heap.size=w.heap.size+1:=by simp
 have HV:=ha_ (hv.on HP.out)
 have HA:=ha_ (ha.bl HP.out)
 clear ha hv
 rw[hk]
 generalize hl:x.kids=l at *
 go_enter Tryz.func108,Tryz.ntmps108
 go_wp2_with fail
 generalize hW1:w.alloc (.cells #[.int .i64 4,.string x.name,.int .i64 x.low,.int .i64 x.high,.slice A n c] 77)=W1 at *
 clear hW1
 go_loopw [8,6] (fun iv kv wx=>∃ (j:Nat) (oA:Option Addr) (oc:Nat),j≤n∧iv=.int .i64 j∧kv=.slice oA j oc∧Hid (UpTo vs l j)∧Hid (OwnG setD 44 wx W1.heap.size (.slice oA j oc) ((l.take j).map fun y=>(dSet vs y).2))∧Hid (Below W1.heap.size W1 wx)) (fun iv _ _=>n - (intOf iv).toNat)
 case atStart=>exact ⟨0,none,0,by omega,rfl,rfl,fun i y hi=>absurd hi (by omega),OwnG.nil _ _ _ _,Below.refl _ _⟩
 case round =>
  obtain ⟨j,oA,oc,hj,rfl,rfl,HU,HO,HB⟩:=hrel
  rcases (⟨wr,rfl⟩:∃ WL:World,WL=wr) with ⟨WL,rfl⟩
  obtain ⟨r0,r1,r2,r3,r4⟩:=zt_ ((HB.out.block w.heap.size (by omega)).trans HROW.out)
  have HV2:=ha_ (HV.out.on HB.out)
  by_cases hlt:j<n
  ·obtain ⟨b1,o1,y,A1,n1,c1,hA1,hb1,hy,hr1,s0,s1,s2,s3,s4⟩:=(HA.out.bl HB.out).got hlt
   subst hA1
   have HY:=ha_ hy
   have hysz:y.size≤k:=by have:=nd_size_mem hy;omega
   have hj0:(0:Int)≤(j:Int):=by omega
   have hj1:(j:Int)<(n:Int):=by omega
   have HC:=ha_ (ih y hysz WL A1 n1 c1 hr1 vA vn vc HV2.out)
   clear hy hr1 hb1 hysz
   go_wp2_with fail
   refine HC.out.mono ?_
   rintro en w2 ⟨A2,n2,c2,rfl,hr2,hb2⟩
   have HR2:=ha_ hr2
   have HB2:=ha_ hb2
   clear s0 s1 s2 s3 s4 r0 r1 r2 r3 r4 hr2 hb2 HC
   by_cases he:(dSet vs y).1=0
   ·have g0:((dSet vs y).1 != 0)=false:=by rw[he];rfl
    have HU2:Hid (UpTo vs l (j+1)):=fun i z hi hz=>by
     by_cases hij:i<j
     ·exact HU.out i z hij hz
     ·obtain rfl:i=j:=by omega
      have e:=HY.out.symm.trans hz
      injection e with e
      exact e ▸ he
    have HO2:=ha_ (HO.out.on HB2.out)
    have HBA:Hid (Below w2.heap.size w2 (w2.alloc (.cells #[.slice A2 n2 c2] 44))):=qa_ _ _
    have HO3:=ha_ (HO2.out.on HBA.out)
    have HRW3:=ha_ (heap_alloc_new w2 (.cells #[.slice A2 n2 c2] 44))
    have HOB:Hid (∀ i,(Value.slice oA j oc).ownBlock=some i→W1.heap.size≤i∧i<WL.heap.size):=HO.out.block
    have HSZ:Hid (WL.heap.size≤w2.heap.size∧W1.heap.size≤WL.heap.size):=⟨HB2.out.size,HB.out.size⟩
    clear he HU
    go_wp2_with (at_builtin;refine app_g (D:=setD) rfl _ _ 22 rfl Tryz.underlying22 info_S9 rfl (by decide) (by decide) rfl HO3.out w2.heap.size (dSet vs y).2 #[.slice A2 n2 c2] 44 rfl HRW3.out ⟨A2,n2,c2,rfl,HR2.out.keep (fun b hb=>⟨Nat.lt_of_lt_of_le hb.2 HBA.out.size,fun e=>absurd (HOB.out b e).2 (Nat.not_lt.2 hb.1)⟩) (fun p hp=>HBA.out.cell hp.2)⟩ (by rw[List.length_map,List.length_take];omega) (Nat.le_trans HSZ.out.2 (Nat.le_trans HSZ.out.1 HBA.out.size)) ?_;intro v5 w5 ho5 hg5)
    have HO5:Hid (OwnG setD 44 w5 W1.heap.size v5 ((l.take (j+1)).map fun y=>(dSet vs y).2)):=by
     show OwnG _ _ _ _ _ _
     rw[List.take_add_one,HY.out,List.map_append]
     exact ho5
    have HB5:Hid (Below W1.heap.size W1 w5):=qe_ ((HB.out.trans ((HB2.out.trans (HBA.out.mono HB2.out.size)).mono HB.out.size))) hg5 (fun i hi=>(HOB.out i hi).1)
    obtain ⟨oA5,oc5,rfl,_⟩:=HO5.out.rd
    have hlen5:((l.take (j+1)).map fun y=>(dSet vs y).2).length=j+1:=by rw[List.length_map,List.length_take];omega
    rw[hlen5] at HO5 ⊢
    clear hlen5 ho5 hg5 HO HO2 HO3 HB HB2 HBA HRW3 HOB HSZ HR2 HY
    go_wp2_with fail
    go_roundw
    case rel=>exact ⟨j+1,_,_,by omega,by go_num,rfl,HU2.out,HO5.out,HB5.out⟩
    case measure=>simp[intOf];omega
   ·have g0:((dSet vs y).1 != 0)=true:=by rw[bne_iff_ne];exact he
    have HF:Hid (dSet vs x=((dSet vs y).1,[])):=by
     show _=_
     rw[HE.out,dsets_fail HY.out HU.out he,if_pos he]
    have HB3:Hid (Below w.heap.size w w2):=HP.out.trans ((HB.out.trans (HB2.out.mono HB.out.size)).mono HP.out.size)
    clear he HU HO HB HB2 HR2 HY HE
    go_wp2_with fail
    go_ret2
    exact DSetP.err HF.out HB3.out
  ·obtain rfl:j=n:=by omega
   have HD:Hid (dSets vs l=(0,l.map fun y=>(dSet vs y).2)):=dsets_all fun i y hy=>HU.out i y (by have:=(List.getElem?_eq_some_iff.1 hy).1;omega) hy
   have HE2:Hid (dSet vs x=dSetOf vs 4 x.low x.high x.name (l.map fun y=>(dSet vs y).2)):=by
    show _=_
    rw[HE.out,HD.out,if_neg (by simp)]
   have HO2:Hid (OwnG setD 44 WL W1.heap.size (.slice oA j oc) (l.map fun y=>(dSet vs y).2)):=by
    have h:=HO.out
    rw[List.take_of_length_le (by omega)] at h
    exact h
   have hlm:(l.map fun y=>(dSet vs y).2).length=j:=by rw[List.length_map];exact hal
   generalize hls:(l.map fun y=>(dSet vs y).2)=ls at *
   have HRD:Hid (RdG setD WL (Bl WL) oA j oc ls):=by
    obtain ⟨A', c', e,h⟩:=HO2.out.rd
    injection e with e1 e2 e3
    subst e1 e3
    rw[hlm] at h
    exact h
   have hroom:=HRD.out.small
   have HBW:Hid (Below w.heap.size w WL):=HP.out.trans (HB.out.mono HP.out.size)
   clear HU HO HO2 HD HE HV2 HA HV ih r0 r1 r2 r3 r4
   obtain ⟨r0,r1,r2,r3,r4⟩:=zt_ ((HB.out.block w.heap.size (by omega)).trans HROW.out)
   have HE3:Hid (dSet vs x=if (orsD [] ls).1≠0 then ((orsD [] ls).1,[]) else if x.low=1 then fewD (toldL (fun x _=>!x) (orsD [] ls).2 []) else fewD (orsD [] ls).2):=HE2.out
   clear HE2
   go_wp2_with fail
   clear r0 r1 r2 r3 r4
   go_loopw [13,11] (fun iv ov wx=>∃ (i:Nat) (A3:Option Addr) (n3 c3:Nat) (acc:List Rg),i≤j∧n3≤400∧iv=.int .i64 i∧ov=.slice A3 n3 c3∧Hid (orsD [] (ls.take i)=(0,acc))∧Hid (RgAt wx (Nw w wx) A3 n3 c3 acc)∧Hid (Below WL.heap.size WL wx)) (fun iv _ _=>j - (intOf iv).toNat)
   case atStart=>exact ⟨0,none,0,0,[],by omega,by omega,rfl,rfl,rfl,RgAt.nil _ _,Below.refl _ _⟩
   case round =>
    obtain ⟨i,A3,n3,c3,acc,hi,hn3,rfl,rfl,HOR,HAC,HB3⟩:=hrel
    have HB4:=ha_ (HB.out.trans (HB3.out.mono HB.out.size))
    have HBX:Hid (Below w.heap.size w wr):=HP.out.trans (HB4.out.mono HP.out.size)
    obtain ⟨r0,r1,r2,r3,r4⟩:=zt_ ((HB4.out.block w.heap.size (by omega)).trans HROW.out)
    have HAB:Hid (RgAt wr (Bl wr) A3 n3 c3 acc):=HAC.out.keep (fun b hb=>hb.2) (fun _ _=>rfl)
    by_cases hlt2:i<j
    ·obtain ⟨b1,o1,z,cs,hA1,hb1,hz1,hat,hc⟩:=(HRD.out.on HB3.out).got hlt2
     subst hA1
     obtain ⟨A4,n4,c4,rfl,hrg⟩:=hat
     have s0:wr.cell? ⟨b1,o1+i,none⟩=some (.slice A4 n4 c4):=by
      have:=hc 0 _ rfl
      rwa [show o1+i*setD.k+0=o1+i by show o1+i*1+0=o1+i;omega] at this
     have HZ:=ha_ hz1
     have HC:=ha_ (ror_own HAB.out.rd hrg.rd)
     have hi0:(0:Int)≤(i:Int):=by omega
     have hi1:(i:Int)<(j:Int):=by omega
     clear hz1 hc hrg hb1
     go_wp2_with fail
     refine HC.out.mono ?_
     rintro en w4 ⟨A5,n5,c5,L,rfl,hL,hr,hb4⟩
     have HL:=ha_ (told_eq hL)
     have HR:=ha_ (rg_own (w:=w) hr HBX.out.size)
     have hn5:=hr.len
     have hr5:n5≤9223372036854775807:=hr.rd.rg.small
     have HS:Hid (orsD [] (ls.take (i+1))=if 400<L.length then (9,[]) else (0,L)):=by
      show _=_
      rw[List.take_add_one,HZ.out]
      have:=ors_snoc (ls.take i) [] z (by rw[HOR.out])
      rw[HOR.out,← HL.out] at this
      exact this
     have HB5:=ha_ (HB3.out.trans (hb4.mono HB3.out.size))
     have HBY:Hid (Below w.heap.size w w4):=HBX.out.trans (hb4.mono HBX.out.size)
     clear hL hr hb4 HC HAB HAC HB3 HB4 HBX HL r0 r1 r2 r3 r4 s0
     by_cases h400:400<n5
     ·have g4:(400:Int)<(n5:Int):=by omega
      have HF:Hid (dSet vs x=(9,[])):=by
       show _=_
       have h1:orsD [] (ls.take (i+1))=(9,[]):=by rw[HS.out,if_pos (by omega)]
       have h2:=ors_more (ls.take (i+1)) (ls.drop (i+1)) [] (by rw[h1];simp)
       rw[List.take_append_drop,h1] at h2
       rw[HE3.out,h2,if_pos (by simp)]
      clear h400 HS HE3 HOR
      go_wp2_with fail
      go_ret2
      exact DSetP.err HF.out HBY.out
     ·have g4:¬ (400:Int)<(n5:Int):=by omega
      have HS2:Hid (orsD [] (ls.take (i+1))=(0,L)):=by show _=_;rw[HS.out,if_neg (by omega)]
      clear HS HOR
      go_wp2_with fail
      go_roundw
      case rel=>exact ⟨i+1,A5,n5,c5,L,by omega,by omega,by go_num,rfl,HS2.out,HR.out,HB5.out⟩
      case measure=>simp[intOf];omega
    ·obtain rfl:i=j:=by omega
     have HOF:Hid (orsD [] ls=(0,acc)):=by
      have h:=HOR.out
      rw[List.take_of_length_le (by omega)] at h
      exact h
     have HE4:Hid (dSet vs x=if x.low=1 then fewD (toldL (fun x _=>!x) acc []) else fewD acc):=by
      show _=_
      rw[HE3.out,HOF.out,if_neg (by simp)]
     clear HE3 HOR HOF HRD
     by_cases hlo:x.low=1
     ·have g1:(x.low == 1)=true:=by simpa using hlo
      have HE:Hid (dSet vs x=fewD (toldL (fun x _=>!x) acc [])):=by show _=_;rw[HE4.out,if_pos hlo]
      have HC:=ha_ (rnot_own HAB.out.rd)
      clear HE4 HAB HAC hlo
      go_wp2_with fail
      refine HC.out.mono ?_
      rintro en w2 ⟨A1,n1,c1,L,rfl,hL,hr,hb2⟩
      have HR:=ha_ (rg_own (w:=w) hr (HBX.out.size))
      have HB:Hid (Below w.heap.size w w2):=HBX.out.trans (hb2.mono HBX.out.size)
      have HE2:Hid (dSet vs x=fewD L):=by show _=_;rw[HE.out];exact congrArg fewD (told_eq hL).symm
      have hn1:=hr.len
      have hr1:n1≤9223372036854775807:=hr.rd.rg.small
      clear hL hr hb2 HE HC
      by_cases h400:400<n1
      ·have g4:(400:Int)<(n1:Int):=by omega
       have HF:=ha_ (DSetP.many HE2.out HR.out h400 HB.out)
       clear h400 HR HE2
       go_wp2_with fail
       go_ret2
       exact HF.out
      ·have g4:¬ (400:Int)<(n1:Int):=by omega
       have HF:=ha_ (DSetP.few HE2.out HR.out h400 HB.out)
       clear h400 HR HE2
       go_wp2_with fail
       go_ret2
       exact HF.out
     ·have g1:(x.low == 1)=false:=by rw[beq_eq_false_iff_ne];exact hlo
      have HE:Hid (dSet vs x=fewD acc):=by show _=_;rw[HE4.out,if_neg hlo]
      have g4:¬ (400:Int)<(n3:Int):=by omega
      have HF:=ha_ (DSetP.few HE.out HAC.out (by omega) HBX.out)
      clear HE4 HAB HAC hlo HE
      go_wp2_with fail
      go_ret2
      exact HF.out
set_option maxHeartbeats 8000000 in
theorem dset_6 {vs:List Vr}{k:Nat}(ih:DSetK vs k){x:Nd}(hsz:x.size≤k+1) (hk:x.kind=6){w:World}{A:Option Addr}{n c:Nat}(ha:RdN w (Bl w) A n c x.kids){vA:Option Addr}{vn vc:Nat}(hv:RdG varD w (Bl w) vA vn vc vs) (hfew:n≤100000) :
  Calls Tryz.prog 108 #[.agg #[.int .i64 x.kind,.string x.name,.int .i64 x.low,.int .i64 x.high,.slice A n c],.slice vA vn vc] w (DSetP w (dSet vs x)):=by
 have hsm:=ha.small
 have hal:=ha.len
 have hks:=zm_ x
 have HE:Hid (dSet vs x=if (dSets vs x.kids).1≠0 then ((dSets vs x.kids).1,[]) else dSetOf vs 6 x.low x.high x.name (dSets vs x.kids).2):=by
  show _=_
  rw[dset_inner (by rw[hk];rfl),hk]
 have HP:=ha_ (qa_ w (.cells #[.int .i64 6,.string x.name,.int .i64 x.low,.int .i64 x.high,.slice A n c] 77))
 have HROW:=ha_ (heap_alloc_new w (.cells #[.int .i64 6,.string x.name,.int .i64 x.low,.int .i64 x.high,.slice A n c] 77))
 have hz:(w.alloc (.cells #[.int .i64 6,.string x.name,.int .i64 x.low,.int .i64 x.high,.slice A n c] 77)).heap.size=w.heap.size+1:=by simp
 have HV:=ha_ (hv.on HP.out)
 have HA:=ha_ (ha.bl HP.out)
 clear ha hv
 rw[hk]
 generalize hl:x.kids=l at *
 go_enter Tryz.func108,Tryz.ntmps108
 go_wp2_with fail
 generalize hW1:w.alloc (.cells #[.int .i64 6,.string x.name,.int .i64 x.low,.int .i64 x.high,.slice A n c] 77)=W1 at *
 clear hW1
 go_loopw [8,6] (fun iv kv wx=>∃ (j:Nat) (oA:Option Addr) (oc:Nat),j≤n∧iv=.int .i64 j∧kv=.slice oA j oc∧Hid (UpTo vs l j)∧Hid (OwnG setD 44 wx W1.heap.size (.slice oA j oc) ((l.take j).map fun y=>(dSet vs y).2))∧Hid (Below W1.heap.size W1 wx)) (fun iv _ _=>n - (intOf iv).toNat)
 case atStart=>exact ⟨0,none,0,by omega,rfl,rfl,fun i y hi=>absurd hi (by omega),OwnG.nil _ _ _ _,Below.refl _ _⟩
 case round =>
  obtain ⟨j,oA,oc,hj,rfl,rfl,HU,HO,HB⟩:=hrel
  rcases (⟨wr,rfl⟩:∃ WL:World,WL=wr) with ⟨WL,rfl⟩
  obtain ⟨r0,r1,r2,r3,r4⟩:=zt_ ((HB.out.block w.heap.size (by omega)).trans HROW.out)
  have HV2:=ha_ (HV.out.on HB.out)
  by_cases hlt:j<n
  ·obtain ⟨b1,o1,y,A1,n1,c1,hA1,hb1,hy,hr1,s0,s1,s2,s3,s4⟩:=(HA.out.bl HB.out).got hlt
   subst hA1
   have HY:=ha_ hy
   have hysz:y.size≤k:=by have:=nd_size_mem hy;omega
   have hj0:(0:Int)≤(j:Int):=by omega
   have hj1:(j:Int)<(n:Int):=by omega
   have HC:=ha_ (ih y hysz WL A1 n1 c1 hr1 vA vn vc HV2.out)
   clear hy hr1 hb1 hysz
   go_wp2_with fail
   refine HC.out.mono ?_
   rintro en w2 ⟨A2,n2,c2,rfl,hr2,hb2⟩
   have HR2:=ha_ hr2
   have HB2:=ha_ hb2
   clear s0 s1 s2 s3 s4 r0 r1 r2 r3 r4 hr2 hb2 HC
   by_cases he:(dSet vs y).1=0
   ·have g0:((dSet vs y).1 != 0)=false:=by rw[he];rfl
    have HU2:Hid (UpTo vs l (j+1)):=fun i z hi hz=>by
     by_cases hij:i<j
     ·exact HU.out i z hij hz
     ·obtain rfl:i=j:=by omega
      have e:=HY.out.symm.trans hz
      injection e with e
      exact e ▸ he
    have HO2:=ha_ (HO.out.on HB2.out)
    have HBA:Hid (Below w2.heap.size w2 (w2.alloc (.cells #[.slice A2 n2 c2] 44))):=qa_ _ _
    have HO3:=ha_ (HO2.out.on HBA.out)
    have HRW3:=ha_ (heap_alloc_new w2 (.cells #[.slice A2 n2 c2] 44))
    have HOB:Hid (∀ i,(Value.slice oA j oc).ownBlock=some i→W1.heap.size≤i∧i<WL.heap.size):=HO.out.block
    have HSZ:Hid (WL.heap.size≤w2.heap.size∧W1.heap.size≤WL.heap.size):=⟨HB2.out.size,HB.out.size⟩
    clear he HU
    go_wp2_with (at_builtin;refine app_g (D:=setD) rfl _ _ 22 rfl Tryz.underlying22 info_S9 rfl (by decide) (by decide) rfl HO3.out w2.heap.size (dSet vs y).2 #[.slice A2 n2 c2] 44 rfl HRW3.out ⟨A2,n2,c2,rfl,HR2.out.keep (fun b hb=>⟨Nat.lt_of_lt_of_le hb.2 HBA.out.size,fun e=>absurd (HOB.out b e).2 (Nat.not_lt.2 hb.1)⟩) (fun p hp=>HBA.out.cell hp.2)⟩ (by rw[List.length_map,List.length_take];omega) (Nat.le_trans HSZ.out.2 (Nat.le_trans HSZ.out.1 HBA.out.size)) ?_;intro v5 w5 ho5 hg5)
    have HO5:Hid (OwnG setD 44 w5 W1.heap.size v5 ((l.take (j+1)).map fun y=>(dSet vs y).2)):=by
     show OwnG _ _ _ _ _ _
     rw[List.take_add_one,HY.out,List.map_append]
     exact ho5
    have HB5:Hid (Below W1.heap.size W1 w5):=qe_ ((HB.out.trans ((HB2.out.trans (HBA.out.mono HB2.out.size)).mono HB.out.size))) hg5 (fun i hi=>(HOB.out i hi).1)
    obtain ⟨oA5,oc5,rfl,_⟩:=HO5.out.rd
    have hlen5:((l.take (j+1)).map fun y=>(dSet vs y).2).length=j+1:=by rw[List.length_map,List.length_take];omega
    rw[hlen5] at HO5 ⊢
    clear hlen5 ho5 hg5 HO HO2 HO3 HB HB2 HBA HRW3 HOB HSZ HR2 HY
    go_wp2_with fail
    go_roundw
    case rel=>exact ⟨j+1,_,_,by omega,by go_num,rfl,HU2.out,HO5.out,HB5.out⟩
    case measure=>simp[intOf];omega
   ·have g0:((dSet vs y).1 != 0)=true:=by rw[bne_iff_ne];exact he
    have HF:Hid (dSet vs x=((dSet vs y).1,[])):=by
     show _=_
     rw[HE.out,dsets_fail HY.out HU.out he,if_pos he]
    have HB3:Hid (Below w.heap.size w w2):=HP.out.trans ((HB.out.trans (HB2.out.mono HB.out.size)).mono HP.out.size)
    clear he HU HO HB HB2 HR2 HY HE
    go_wp2_with fail
    go_ret2
    exact DSetP.err HF.out HB3.out
  ·obtain rfl:j=n:=by omega
   have HD:Hid (dSets vs l=(0,l.map fun y=>(dSet vs y).2)):=dsets_all fun i y hy=>HU.out i y (by have:=(List.getElem?_eq_some_iff.1 hy).1;omega) hy
   have HE2:Hid (dSet vs x=dSetOf vs 6 x.low x.high x.name (l.map fun y=>(dSet vs y).2)):=by
    show _=_
    rw[HE.out,HD.out,if_neg (by simp)]
   have HO2:Hid (OwnG setD 44 WL W1.heap.size (.slice oA j oc) (l.map fun y=>(dSet vs y).2)):=by
    have h:=HO.out
    rw[List.take_of_length_le (by omega)] at h
    exact h
   have hlm:(l.map fun y=>(dSet vs y).2).length=j:=by rw[List.length_map];exact hal
   generalize hls:(l.map fun y=>(dSet vs y).2)=ls at *
   have HRD:Hid (RdG setD WL (Bl WL) oA j oc ls):=by
    obtain ⟨A', c', e,h⟩:=HO2.out.rd
    injection e with e1 e2 e3
    subst e1 e3
    rw[hlm] at h
    exact h
   have hroom:=HRD.out.small
   have HBW:Hid (Below w.heap.size w WL):=HP.out.trans (HB.out.mono HP.out.size)
   clear HU HO HO2 HD HE HV2 HA HV ih r0 r1 r2 r3 r4
   obtain ⟨r0,r1,r2,r3,r4⟩:=zt_ ((HB.out.block w.heap.size (by omega)).trans HROW.out)
   by_cases h2:j=2
   ·subst h2
    obtain ⟨b1,o1,za,cs,hA1,hb1,hza,hat,hc⟩:=HRD.out.got (i:=0) (by omega)
    subst hA1
    obtain ⟨A3,n3,c3,rfl,hrga⟩:=hat
    obtain ⟨b2,o2,zb,cs,hA2,hb2,hzb,hat2,hc2⟩:=HRD.out.got (i:=1) (by omega)
    injection hA2 with hA2
    injection hA2 with e1 e2 _
    subst e1 e2
    obtain ⟨A4,n4,c4,rfl,hrgb⟩:=hat2
    have s0:WL.cell? ⟨b1,o1,none⟩=some (.slice A3 n3 c3):=by
     have:=hc 0 _ rfl
     rwa [show o1+0*setD.k+0=o1 by show o1+0*1+0=o1;omega] at this
    have s1:WL.cell? ⟨b1,o1+1,none⟩=some (.slice A4 n4 c4):=by
     have:=hc2 0 _ rfl
     rwa [show o1+1*setD.k+0=o1+1 by show o1+1*1+0=o1+1;omega] at this
    have els:ls=[za,zb]:=by
     match ls,hlm,hza,hzb with
     | [p,q],_,hp,hq =>
      simp at hp hq
      subst hp hq
      rfl
    have HE:Hid (dSet vs x=fewD (toldL (fun x y=>x && y) za zb)):=by
     show _=_
     rw[HE2.out,els]
     rfl
    have hb1' : b1<WL.heap.size:=hb1
    have HBD:Hid (Below WL.heap.size WL WL.drew):=qb_ (Below.refl _ _) 1
    have HS:Hid (∀ w', Below WL.heap.size WL w' → w'.cell? ⟨b1,o1,none⟩=some (.slice A3 n3 c3)∧w'.cell? ⟨b1,o1+1,none⟩=some (.slice A4 n4 c4)):=fun w' h=>⟨qf_ h hb1' s0,qf_ h hb1' s1⟩
    have HK0:=ha_ (HS.out _ HBD.out)
    have HC:=ha_ (rand_own ((hrga.on HBD.out).rd) ((hrgb.on HBD.out).rd))
    clear hza hzb hc hc2 hrga hrgb els HE2 HRD hls hlm hb1 hb2
    go_wp2_with fail
    go_region_held_law (fun w' => w'.cell? ⟨b1,o1,none⟩=some (.slice A3 n3 c3)∧w'.cell? ⟨b1,o1+1,none⟩=some (.slice A4 n4 c4)) (first|exact HK0.out|exact HK1.out) ((go_at_call 126;refine HC.out.mono ?_;rintro en w5 ⟨A1,n1,c1,L,rfl,hL,hr,hb5⟩;have HR0:=ha_ hr;have HL0:=ha_ hL;have HB5:=ha_ (HBD.out.trans (hb5.mono HBD.out.size));have HK1:=ha_ (HS.out w5 HB5.out);clear hb5 hr hL))
    have HR:=ha_ (rg_own (w:=w) HR0.out HBW.out.size)
    have HBZ:Hid (Below w.heap.size w w5):=HBW.out.trans (HB5.out.mono HBW.out.size)
    have HEF:Hid (dSet vs x=fewD L):=by show _=_;rw[HE.out];exact congrArg fewD (told_eq HL0.out).symm
    have hn1:=HR0.out.len
    have hr1:n1≤9223372036854775807:=HR0.out.rd.rg.small
    clear HE HC HR0 HL0 HK0 HK1 HS HBD
    by_cases h400:400<n1
    ·have g4:(400:Int)<(n1:Int):=by omega
     have HF:=ha_ (DSetP.many HEF.out HR.out h400 HBZ.out)
     clear h400 HR HEF
     go_wp2_with fail
     go_ret2
     exact HF.out
    ·have g4:¬ (400:Int)<(n1:Int):=by omega
     have HF:=ha_ (DSetP.few HEF.out HR.out h400 HBZ.out)
     clear h400 HR HEF
     go_wp2_with fail
     go_ret2
     exact HF.out
   ·have g2:((j:Int) == 2)=false:=by rw[beq_eq_false_iff_ne];omega
    have HF:Hid (dSet vs x=(12,[])):=by
     show _=_
     rw[HE2.out]
     show (match ls with | [a,b]=>fewD (toldL (fun x y=>x && y) a b)|_=>(12,[]))=_
     split
     ·exact absurd hlm (by simp;omega)
     ·rfl
    clear HE2 HRD hls hlm
    go_wp2_with fail
    go_ret2
    exact DSetP.err HF.out HBW.out
set_option maxHeartbeats 8000000 in
theorem dset_7 {vs:List Vr}{k:Nat}(ih:DSetK vs k){x:Nd}(hsz:x.size≤k+1) (hk:x.kind=7){w:World}{A:Option Addr}{n c:Nat}(ha:RdN w (Bl w) A n c x.kids){vA:Option Addr}{vn vc:Nat}(hv:RdG varD w (Bl w) vA vn vc vs) (hfew:n≤100000) :
  Calls Tryz.prog 108 #[.agg #[.int .i64 x.kind,.string x.name,.int .i64 x.low,.int .i64 x.high,.slice A n c],.slice vA vn vc] w (DSetP w (dSet vs x)):=by
 have hsm:=ha.small
 have hal:=ha.len
 have hks:=zm_ x
 have HE:Hid (dSet vs x=if (dSets vs x.kids).1≠0 then ((dSets vs x.kids).1,[]) else dSetOf vs 7 x.low x.high x.name (dSets vs x.kids).2):=by
  show _=_
  rw[dset_inner (by rw[hk];rfl),hk]
 have HP:=ha_ (qa_ w (.cells #[.int .i64 7,.string x.name,.int .i64 x.low,.int .i64 x.high,.slice A n c] 77))
 have HROW:=ha_ (heap_alloc_new w (.cells #[.int .i64 7,.string x.name,.int .i64 x.low,.int .i64 x.high,.slice A n c] 77))
 have hz:(w.alloc (.cells #[.int .i64 7,.string x.name,.int .i64 x.low,.int .i64 x.high,.slice A n c] 77)).heap.size=w.heap.size+1:=by simp
 have HV:=ha_ (hv.on HP.out)
 have HA:=ha_ (ha.bl HP.out)
 clear ha hv
 rw[hk]
 generalize hl:x.kids=l at *
 go_enter Tryz.func108,Tryz.ntmps108
 go_wp2_with fail
 generalize hW1:w.alloc (.cells #[.int .i64 7,.string x.name,.int .i64 x.low,.int .i64 x.high,.slice A n c] 77)=W1 at *
 clear hW1
 go_loopw [8,6] (fun iv kv wx=>∃ (j:Nat) (oA:Option Addr) (oc:Nat),j≤n∧iv=.int .i64 j∧kv=.slice oA j oc∧Hid (UpTo vs l j)∧Hid (OwnG setD 44 wx W1.heap.size (.slice oA j oc) ((l.take j).map fun y=>(dSet vs y).2))∧Hid (Below W1.heap.size W1 wx)) (fun iv _ _=>n - (intOf iv).toNat)
 case atStart=>exact ⟨0,none,0,by omega,rfl,rfl,fun i y hi=>absurd hi (by omega),OwnG.nil _ _ _ _,Below.refl _ _⟩
 case round =>
  obtain ⟨j,oA,oc,hj,rfl,rfl,HU,HO,HB⟩:=hrel
  rcases (⟨wr,rfl⟩:∃ WL:World,WL=wr) with ⟨WL,rfl⟩
  obtain ⟨r0,r1,r2,r3,r4⟩:=zt_ ((HB.out.block w.heap.size (by omega)).trans HROW.out)
  have HV2:=ha_ (HV.out.on HB.out)
  by_cases hlt:j<n
  ·obtain ⟨b1,o1,y,A1,n1,c1,hA1,hb1,hy,hr1,s0,s1,s2,s3,s4⟩:=(HA.out.bl HB.out).got hlt
   subst hA1
   have HY:=ha_ hy
   have hysz:y.size≤k:=by have:=nd_size_mem hy;omega
   have hj0:(0:Int)≤(j:Int):=by omega
   have hj1:(j:Int)<(n:Int):=by omega
   have HC:=ha_ (ih y hysz WL A1 n1 c1 hr1 vA vn vc HV2.out)
   clear hy hr1 hb1 hysz
   go_wp2_with fail
   refine HC.out.mono ?_
   rintro en w2 ⟨A2,n2,c2,rfl,hr2,hb2⟩
   have HR2:=ha_ hr2
   have HB2:=ha_ hb2
   clear s0 s1 s2 s3 s4 r0 r1 r2 r3 r4 hr2 hb2 HC
   by_cases he:(dSet vs y).1=0
   ·have g0:((dSet vs y).1 != 0)=false:=by rw[he];rfl
    have HU2:Hid (UpTo vs l (j+1)):=fun i z hi hz=>by
     by_cases hij:i<j
     ·exact HU.out i z hij hz
     ·obtain rfl:i=j:=by omega
      have e:=HY.out.symm.trans hz
      injection e with e
      exact e ▸ he
    have HO2:=ha_ (HO.out.on HB2.out)
    have HBA:Hid (Below w2.heap.size w2 (w2.alloc (.cells #[.slice A2 n2 c2] 44))):=qa_ _ _
    have HO3:=ha_ (HO2.out.on HBA.out)
    have HRW3:=ha_ (heap_alloc_new w2 (.cells #[.slice A2 n2 c2] 44))
    have HOB:Hid (∀ i,(Value.slice oA j oc).ownBlock=some i→W1.heap.size≤i∧i<WL.heap.size):=HO.out.block
    have HSZ:Hid (WL.heap.size≤w2.heap.size∧W1.heap.size≤WL.heap.size):=⟨HB2.out.size,HB.out.size⟩
    clear he HU
    go_wp2_with (at_builtin;refine app_g (D:=setD) rfl _ _ 22 rfl Tryz.underlying22 info_S9 rfl (by decide) (by decide) rfl HO3.out w2.heap.size (dSet vs y).2 #[.slice A2 n2 c2] 44 rfl HRW3.out ⟨A2,n2,c2,rfl,HR2.out.keep (fun b hb=>⟨Nat.lt_of_lt_of_le hb.2 HBA.out.size,fun e=>absurd (HOB.out b e).2 (Nat.not_lt.2 hb.1)⟩) (fun p hp=>HBA.out.cell hp.2)⟩ (by rw[List.length_map,List.length_take];omega) (Nat.le_trans HSZ.out.2 (Nat.le_trans HSZ.out.1 HBA.out.size)) ?_;intro v5 w5 ho5 hg5)
    have HO5:Hid (OwnG setD 44 w5 W1.heap.size v5 ((l.take (j+1)).map fun y=>(dSet vs y).2)):=by
     show OwnG _ _ _ _ _ _
     rw[List.take_add_one,HY.out,List.map_append]
     exact ho5
    have HB5:Hid (Below W1.heap.size W1 w5):=qe_ ((HB.out.trans ((HB2.out.trans (HBA.out.mono HB2.out.size)).mono HB.out.size))) hg5 (fun i hi=>(HOB.out i hi).1)
    obtain ⟨oA5,oc5,rfl,_⟩:=HO5.out.rd
    have hlen5:((l.take (j+1)).map fun y=>(dSet vs y).2).length=j+1:=by rw[List.length_map,List.length_take];omega
    rw[hlen5] at HO5 ⊢
    clear hlen5 ho5 hg5 HO HO2 HO3 HB HB2 HBA HRW3 HOB HSZ HR2 HY
    go_wp2_with fail
    go_roundw
    case rel=>exact ⟨j+1,_,_,by omega,by go_num,rfl,HU2.out,HO5.out,HB5.out⟩
    case measure=>simp[intOf];omega
   ·have g0:((dSet vs y).1 != 0)=true:=by rw[bne_iff_ne];exact he
    have HF:Hid (dSet vs x=((dSet vs y).1,[])):=by
     show _=_
     rw[HE.out,dsets_fail HY.out HU.out he,if_pos he]
    have HB3:Hid (Below w.heap.size w w2):=HP.out.trans ((HB.out.trans (HB2.out.mono HB.out.size)).mono HP.out.size)
    clear he HU HO HB HB2 HR2 HY HE
    go_wp2_with fail
    go_ret2
    exact DSetP.err HF.out HB3.out
  ·obtain rfl:j=n:=by omega
   have HD:Hid (dSets vs l=(0,l.map fun y=>(dSet vs y).2)):=dsets_all fun i y hy=>HU.out i y (by have:=(List.getElem?_eq_some_iff.1 hy).1;omega) hy
   have HE2:Hid (dSet vs x=dSetOf vs 7 x.low x.high x.name (l.map fun y=>(dSet vs y).2)):=by
    show _=_
    rw[HE.out,HD.out,if_neg (by simp)]
   have HO2:Hid (OwnG setD 44 WL W1.heap.size (.slice oA j oc) (l.map fun y=>(dSet vs y).2)):=by
    have h:=HO.out
    rw[List.take_of_length_le (by omega)] at h
    exact h
   have hlm:(l.map fun y=>(dSet vs y).2).length=j:=by rw[List.length_map];exact hal
   generalize hls:(l.map fun y=>(dSet vs y).2)=ls at *
   have HRD:Hid (RdG setD WL (Bl WL) oA j oc ls):=by
    obtain ⟨A', c', e,h⟩:=HO2.out.rd
    injection e with e1 e2 e3
    subst e1 e3
    rw[hlm] at h
    exact h
   have hroom:=HRD.out.small
   have HBW:Hid (Below w.heap.size w WL):=HP.out.trans (HB.out.mono HP.out.size)
   clear HU HO HO2 HD HE HV2 HA HV ih r0 r1 r2 r3 r4
   obtain ⟨r0,r1,r2,r3,r4⟩:=zt_ ((HB.out.block w.heap.size (by omega)).trans HROW.out)
   by_cases h2:j=2
   ·subst h2
    obtain ⟨b1,o1,za,cs,hA1,hb1,hza,hat,hc⟩:=HRD.out.got (i:=0) (by omega)
    subst hA1
    obtain ⟨A3,n3,c3,rfl,hrga⟩:=hat
    obtain ⟨b2,o2,zb,cs,hA2,hb2,hzb,hat2,hc2⟩:=HRD.out.got (i:=1) (by omega)
    injection hA2 with hA2
    injection hA2 with e1 e2 _
    subst e1 e2
    obtain ⟨A4,n4,c4,rfl,hrgb⟩:=hat2
    have s0:WL.cell? ⟨b1,o1,none⟩=some (.slice A3 n3 c3):=by
     have:=hc 0 _ rfl
     rwa [show o1+0*setD.k+0=o1 by show o1+0*1+0=o1;omega] at this
    have s1:WL.cell? ⟨b1,o1+1,none⟩=some (.slice A4 n4 c4):=by
     have:=hc2 0 _ rfl
     rwa [show o1+1*setD.k+0=o1+1 by show o1+1*1+0=o1+1;omega] at this
    have els:ls=[za,zb]:=by
     match ls,hlm,hza,hzb with
     | [p,q],_,hp,hq =>
      simp at hp hq
      subst hp hq
      rfl
    have HE:Hid (dSet vs x=fewD (toldL (fun x y=>x && !y) za zb)):=by
     show _=_
     rw[HE2.out,els]
     rfl
    have hb1' : b1<WL.heap.size:=hb1
    have HBD:Hid (Below WL.heap.size WL WL.drew):=qb_ (Below.refl _ _) 1
    have HS:Hid (∀ w', Below WL.heap.size WL w' → w'.cell? ⟨b1,o1,none⟩=some (.slice A3 n3 c3)∧w'.cell? ⟨b1,o1+1,none⟩=some (.slice A4 n4 c4)):=fun w' h=>⟨qf_ h hb1' s0,qf_ h hb1' s1⟩
    have HK0:=ha_ (HS.out _ HBD.out)
    have HC:=ha_ (rless_own ((hrga.on HBD.out).rd) ((hrgb.on HBD.out).rd))
    clear hza hzb hc hc2 hrga hrgb els HE2 HRD hls hlm hb1 hb2
    go_wp2_with fail
    go_region_held_law (fun w' => w'.cell? ⟨b1,o1,none⟩=some (.slice A3 n3 c3)∧w'.cell? ⟨b1,o1+1,none⟩=some (.slice A4 n4 c4)) (first|exact HK0.out|exact HK1.out) ((go_at_call 127;refine HC.out.mono ?_;rintro en w5 ⟨A1,n1,c1,L,rfl,hL,hr,hb5⟩;have HR0:=ha_ hr;have HL0:=ha_ hL;have HB5:=ha_ (HBD.out.trans (hb5.mono HBD.out.size));have HK1:=ha_ (HS.out w5 HB5.out);clear hb5 hr hL))
    have HR:=ha_ (rg_own (w:=w) HR0.out HBW.out.size)
    have HBZ:Hid (Below w.heap.size w w5):=HBW.out.trans (HB5.out.mono HBW.out.size)
    have HEF:Hid (dSet vs x=fewD L):=by show _=_;rw[HE.out];exact congrArg fewD (told_eq HL0.out).symm
    have hn1:=HR0.out.len
    have hr1:n1≤9223372036854775807:=HR0.out.rd.rg.small
    clear HE HC HR0 HL0 HK0 HK1 HS HBD
    by_cases h400:400<n1
    ·have g4:(400:Int)<(n1:Int):=by omega
     have HF:=ha_ (DSetP.many HEF.out HR.out h400 HBZ.out)
     clear h400 HR HEF
     go_wp2_with fail
     go_ret2
     exact HF.out
    ·have g4:¬ (400:Int)<(n1:Int):=by omega
     have HF:=ha_ (DSetP.few HEF.out HR.out h400 HBZ.out)
     clear h400 HR HEF
     go_wp2_with fail
     go_ret2
     exact HF.out
   ·have g2:((j:Int) == 2)=false:=by rw[beq_eq_false_iff_ne];omega
    have HF:Hid (dSet vs x=(12,[])):=by
     show _=_
     rw[HE2.out]
     show (match ls with | [a,b]=>fewD (toldL (fun x y=>x && !y) a b)|_=>(12,[]))=_
     split
     ·exact absurd hlm (by simp;omega)
     ·rfl
    clear HE2 HRD hls hlm
    go_wp2_with fail
    go_ret2
    exact DSetP.err HF.out HBW.out
theorem dset_all {vs:List Vr}(hfew:True):∀ k:Nat,k≤100000→DSetK vs k:=by
 intro k
 induction k with
 | zero=>intro _ x h;have:=Nd.size_pos x;omega
 | succ k ih =>
  intro hk x hx w A n c ha vA vn vc hv
  have hn:n≤100000:=by
   have h1:=ha.len
   have h2:=zm_ x
   have h3:x.kids.length≤Y.sizeL x.kids:=by
    generalize x.kids=l
    induction l with
    | nil=>simp
    | cons y t ih=>have:=Nd.size_pos y;rw[Y.sizeL,List.length_cons];omega
   omega
  by_cases h4:x.kind=4
  ·exact dset_4 (ih (by omega)) hx h4 ha hv hn
  by_cases h6:x.kind=6
  ·exact dset_6 (ih (by omega)) hx h6 ha hv hn
  by_cases h7:x.kind=7
  ·exact dset_7 (ih (by omega)) hx h7 ha hv hn
  by_cases h5:x.kind=5
  ·exact dset_5 h5 ha hv
  by_cases h3:x.kind=3
  ·exact dset_3 h3 ha hv
  by_cases h2:x.kind=2
  ·exact dset_2 h2 ha hv
  exact dset_0 ⟨h2,h3,h4,h5,h6,h7⟩ ha hv
theorem dvset_any {vs:List Vr}{x:Nd}(hx:x.size≤100000){w:World}{A:Option Addr}{n c:Nat}(ha:RdN w (Bl w) A n c x.kids){vA:Option Addr}{vn vc:Nat}(hv:RdG varD w (Bl w) vA vn vc vs) :
  Calls Tryz.prog 108 #[.agg #[.int .i64 x.kind,.string x.name,.int .i64 x.low,.int .i64 x.high,.slice A n c],.slice vA vn vc] w (DSetP w (dSet vs x)) :=
 dset_all trivial x.size hx x (Nat.le_refl _) w A n c ha vA vn vc hv

theorem zc_ {P:Program}{fn:Func}{a u:Tmp}{t:TypeId}(hf:fn.results=#[.cell a t,.tmp u]){w:World}(hagg:(isAgg t).run P w=.ok true w) (hsz:(sizeOf t).run P w=.ok 4 w) (tmps:Array Value){N:Nat}(ha:tmps.getD a undef=.pointer (some ⟨N,0,none⟩)){c0 c1 c2 c3:Value}{te:TypeId}(hrow:w.heap[N]?=some (.cells #[c0,c1,c2,c3] te (0,0))) :
  (results fn tmps).run P w=.ok (.tuple #[.agg #[c0,c1,c2,c3],tmps.getD u undef]) w:=by
 obtain ⟨h0,h1,h2,h3⟩:=qy_ hrow
 have ha' : (tmps[a]?).getD undef=.pointer (some ⟨N,0,none⟩):=by simpa using ha
 have g:∀ i v,w.cell? ⟨N,i,none⟩=some v→(load (Addr.add ⟨N,0,none⟩ i)).run P w=.ok v w:=fun i v h=>by
  rw[qo_,Nat.zero_add]
  unfold load
  simp only[Sem.run,h]
 have g2:(loadCells ⟨N,0,none⟩ 4).run P w=.ok #[c0,c1,c2,c3] w:=by
  simp[loadCells,loadCellsFrom,Sem.run_bind,g 0 _ h0,g 1 _ h1,g 2 _ h2,g 3 _ h3,Result.andThen]
 have g3:(loadVar t ⟨N,0,none⟩).run P w=.ok (.agg #[c0,c1,c2,c3]) w:=by
  simp[loadVar,Sem.run_bind,hagg,hsz,g2,Result.andThen]
 unfold results
 rw[hf]
 simp[ha', asAddr,g3]
def Ov (V:Nat) (w w' : World) (b:Nat):Prop:=b<V∨(w.heap.size≤b∧b<w'.heap.size)
def DWhP (V:Nat) (w:World) (r:Int × Pt) (e:Ending) (w' : World):Prop:=∃ (sA:Option Addr) (sn sc:Nat) (gA:Option Addr) (gn gc:Nat) (A:Option Addr) (n c:Nat),e=.returned (.tuple #[.agg #[.int .i64 r.2.kind,.slice sA sn sc,.slice gA gn gc,.slice A n c],.int .i64 r.1])∧PtIn w' (Ov V w w') sA sn sc gA gn gc A n c r.2∧Below w.heap.size w w'
theorem DWhP.zero {V:Nat}{w w' : World}{r:Int × Pt}{x k:Int}(hr:r=(x,.mk k [] [] [])) (hb:Below w.heap.size w w'):DWhP V w r (.returned (.tuple #[.agg #[.int .i64 k,.slice none 0 0,.slice none 0 0,.slice none 0 0],.int .i64 x])) w' := by
 subst hr
 exact ⟨none,0,0,none,0,0,none,0,0,rfl,⟨RgAt.nil _ _,InAt.nil _ _,RdP.nil _ _⟩,hb⟩
def set4 (w:World) (N:Nat) (a0 a1 a2 a3:Value):World:=(((w.setCell ⟨N,0,none⟩ a0).setCell ⟨N,1,none⟩ a1).setCell ⟨N,2,none⟩ a2).setCell ⟨N,3,none⟩ a3
theorem qx_ {w:World}{N:Nat}{x0 x1 x2 x3:Value}{t:TypeId}(h:w.heap[N]?=some (.cells #[x0,x1,x2,x3] t (0,0))) (a0 a1 a2 a3:Value):(set4 w N a0 a1 a2 a3).heap[N]?=some (.cells #[a0,a1,a2,a3] t (0,0)) :=
 heap_setCell_same _ _ _ _ _ _ (heap_setCell_same _ _ _ _ _ _ (heap_setCell_same _ _ _ _ _ _ (heap_setCell_same _ _ _ _ _ _ h)))
theorem qg_ (w:World) (N:Nat) (a0 a1 a2 a3:Value):(set4 w N a0 a1 a2 a3).heap.size=w.heap.size:=by simp[set4]
theorem qu_ (w:World) (N:Nat) (a0 a1 a2 a3:Value){i:Nat}(hi:i≠N):(set4 w N a0 a1 a2 a3).heap[i]?=w.heap[i]? := by
 unfold set4
 rw[Below.heap_setCell _ _ _ _ hi,Below.heap_setCell _ _ _ _ hi,Below.heap_setCell _ _ _ _ hi,Below.heap_setCell _ _ _ _ hi]
theorem qm_ {B:Nat}{a w:World}(h:Below B a w){N:Nat}(hN:B≤N) (a0 a1 a2 a3:Value):Below B a (set4 w N a0 a1 a2 a3) :=
 (((h.setCell hN _).setCell hN _).setCell hN _).setCell hN _
theorem qn_ (w:World){N:Nat}(a0 a1 a2 a3:Value){p:Addr}(hp:p.block≠N):(set4 w N a0 a1 a2 a3).cell? p=w.cell? p:=World.cell?_of_block (qu_ w N a0 a1 a2 a3 hp)
theorem qv_ {w:World}{N:Nat}{cs:Array Value}{t:TypeId}(h:w.heap[N]?=some (.cells cs t (0,0))) (i:Nat):w.frozen? ⟨N,i,none⟩=false:=frozen_of_row _ _ _ _ _ h
theorem RdG.vlt {α:Type}{D:Rdr α}{w w' : World}{V:Nat}{A:Option Addr}{n c:Nat}{l:List α}(h:RdG D w (fun b=>b<V) A n c l) (hV:V≤w.heap.size) (hb:Below w.heap.size w w'):RdG D w' (fun b=>b<V) A n c l :=
 h.keep (fun _ hi=>hi) (fun p hp=>hb.cell (Nat.lt_of_lt_of_le hp hV))
theorem RdG.vbl {α:Type}{D:Rdr α}{w:World}{V:Nat}{A:Option Addr}{n c:Nat}{l:List α}(h:RdG D w (fun b=>b<V) A n c l) (hV:V≤w.heap.size):RdG D w (Bl w) A n c l :=
 h.keep (fun _ hi=>Nat.lt_of_lt_of_le hi hV) (fun _ _=>rfl)
set_option maxHeartbeats 4000000 in
theorem dwhole_1 {vs:List Vr}{V:Nat}{x:Nd}(hk:x.kind=1){w:World}{A:Option Addr}{n c:Nat}{vA:Option Addr}{vn vc:Nat} :
  Calls Tryz.prog 92 #[.agg #[.int .i64 x.kind,.string x.name,.int .i64 x.low,.int .i64 x.high,.slice A n c],.slice vA vn vc] w (DWhP V w (dWhole vs x)):=by
 have HE:Hid (dWhole vs x=(0,.mk 1 [] [] [])):=by
  show _=_
  cases x with
  | mk k s lo hi l=>rw[dWhole,if_pos (show k=1 from hk)]
 rw[hk]
 have HP:=ha_ ((qa_ w (.cells #[.int .i64 1,.string x.name,.int .i64 x.low,.int .i64 x.high,.slice A n c] 77)).trans ((qa_ _ (.cells #[.int .i64 1,.slice none 0 0,.slice none 0 0,.slice none 0 0] 47)).mono (by simp)))
 have HR:=ha_ (heap_alloc_new (w.alloc (.cells #[.int .i64 1,.string x.name,.int .i64 x.low,.int .i64 x.high,.slice A n c] 77)) (.cells #[.int .i64 1,.slice none 0 0,.slice none 0 0,.slice none 0 0] 47))
 rw[show (w.alloc (.cells #[.int .i64 1,.string x.name,.int .i64 x.low,.int .i64 x.high,.slice A n c] 77)).heap.size=w.heap.size+1 by simp] at HR
 go_enter Tryz.func92,Tryz.ntmps92
 go_wp2_with fail
 exact bodyPost_ret (zc_ (a:=4) (u:=5) rfl (Tryz.isAgg47 _) (Tryz.sizeOf47 _) _ rfl (HR.out)) rfl (DWhP.zero HE.out HP.out)
set_option maxHeartbeats 8000000 in
theorem dwhole_0 {vs:List Vr}{V:Nat}{x:Nd}(hk:x.kind≠1∧x.kind≠2∧x.kind≠3∧x.kind≠4∧¬ (8≤x.kind∧x.kind≤12)){w:World}(hV:V≤w.heap.size){A:Option Addr}{n c:Nat}(ha:RdN w (Bl w) A n c x.kids){vA:Option Addr}{vn vc:Nat}(hv:RdG varD w (fun b=>b<V) vA vn vc vs) :
  Calls Tryz.prog 92 #[.agg #[.int .i64 x.kind,.string x.name,.int .i64 x.low,.int .i64 x.high,.slice A n c],.slice vA vn vc] w (DWhP V w (dWhole vs x)):=by
 have HP:=ha_ ((qa_ w (.cells #[.int .i64 x.kind,.string x.name,.int .i64 x.low,.int .i64 x.high,.slice A n c] 77)).trans ((qa_ _ (.cells #[.int .i64 0,.slice none 0 0,.slice none 0 0,.slice none 0 0] 47)).mono (by simp)))
 have HRX:Hid (((w.alloc (.cells #[.int .i64 x.kind,.string x.name,.int .i64 x.low,.int .i64 x.high,.slice A n c] 77)).alloc (.cells #[.int .i64 0,.slice none 0 0,.slice none 0 0,.slice none 0 0] 47)).heap[w.heap.size]?=some (.cells #[.int .i64 x.kind,.string x.name,.int .i64 x.low,.int .i64 x.high,.slice A n c] 77 (0,0))):=((qa_ (w.alloc (.cells #[.int .i64 x.kind,.string x.name,.int .i64 x.low,.int .i64 x.high,.slice A n c] 77)) (.cells #[.int .i64 0,.slice none 0 0,.slice none 0 0,.slice none 0 0] 47)).block _ (by simp)).trans (heap_alloc_new w _)
 have HRR:Hid (((w.alloc (.cells #[.int .i64 x.kind,.string x.name,.int .i64 x.low,.int .i64 x.high,.slice A n c] 77)).alloc (.cells #[.int .i64 0,.slice none 0 0,.slice none 0 0,.slice none 0 0] 47)).heap[w.heap.size+1]?=some (.cells #[.int .i64 0,.slice none 0 0,.slice none 0 0,.slice none 0 0] 47 (0,0))):=by
  have:=heap_alloc_new (w.alloc (.cells #[.int .i64 x.kind,.string x.name,.int .i64 x.low,.int .i64 x.high,.slice A n c] 77)) (.cells #[.int .i64 0,.slice none 0 0,.slice none 0 0,.slice none 0 0] 47)
  rwa [show (w.alloc (.cells #[.int .i64 x.kind,.string x.name,.int .i64 x.low,.int .i64 x.high,.slice A n c] 77)).heap.size=w.heap.size+1 by simp] at this
 have hz:((w.alloc (.cells #[.int .i64 x.kind,.string x.name,.int .i64 x.low,.int .i64 x.high,.slice A n c] 77)).alloc (.cells #[.int .i64 0,.slice none 0 0,.slice none 0 0,.slice none 0 0] 47)).heap.size=w.heap.size+2:=by simp
 have HA:=ha_ (ha.bl HP.out)
 have HV:=ha_ (hv.vlt hV HP.out)
 clear ha hv
 obtain ⟨k1,k2,k3,k4,kj⟩:=hk
 have HE:Hid (dWhole vs x=(12,.mk 0 [] [] [])):=by
  show _=_
  cases x with
  | mk k s lo hi l =>
   rw[dWhole,if_neg (show ¬ k=1 from k1),if_neg (show ¬ (k=3∨k=4) from fun h=>h.elim k3 k4),if_neg (show ¬ k=2 from k2),if_neg (by unfold joinD;simp;intro h;have:¬ (8≤k∧k≤12):=kj;omega)]
   rfl
 have g1:(x.kind == 1)=false:=by rw[beq_eq_false_iff_ne];exact k1
 have g2:(x.kind == 2)=false:=by rw[beq_eq_false_iff_ne];exact k2
 have g3:(x.kind == 3)=false:=by rw[beq_eq_false_iff_ne];exact k3
 have g4:(x.kind == 4)=false:=by rw[beq_eq_false_iff_ne];exact k4
 have g8:(x.kind == 8)=false:=by rw[beq_eq_false_iff_ne];omega
 have g9:(x.kind == 9)=false:=by rw[beq_eq_false_iff_ne];omega
 have g10:(x.kind == 10)=false:=by rw[beq_eq_false_iff_ne];omega
 have g11:(x.kind == 11)=false:=by rw[beq_eq_false_iff_ne];omega
 have g12:(x.kind == 12)=false:=by rw[beq_eq_false_iff_ne];omega
 clear k1 k2 k3 k4 kj
 obtain ⟨r0,r1,r2,r3,r4⟩:=zt_ HRX.out
 go_enter Tryz.func92,Tryz.ntmps92
 go_wp2_with fail
 exact bodyPost_ret (zc_ (a:=4) (u:=5) rfl (Tryz.isAgg47 _) (Tryz.sizeOf47 _) _ rfl (HRR.out)) rfl (DWhP.zero HE.out HP.out)
set_option maxHeartbeats 8000000 in
theorem dwhole_34 {vs:List Vr}{V:Nat}{x:Nd}(hk:x.kind=3∨x.kind=4) (hsz:x.size≤100000){w:World}(hV:V≤w.heap.size){A:Option Addr}{n c:Nat}(ha:RdN w (Bl w) A n c x.kids){vA:Option Addr}{vn vc:Nat}(hv:RdG varD w (fun b=>b<V) vA vn vc vs) :
  Calls Tryz.prog 92 #[.agg #[.int .i64 x.kind,.string x.name,.int .i64 x.low,.int .i64 x.high,.slice A n c],.slice vA vn vc] w (DWhP V w (dWhole vs x)):=by
 have HP:=ha_ ((qa_ w (.cells #[.int .i64 x.kind,.string x.name,.int .i64 x.low,.int .i64 x.high,.slice A n c] 77)).trans ((qa_ _ (.cells #[.int .i64 0,.slice none 0 0,.slice none 0 0,.slice none 0 0] 47)).mono (by simp)))
 have HRX:Hid (((w.alloc (.cells #[.int .i64 x.kind,.string x.name,.int .i64 x.low,.int .i64 x.high,.slice A n c] 77)).alloc (.cells #[.int .i64 0,.slice none 0 0,.slice none 0 0,.slice none 0 0] 47)).heap[w.heap.size]?=some (.cells #[.int .i64 x.kind,.string x.name,.int .i64 x.low,.int .i64 x.high,.slice A n c] 77 (0,0))):=((qa_ (w.alloc (.cells #[.int .i64 x.kind,.string x.name,.int .i64 x.low,.int .i64 x.high,.slice A n c] 77)) (.cells #[.int .i64 0,.slice none 0 0,.slice none 0 0,.slice none 0 0] 47)).block _ (by simp)).trans (heap_alloc_new w _)
 have HRR:Hid (((w.alloc (.cells #[.int .i64 x.kind,.string x.name,.int .i64 x.low,.int .i64 x.high,.slice A n c] 77)).alloc (.cells #[.int .i64 0,.slice none 0 0,.slice none 0 0,.slice none 0 0] 47)).heap[w.heap.size+1]?=some (.cells #[.int .i64 0,.slice none 0 0,.slice none 0 0,.slice none 0 0] 47 (0,0))):=by
  have:=heap_alloc_new (w.alloc (.cells #[.int .i64 x.kind,.string x.name,.int .i64 x.low,.int .i64 x.high,.slice A n c] 77)) (.cells #[.int .i64 0,.slice none 0 0,.slice none 0 0,.slice none 0 0] 47)
  rwa [show (w.alloc (.cells #[.int .i64 x.kind,.string x.name,.int .i64 x.low,.int .i64 x.high,.slice A n c] 77)).heap.size=w.heap.size+1 by simp] at this
 have hz:((w.alloc (.cells #[.int .i64 x.kind,.string x.name,.int .i64 x.low,.int .i64 x.high,.slice A n c] 77)).alloc (.cells #[.int .i64 0,.slice none 0 0,.slice none 0 0,.slice none 0 0] 47)).heap.size=w.heap.size+2:=by simp
 have HA:=ha_ (ha.bl HP.out)
 have HV:=ha_ (hv.vlt hV HP.out)
 clear ha hv
 have HE:Hid (dWhole vs x=if (dSet vs x).1≠0 then ((dSet vs x).1,zeroP) else (0,.mk 2 (dSet vs x).2 [] [])):=by
  show _=_
  cases x with
  | mk k s lo hi l =>
   have hk:k=3∨k=4:=hk
   rw[dWhole,if_neg (by omega),if_pos hk]
 have g1:(x.kind == 1)=false:=by rw[beq_eq_false_iff_ne];omega
 have HS:=ha_ (dvset_any hsz HA.out (HV.out.vbl (by omega)))
 rcases hk with hk|hk
 all_goals
  first
   | (have g3:(x.kind == 3)=true:=by rw[hk];rfl)
   | (have g3:(x.kind == 3)=false:=by rw[hk];rfl)
  first
   | (have g4:(x.kind == 4)=true:=by rw[hk];rfl)
   | (have g4:(x.kind == 4)=false:=by rw[hk];rfl)
  clear hk
  go_enter Tryz.func92,Tryz.ntmps92
  go_wp2_with fail
  generalize hW2:((w.alloc (.cells #[.int .i64 x.kind,.string x.name,.int .i64 x.low,.int .i64 x.high,.slice A n c] 77)).alloc (.cells #[.int .i64 0,.slice none 0 0,.slice none 0 0,.slice none 0 0] 47))=W2 at *
  clear hW2
  refine HS.out.mono ?_
  rintro en w2 ⟨A2,n2,c2,rfl,hr2,hb2⟩
  have HR2:=ha_ hr2
  have HB2:=ha_ (HP.out.trans (hb2.mono HP.out.size))
  have hsz2:W2.heap.size≤w2.heap.size:=hb2.size
  have HRR2:=ha_ ((hb2.block _ (by omega)).trans HRR.out)
  have fr:=qv_ HRR2.out
  obtain ⟨q0,q1,q2,q3⟩:=qy_ HRR2.out
  clear hr2 hb2 HS HA HV HRX HRR
  by_cases he:(dSet vs x).1=0
  ·have g0:((dSet vs x).1 != 0)=false:=by rw[he];rfl
   have HE2:Hid (dWhole vs x=(0,.mk 2 (dSet vs x).2 [] [])):=by show _=_;rw[HE.out,if_neg (by simpa using he)]
   clear he HE
   go_wp2_with fail
   have HF:Hid (DWhP V w (dWhole vs x) (.returned (.tuple #[.agg #[.int .i64 2,.slice A2 n2 c2,.slice none 0 0,.slice none 0 0],.int .i64 0])) (set4 w2 (w.heap.size+1) (.int .i64 2) (.slice A2 n2 c2) (.slice none 0 0) (.slice none 0 0))):=by
    show DWhP V w (dWhole vs x) _ _
    rw[HE2.out]
    refine ⟨A2,n2,c2,none,0,0,none,0,0,rfl,⟨HR2.out.keep (fun b hb=>.inr ⟨?_,by rw[qg_];exact hb.2⟩) (fun p hp=>qn_ _ _ _ _ _ ?_),InAt.nil _ _,RdP.nil _ _⟩,qm_ HB2.out (by omega) _ _ _ _⟩
    ·have:=hb.1;omega
    ·have:=hp.1;omega
   have HQQ:=ha_ (qx_ HRR2.out (.int .i64 2) (.slice A2 n2 c2) (.slice none 0 0) (.slice none 0 0))
   change bodyPost _ _ _ _ _ (set4 w2 (w.heap.size+1) (.int .i64 2) (.slice A2 n2 c2) (.slice none 0 0) (.slice none 0 0))
   generalize hW9:set4 w2 (w.heap.size+1) (.int .i64 2) (.slice A2 n2 c2) (.slice none 0 0) (.slice none 0 0)=W9 at *
   exact bodyPost_ret (zc_ (a:=4) (u:=5) rfl (Tryz.isAgg47 _) (Tryz.sizeOf47 _) _ rfl (HQQ.out)) rfl (HF.out)
  ·have g0:((dSet vs x).1 != 0)=true:=by rw[bne_iff_ne];exact he
   have HE2:Hid (dWhole vs x=((dSet vs x).1,.mk 0 [] [] [])):=by show _=_;rw[HE.out,if_pos he];rfl
   clear he HE
   go_wp2_with fail
   have HF:Hid (DWhP V w (dWhole vs x) (.returned (.tuple #[.agg #[.int .i64 0,.slice none 0 0,.slice none 0 0,.slice none 0 0],.int .i64 (dSet vs x).1])) (set4 w2 (w.heap.size+1) (.int .i64 0) (.slice none 0 0) (.slice none 0 0) (.slice none 0 0))):=DWhP.zero HE2.out (qm_ HB2.out (by omega) _ _ _ _)
   have HQQ:=ha_ (qx_ HRR2.out (.int .i64 0) (.slice none 0 0) (.slice none 0 0) (.slice none 0 0))
   change bodyPost _ _ _ _ _ (set4 w2 (w.heap.size+1) (.int .i64 0) (.slice none 0 0) (.slice none 0 0) (.slice none 0 0))
   generalize hW9:set4 w2 (w.heap.size+1) (.int .i64 0) (.slice none 0 0) (.slice none 0 0) (.slice none 0 0)=W9 at *
   exact bodyPost_ret (zc_ (a:=4) (u:=5) rfl (Tryz.isAgg47 _) (Tryz.sizeOf47 _) _ rfl (HQQ.out)) rfl (HF.out)
set_option maxHeartbeats 8000000 in
theorem dwhole_2 {vs:List Vr}{V:Nat}{x:Nd}(hk:x.kind=2){w:World}(hV:V≤w.heap.size){A:Option Addr}{n c:Nat}(ha:RdN w (Bl w) A n c x.kids){vA:Option Addr}{vn vc:Nat}(hv:RdG varD w (fun b=>b<V) vA vn vc vs) :
  Calls Tryz.prog 92 #[.agg #[.int .i64 x.kind,.string x.name,.int .i64 x.low,.int .i64 x.high,.slice A n c],.slice vA vn vc] w (DWhP V w (dWhole vs x)):=by
 have HP:=ha_ ((qa_ w (.cells #[.int .i64 x.kind,.string x.name,.int .i64 x.low,.int .i64 x.high,.slice A n c] 77)).trans ((qa_ _ (.cells #[.int .i64 0,.slice none 0 0,.slice none 0 0,.slice none 0 0] 47)).mono (by simp)))
 have HRX:Hid (((w.alloc (.cells #[.int .i64 x.kind,.string x.name,.int .i64 x.low,.int .i64 x.high,.slice A n c] 77)).alloc (.cells #[.int .i64 0,.slice none 0 0,.slice none 0 0,.slice none 0 0] 47)).heap[w.heap.size]?=some (.cells #[.int .i64 x.kind,.string x.name,.int .i64 x.low,.int .i64 x.high,.slice A n c] 77 (0,0))):=((qa_ (w.alloc (.cells #[.int .i64 x.kind,.string x.name,.int .i64 x.low,.int .i64 x.high,.slice A n c] 77)) (.cells #[.int .i64 0,.slice none 0 0,.slice none 0 0,.slice none 0 0] 47)).block _ (by simp)).trans (heap_alloc_new w _)
 have HRR:Hid (((w.alloc (.cells #[.int .i64 x.kind,.string x.name,.int .i64 x.low,.int .i64 x.high,.slice A n c] 77)).alloc (.cells #[.int .i64 0,.slice none 0 0,.slice none 0 0,.slice none 0 0] 47)).heap[w.heap.size+1]?=some (.cells #[.int .i64 0,.slice none 0 0,.slice none 0 0,.slice none 0 0] 47 (0,0))):=by
  have:=heap_alloc_new (w.alloc (.cells #[.int .i64 x.kind,.string x.name,.int .i64 x.low,.int .i64 x.high,.slice A n c] 77)) (.cells #[.int .i64 0,.slice none 0 0,.slice none 0 0,.slice none 0 0] 47)
  rwa [show (w.alloc (.cells #[.int .i64 x.kind,.string x.name,.int .i64 x.low,.int .i64 x.high,.slice A n c] 77)).heap.size=w.heap.size+1 by simp] at this
 have hz:((w.alloc (.cells #[.int .i64 x.kind,.string x.name,.int .i64 x.low,.int .i64 x.high,.slice A n c] 77)).alloc (.cells #[.int .i64 0,.slice none 0 0,.slice none 0 0,.slice none 0 0] 47)).heap.size=w.heap.size+2:=by simp
 have HA:=ha_ (ha.bl HP.out)
 have HV:=ha_ (hv.vlt hV HP.out)
 clear ha hv
 have hvl:=HV.out.len
 have hvs:=HV.out.small
 have HE:Hid (dWhole vs x=(match vrFind vs x.name with|none=>(10,zeroP)|some i=>(match vs[i]? with|none=>(10,zeroP)|some v=>(0,v.pat)))):=by
  show _=_
  cases x with
  | mk k s lo hi l =>
   have hk:k=2:=hk
   rw[dWhole,if_neg (by omega),if_neg (by omega),if_pos hk]
   rfl
 have g1:(x.kind == 1)=false:=by rw[hk];rfl
 have g2:(x.kind == 2)=true:=by rw[hk];rfl
 have g3:(x.kind == 3)=false:=by rw[hk];rfl
 have g4:(x.kind == 4)=false:=by rw[hk];rfl
 have HC:=ha_ (dfind_any (HV.out.vbl (by omega)) x.name)
 clear hk
 go_enter Tryz.func92,Tryz.ntmps92
 go_wp2_with fail
 generalize hW2:((w.alloc (.cells #[.int .i64 x.kind,.string x.name,.int .i64 x.low,.int .i64 x.high,.slice A n c] 77)).alloc (.cells #[.int .i64 0,.slice none 0 0,.slice none 0 0,.slice none 0 0] 47))=W2 at *
 clear hW2
 cases hf:vrFind vs x.name with
 | none =>
  rw[hf,show plI none=-1 from rfl] at HC
  have HE2:Hid (dWhole vs x=(10,.mk 0 [] [] [])):=by show _=_;rw[HE.out,hf];rfl
  clear hf HE
  refine HC.out.mono ?_
  rintro en w2 ⟨rfl,hb2⟩
  have HB2:=ha_ (HP.out.trans (hb2.mono HP.out.size))
  have HRR2:=ha_ ((hb2.block _ (by omega)).trans HRR.out)
  have fr:=qv_ HRR2.out
  obtain ⟨q0,q1,q2,q3⟩:=qy_ HRR2.out
  clear hb2 HC HA HV HRX HRR
  go_wp2_with fail
  have HF:Hid (DWhP V w (dWhole vs x) (.returned (.tuple #[.agg #[.int .i64 0,.slice none 0 0,.slice none 0 0,.slice none 0 0],.int .i64 10])) (set4 w2 (w.heap.size+1) (.int .i64 0) (.slice none 0 0) (.slice none 0 0) (.slice none 0 0))):=DWhP.zero HE2.out (qm_ HB2.out (by omega) _ _ _ _)
  have HQQ:=ha_ (qx_ HRR2.out (.int .i64 0) (.slice none 0 0) (.slice none 0 0) (.slice none 0 0))
  change bodyPost _ _ _ _ _ (set4 w2 (w.heap.size+1) (.int .i64 0) (.slice none 0 0) (.slice none 0 0) (.slice none 0 0))
  generalize hW9:set4 w2 (w.heap.size+1) (.int .i64 0) (.slice none 0 0) (.slice none 0 0) (.slice none 0 0)=W9 at *
  exact bodyPost_ret (zc_ (a:=4) (u:=5) rfl (Tryz.isAgg47 _) (Tryz.sizeOf47 _) _ rfl (HQQ.out)) rfl (HF.out)
 | some i =>
  rw[hf,show plI (some i)=(i:Int) from rfl] at HC
  have hi:i<vs.length:=by
   unfold vrFind at hf
   rw[List.findIdx?_eq_some_iff_getElem] at hf
   exact hf.1
  have hi0:(0:Int)≤(i:Int):=by omega
  have hi1:(i:Int)<(vn:Int):=by omega
  refine HC.out.mono ?_
  rintro en w2 ⟨rfl,hb2⟩
  have HB2:=ha_ (HP.out.trans (hb2.mono HP.out.size))
  have hsz2:W2.heap.size≤w2.heap.size:=hb2.size
  have HRR2:=ha_ ((hb2.block _ (by omega)).trans HRR.out)
  have fr:=qv_ HRR2.out
  obtain ⟨q0,q1,q2,q3⟩:=qy_ HRR2.out
  obtain ⟨b1,o1,v,cs,hA,hb1,hx,hat,hc⟩:=(HV.out.vlt (by omega) hb2).got (i:=i) (by omega)
  subst hA
  obtain ⟨sA,sn,sc,gA,gn,gc,A', n', c', hpt,s0,s1,s2,s3,s4,s5,s6⟩:=var_cells hat hc
  have hd:varD.k=7:=rfl
  rw[hd] at s0 s1 s2 s3 s4 s5 s6
  have HE2:Hid (dWhole vs x=(0,v.pat)):=by show _=_;rw[HE.out,hf];simp only[hx]
  have HPT:=ha_ hpt
  have hb1' : b1<V:=hb1
  clear hf HE hx hat hc s0 s5 s6 hpt hb2 HC HA HV HRX HRR hb1
  go_wp2_with fail
  have HF:Hid (DWhP V w (dWhole vs x) (.returned (.tuple #[.agg #[.int .i64 v.pat.kind,.slice sA sn sc,.slice gA gn gc,.slice A' n' c'],.int .i64 0])) (set4 w2 (w.heap.size+1) (.int .i64 v.pat.kind) (.slice sA sn sc) (.slice gA gn gc) (.slice A' n' c'))):=by
   show DWhP V w (dWhole vs x) _ _
   rw[HE2.out]
   exact ⟨sA,sn,sc,gA,gn,gc,A', n', c', rfl,HPT.out.keep (fun b hb=>.inl hb) (fun p hp=>qn_ _ _ _ _ _ (by have hp:p.block<V:=hp;omega)),qm_ HB2.out (by omega) _ _ _ _⟩
  have HQQ:=ha_ (qx_ HRR2.out (.int .i64 v.pat.kind) (.slice sA sn sc) (.slice gA gn gc) (.slice A' n' c'))
  change bodyPost _ _ _ _ _ (set4 w2 (w.heap.size+1) (.int .i64 v.pat.kind) (.slice sA sn sc) (.slice gA gn gc) (.slice A' n' c'))
  generalize hW9:set4 w2 (w.heap.size+1) (.int .i64 v.pat.kind) (.slice sA sn sc) (.slice gA gn gc) (.slice A' n' c')=W9 at *
  exact bodyPost_ret (zc_ (a:=4) (u:=5) rfl (Tryz.isAgg47 _) (Tryz.sizeOf47 _) _ rfl (HQQ.out)) rfl (HF.out)

theorem dwholes_all {vs:List Vr}:∀ {l:List Nd},(∀ (i:Nat) (x:Nd),l[i]?=some x→(dWhole vs x).1=0)→dWholes vs l=(0,l.map fun x=>(dWhole vs x).2)
 | [],_=>by rw[dWholes];rfl
 | x :: t,h=>by
  have h0:=h 0 x rfl
  have ht:=dwholes_all (vs:=vs) (l:=t) fun i y hy=>h (i+1) y (by simpa using hy)
  rw[dWholes,if_neg (by rw[h0];simp),ht,if_neg (by simp)]
  rfl
theorem dwholes_fail {vs:List Vr}:∀ {l:List Nd}{j:Nat}{x:Nd},l[j]?=some x→(∀ (i:Nat) (y:Nd),i<j→l[i]?=some y→(dWhole vs y).1=0)→(dWhole vs x).1≠0→dWholes vs l=((dWhole vs x).1,[])
 | [],j,x,h,_,_=>by simp at h
 | y :: t,0,x,h,_,hx=>by
  simp at h
  subst h
  rw[dWholes,if_pos hx]
 | y :: t,j+1,x,h,hb,hx=>by
  have h0:=hb 0 y (by omega) rfl
  have ht:=dwholes_fail (vs:=vs) (l:=t) (j:=j) (x:=x) (by simpa using h) (fun i z hi hz=>hb (i+1) z (by omega) (by simpa using hz)) hx
  rw[dWholes,if_neg (by rw[h0];simp),ht,if_pos hx]
def DWhK (vs:List Vr) (V:Nat) (k:Nat):Prop:=∀ (x:Nd),x.size≤k→∀ (w:World),V≤w.heap.size→∀ (A:Option Addr) (n c:Nat),RdN w (Bl w) A n c x.kids→∀ (vA:Option Addr) (vn vc:Nat),RdG varD w (fun b=>b<V) vA vn vc vs →
 Calls Tryz.prog 92 #[.agg #[.int .i64 x.kind,.string x.name,.int .i64 x.low,.int .i64 x.high,.slice A n c],.slice vA vn vc] w (DWhP V w (dWhole vs x))
def UpToW (vs:List Vr) (l:List Nd) (j:Nat):Prop:=∀ (i:Nat) (y:Nd),i<j→l[i]?=some y→(dWhole vs y).1=0
def XW (V N:Nat) (b:Nat):Prop:=b<V∨N<b
set_option maxHeartbeats 8000000 in
theorem dwhole_j {vs:List Vr}{V k:Nat}(ih:DWhK vs V k){x:Nd}(hsz:x.size≤k+1) (hkk:8≤x.kind∧x.kind≤12){w:World}(hV:V≤w.heap.size){A:Option Addr}{n c:Nat}(hfew:n≤100000) (ha:RdN w (Bl w) A n c x.kids){vA:Option Addr}{vn vc:Nat}(hv:RdG varD w (fun b=>b<V) vA vn vc vs) :
  Calls Tryz.prog 92 #[.agg #[.int .i64 x.kind,.string x.name,.int .i64 x.low,.int .i64 x.high,.slice A n c],.slice vA vn vc] w (DWhP V w (dWhole vs x)):=by
 obtain ⟨hk8,hk12⟩:=hkk
 have HP:=ha_ ((qa_ w (.cells #[.int .i64 x.kind,.string x.name,.int .i64 x.low,.int .i64 x.high,.slice A n c] 77)).trans ((qa_ _ (.cells #[.int .i64 0,.slice none 0 0,.slice none 0 0,.slice none 0 0] 47)).mono (by simp)))
 have HRX:Hid (((w.alloc (.cells #[.int .i64 x.kind,.string x.name,.int .i64 x.low,.int .i64 x.high,.slice A n c] 77)).alloc (.cells #[.int .i64 0,.slice none 0 0,.slice none 0 0,.slice none 0 0] 47)).heap[w.heap.size]?=some (.cells #[.int .i64 x.kind,.string x.name,.int .i64 x.low,.int .i64 x.high,.slice A n c] 77 (0,0))):=((qa_ (w.alloc (.cells #[.int .i64 x.kind,.string x.name,.int .i64 x.low,.int .i64 x.high,.slice A n c] 77)) (.cells #[.int .i64 0,.slice none 0 0,.slice none 0 0,.slice none 0 0] 47)).block _ (by simp)).trans (heap_alloc_new w _)
 have HRR:Hid (((w.alloc (.cells #[.int .i64 x.kind,.string x.name,.int .i64 x.low,.int .i64 x.high,.slice A n c] 77)).alloc (.cells #[.int .i64 0,.slice none 0 0,.slice none 0 0,.slice none 0 0] 47)).heap[w.heap.size+1]?=some (.cells #[.int .i64 0,.slice none 0 0,.slice none 0 0,.slice none 0 0] 47 (0,0))):=by
  have:=heap_alloc_new (w.alloc (.cells #[.int .i64 x.kind,.string x.name,.int .i64 x.low,.int .i64 x.high,.slice A n c] 77)) (.cells #[.int .i64 0,.slice none 0 0,.slice none 0 0,.slice none 0 0] 47)
  rwa [show (w.alloc (.cells #[.int .i64 x.kind,.string x.name,.int .i64 x.low,.int .i64 x.high,.slice A n c] 77)).heap.size=w.heap.size+1 by simp] at this
 have hz:((w.alloc (.cells #[.int .i64 x.kind,.string x.name,.int .i64 x.low,.int .i64 x.high,.slice A n c] 77)).alloc (.cells #[.int .i64 0,.slice none 0 0,.slice none 0 0,.slice none 0 0] 47)).heap.size=w.heap.size+2:=by simp
 have hsm:=ha.small
 have hal:=ha.len
 have hks:=zm_ x
 have HA:=ha_ (ha.bl HP.out)
 have HV:=ha_ (hv.vlt hV HP.out)
 have HE:Hid (dWhole vs x=if (dWholes vs x.kids).1≠0 then ((dWholes vs x.kids).1,.mk 0 [] [] []) else (0,.mk (x.kind - 5) [] [] (dWholes vs x.kids).2)):=by
  show _=_
  cases x with
  | mk k s lo hi l =>
   have h8:8≤k:=hk8
   have h12:k≤12:=hk12
   rw[dWhole,if_neg (by omega),if_neg (by omega),if_neg (by omega),if_pos (by unfold joinD;simp;omega)]
   rfl
 clear ha hv
 have g1:(x.kind == 1)=false:=by rw[beq_eq_false_iff_ne];omega
 have g2:(x.kind == 2)=false:=by rw[beq_eq_false_iff_ne];omega
 have g3:(x.kind == 3)=false:=by rw[beq_eq_false_iff_ne];omega
 have g4:(x.kind == 4)=false:=by rw[beq_eq_false_iff_ne];omega
 have z0:IntKind.i64.wrap (x.kind - 8)=x.kind - 8:=IntWalk.i64_in _ (by omega)
 have z1:IntKind.i64.wrap (x.kind - 8+3)=x.kind - 8+3:=IntWalk.i64_in _ (by omega)
 have hcase:x.kind=8∨x.kind=9∨x.kind=10∨x.kind=11∨x.kind=12:=by omega
 generalize hl:x.kids=l at *
 have HKK:Hid (x.kind - 8+3=x.kind - 5):=by show _=_;omega
 rcases hcase with hk|hk|hk|hk|hk
 all_goals
  first
   | (have g8:(x.kind == 8)=true:=by rw[hk];rfl)
   | (have g8:(x.kind == 8)=false:=by rw[hk];rfl)
  first
   | (have g9:(x.kind == 9)=true:=by rw[hk];rfl)
   | (have g9:(x.kind == 9)=false:=by rw[hk];rfl)
  first
   | (have g10:(x.kind == 10)=true:=by rw[hk];rfl)
   | (have g10:(x.kind == 10)=false:=by rw[hk];rfl)
  first
   | (have g11:(x.kind == 11)=true:=by rw[hk];rfl)
   | (have g11:(x.kind == 11)=false:=by rw[hk];rfl)
  first
   | (have g12:(x.kind == 12)=true:=by rw[hk];rfl)
   | (have g12:(x.kind == 12)=false:=by rw[hk];rfl)
  clear hk
  go_enter Tryz.func92,Tryz.ntmps92
  go_wp2_with fail
  have HP3:Hid (Below ((w.alloc (.cells #[.int .i64 x.kind,.string x.name,.int .i64 x.low,.int .i64 x.high,.slice A n c] 77)).alloc (.cells #[.int .i64 0,.slice none 0 0,.slice none 0 0,.slice none 0 0] 47)).heap.size ((w.alloc (.cells #[.int .i64 x.kind,.string x.name,.int .i64 x.low,.int .i64 x.high,.slice A n c] 77)).alloc (.cells #[.int .i64 0,.slice none 0 0,.slice none 0 0,.slice none 0 0] 47)) (((w.alloc (.cells #[.int .i64 x.kind,.string x.name,.int .i64 x.low,.int .i64 x.high,.slice A n c] 77)).alloc (.cells #[.int .i64 0,.slice none 0 0,.slice none 0 0,.slice none 0 0] 47)).alloc (.cells #[.int .i64 (x.kind - 8+3),.slice none 0 0,.slice none 0 0,.slice none 0 0] 47))):=qa_ _ _
  have HRP:=ha_ (heap_alloc_new ((w.alloc (.cells #[.int .i64 x.kind,.string x.name,.int .i64 x.low,.int .i64 x.high,.slice A n c] 77)).alloc (.cells #[.int .i64 0,.slice none 0 0,.slice none 0 0,.slice none 0 0] 47)) (.cells #[.int .i64 (x.kind - 8+3),.slice none 0 0,.slice none 0 0,.slice none 0 0] 47))
  generalize hW2:((w.alloc (.cells #[.int .i64 x.kind,.string x.name,.int .i64 x.low,.int .i64 x.high,.slice A n c] 77)).alloc (.cells #[.int .i64 0,.slice none 0 0,.slice none 0 0,.slice none 0 0] 47))=W2 at *
  have hz3:(W2.alloc (.cells #[.int .i64 (x.kind - 8+3),.slice none 0 0,.slice none 0 0,.slice none 0 0] 47)).heap.size=W2.heap.size+1:=by simp
  generalize hW3:W2.alloc (.cells #[.int .i64 (x.kind - 8+3),.slice none 0 0,.slice none 0 0,.slice none 0 0] 47)=W3 at *
  clear hW2 hW3
  rw[hz] at HRP
  generalize hN9:w.heap.size+2=N9 at *
  go_loopw [10] (fun iv wx=>∃ (j:Nat) (oA:Option Addr) (oc:Nat),j≤n∧iv=.int .i64 j∧Hid (UpToW vs l j)∧Hid (wx.heap[N9]?=some (.cells #[.int .i64 (x.kind - 8+3),.slice none 0 0,.slice none 0 0,.slice oA j oc] 47 (0,0)))∧Hid (OwnX ptD (XW V N9) 47 wx (N9+1) (.slice oA j oc) ((l.take j).map fun y=>(dWhole vs y).2))∧Hid (N9<wx.heap.size)∧Hid (Below W2.heap.size W2 wx)) (fun iv _=>n - (intOf iv).toNat)
  case atStart=>exact ⟨0,none,0,by omega,rfl,fun i y hi=>absurd hi (by omega),HRP.out,OwnX.nil _ _ _ _ _,(by show N9<W3.heap.size;omega),HP3.out⟩
  case round =>
   obtain ⟨j,oA,oc,hj,rfl,HU,HPB,HO,HSZ,HB⟩:=hrel
   rcases (⟨wr,rfl⟩:∃ WL:World,WL=wr) with ⟨WL,rfl⟩
   have HBW:Hid (Below w.heap.size w WL):=HP.out.trans (HB.out.mono HP.out.size)
   obtain ⟨r0,r1,r2,r3,r4⟩:=zt_ ((HB.out.block w.heap.size (by omega)).trans HRX.out)
   have HRR2:=ha_ ((HB.out.block (w.heap.size+1) (by omega)).trans HRR.out)
   have HV2:=ha_ (HV.out.vlt (by omega) HB.out)
   by_cases hlt:j<n
   ·obtain ⟨b1,o1,y,A1,n1,c1,hA1,hb1,hy,hr1,s0,s1,s2,s3,s4⟩:=(HA.out.bl HB.out).got hlt
    subst hA1
    have HY:=ha_ hy
    have hysz:y.size≤k:=by have:=nd_size_mem hy;omega
    have hj0:(0:Int)≤(j:Int):=by omega
    have hj1:(j:Int)<(n:Int):=by omega
    have hVL:V≤WL.heap.size:=Nat.le_trans hV HBW.out.size
    have HC:=ha_ (ih y hysz WL hVL A1 n1 c1 hr1 vA vn vc HV2.out)
    clear hy hr1 hb1 hysz
    go_wp2_with fail
    refine HC.out.mono ?_
    rintro en w2 ⟨sA,sn,sc,gA,gn,gc,A2,n2,c2,rfl,hpt,hb2⟩
    have HPT:=ha_ hpt
    have HB2:=ha_ hb2
    have HBK:Hid (Below w2.heap.size w2 (w2.alloc (.cells #[.int .i64 (dWhole vs y).2.kind,.slice sA sn sc,.slice gA gn gc,.slice A2 n2 c2] 47))):=qa_ _ _
    have HRK:=ha_ (heap_alloc_new w2 (.cells #[.int .i64 (dWhole vs y).2.kind,.slice sA sn sc,.slice gA gn gc,.slice A2 n2 c2] 47))
    have hzk:(w2.alloc (.cells #[.int .i64 (dWhole vs y).2.kind,.slice sA sn sc,.slice gA gn gc,.slice A2 n2 c2] 47)).heap.size=w2.heap.size+1:=by simp
    have HB3:Hid (Below WL.heap.size WL (w2.alloc (.cells #[.int .i64 (dWhole vs y).2.kind,.slice sA sn sc,.slice gA gn gc,.slice A2 n2 c2] 47))):=HB2.out.trans (HBK.out.mono HB2.out.size)
    have hsz2:WL.heap.size≤w2.heap.size:=HB2.out.size
    clear s0 s1 s2 s3 s4 r0 r1 r2 r3 r4 hpt hb2 HC
    by_cases he:(dWhole vs y).1=0
    ·have g0:((dWhole vs y).1 != 0)=false:=by rw[he];rfl
     have HU2:Hid (UpToW vs l (j+1)):=fun i z hi hz=>by
      by_cases hij:i<j
      ·exact HU.out i z hij hz
      ·obtain rfl:i=j:=by omega
       have e:=HY.out.symm.trans hz
       injection e with e
       exact e ▸ he
     have HPB3:=ha_ ((HB3.out.block N9 HSZ.out).trans HPB.out)
     have HBR:Hid (Below (w2.alloc (.cells #[.int .i64 (dWhole vs y).2.kind,.slice sA sn sc,.slice gA gn gc,.slice A2 n2 c2] 47)).heap.size (w2.alloc (.cells #[.int .i64 (dWhole vs y).2.kind,.slice sA sn sc,.slice gA gn gc,.slice A2 n2 c2] 47)) ((w2.alloc (.cells #[.int .i64 (dWhole vs y).2.kind,.slice sA sn sc,.slice gA gn gc,.slice A2 n2 c2] 47)).alloc (.cells #[.int .i64 (dWhole vs y).2.kind,.slice sA sn sc,.slice gA gn gc,.slice A2 n2 c2] 47))):=qa_ _ _
     have HRR5:=ha_ (heap_alloc_new (w2.alloc (.cells #[.int .i64 (dWhole vs y).2.kind,.slice sA sn sc,.slice gA gn gc,.slice A2 n2 c2] 47)) (.cells #[.int .i64 (dWhole vs y).2.kind,.slice sA sn sc,.slice gA gn gc,.slice A2 n2 c2] 47))
     have hz5:((w2.alloc (.cells #[.int .i64 (dWhole vs y).2.kind,.slice sA sn sc,.slice gA gn gc,.slice A2 n2 c2] 47)).alloc (.cells #[.int .i64 (dWhole vs y).2.kind,.slice sA sn sc,.slice gA gn gc,.slice A2 n2 c2] 47)).heap.size=w2.heap.size+2:=by simp
     have HO5:=ha_ ((HO.out.on HB3.out).on HBR.out)
     have HB5:Hid (Below WL.heap.size WL ((w2.alloc (.cells #[.int .i64 (dWhole vs y).2.kind,.slice sA sn sc,.slice gA gn gc,.slice A2 n2 c2] 47)).alloc (.cells #[.int .i64 (dWhole vs y).2.kind,.slice sA sn sc,.slice gA gn gc,.slice A2 n2 c2] 47))):=HB3.out.trans (HBR.out.mono HB3.out.size)
     have HPB5:=ha_ ((HB5.out.block N9 HSZ.out).trans HPB.out)
     have HOB:Hid (∀ i,(Value.slice oA j oc).ownBlock=some i→N9+1≤i∧i<WL.heap.size):=HO.out.block
     have HPT5:Hid (PtAt ((w2.alloc (.cells #[.int .i64 (dWhole vs y).2.kind,.slice sA sn sc,.slice gA gn gc,.slice A2 n2 c2] 47)).alloc (.cells #[.int .i64 (dWhole vs y).2.kind,.slice sA sn sc,.slice gA gn gc,.slice A2 n2 c2] 47)) (fun b=>b<((w2.alloc (.cells #[.int .i64 (dWhole vs y).2.kind,.slice sA sn sc,.slice gA gn gc,.slice A2 n2 c2] 47)).alloc (.cells #[.int .i64 (dWhole vs y).2.kind,.slice sA sn sc,.slice gA gn gc,.slice A2 n2 c2] 47)).heap.size∧XW V N9 b∧(Value.slice oA j oc).ownBlock≠some b) [.int .i64 (dWhole vs y).2.kind,.slice sA sn sc,.slice gA gn gc,.slice A2 n2 c2] (dWhole vs y).2):=by
      refine PtAt.of (HPT.out.keep (fun b hb=>?_) (fun p hp=>?_))
      ·rcases hb with hb|hb
       ·exact ⟨by omega,.inl hb,fun e=>by have:=HOB.out b e;omega⟩
       ·exact ⟨by omega,.inr (by have:=HSZ.out;omega),fun e=>by have:=HOB.out b e;omega⟩
      ·have hlt2:p.block<w2.heap.size:=by
        rcases hp with hp|hp
        ·omega
        ·exact hp.2
       exact (HBR.out.cell (p:=p) (by omega)).trans (HBK.out.cell hlt2)
     obtain ⟨p0,p1,p2,p3⟩:=qy_ HPB3.out
     obtain ⟨t0,t1,t2,t3⟩:=qy_ HRK.out
     have frp:=qv_ HPB3.out
     clear he HU HPT HBK HB3 HBR HRR2
     rw[hzk] at HRR5
     have hl6:(((l.take j).map fun y=>(dWhole vs y).2)++[(dWhole vs y).2]).length=j+1:=by rw[List.length_append,List.length_map,List.length_take,List.length_singleton];omega
     go_wp2_with (at_builtin;refine app_x (D:=ptD) rfl _ _ 45 rfl Tryz.underlying45 info_pt rfl (by decide) (by decide) rfl HO5.out (w2.heap.size+1) (dWhole vs y).2 #[.int .i64 (dWhole vs y).2.kind,.slice sA sn sc,.slice gA gn gc,.slice A2 n2 c2] 47 rfl HRR5.out HPT5.out (by rw[List.length_map,List.length_take];omega) (by have:=HSZ.out;omega) ?_;intro v6 w6 ho6 hg6;have HPB6:=ha_ ((hg6.block N9 (by have:=HSZ.out;omega) (fun e=>by have:=HOB.out N9 e.symm;omega)).trans HPB5.out);obtain ⟨m0,m1,m2,m3⟩:=qy_ HPB6.out;have frp6:=qv_ HPB6.out;have HG6:=ha_ hg6;have HO6:=ha_ ho6;obtain ⟨oA6,oc6,hv6,_⟩:=ho6.rd;rw[hl6] at hv6;subst hv6)
     have HO7:Hid (OwnX ptD (XW V N9) 47 w6 (N9+1) (.slice oA6 (j+1) oc6) ((l.take (j+1)).map fun y=>(dWhole vs y).2)):=by
      show OwnX _ _ _ _ _ _ _
      rw[List.take_add_one,HY.out,List.map_append]
      exact HO6.out
     have HB6:Hid (Below W2.heap.size W2 w6):=qe_ (HB.out.trans (HB5.out.mono HB.out.size)) HG6.out (fun i hi=>by have:=HOB.out i hi;omega)
     have HSZ6:Hid (N9<w6.heap.size):=Nat.lt_of_lt_of_le (by have:=HSZ.out;omega:N9<((w2.alloc (.cells #[.int .i64 (dWhole vs y).2.kind,.slice sA sn sc,.slice gA gn gc,.slice A2 n2 c2] 47)).alloc (.cells #[.int .i64 (dWhole vs y).2.kind,.slice sA sn sc,.slice gA gn gc,.slice A2 n2 c2] 47)).heap.size) HG6.out.size
     have HO8:Hid (OwnX ptD (XW V N9) 47 (w6.setCell ⟨N9,3,none⟩ (.slice oA6 (j+1) oc6)) (N9+1) (.slice oA6 (j+1) oc6) ((l.take (j+1)).map fun y=>(dWhole vs y).2)):=HO7.out.setCell (Nat.lt_succ_self _) (fun h=>by rcases h with h|h <;> omega) _ _
     have HPB7:Hid ((w6.setCell ⟨N9,3,none⟩ (.slice oA6 (j+1) oc6)).heap[N9]?=some (.cells #[.int .i64 (x.kind - 8+3),.slice none 0 0,.slice none 0 0,.slice oA6 (j+1) oc6] 47 (0,0))):=heap_setCell_same _ _ _ _ _ _ HPB6.out
     have HB7:Hid (Below W2.heap.size W2 (w6.setCell ⟨N9,3,none⟩ (.slice oA6 (j+1) oc6))):=HB6.out.setCell (by show W2.heap.size≤N9;omega) _
     have HSZ7:Hid (N9<(w6.setCell ⟨N9,3,none⟩ (.slice oA6 (j+1) oc6)).heap.size):=by
      show N9<_
      have:=HSZ6.out
      simpa using this
     clear HO7 HO6 HO5 HO HG6 HB6 HSZ6 HPB6 HPB5 HPB3 HPB HRR5 HPT5 HB5 HB2 HB HRK HY HSZ
     go_wp2_with fail
     go_roundw
     case rel=>exact ⟨j+1,_,_,by omega,by go_num,HU2.out,HPB7.out,HO8.out,HSZ7.out,HB7.out⟩
     case measure=>simp[intOf];omega
    ·have g0:((dWhole vs y).1 != 0)=true:=by rw[bne_iff_ne];exact he
     have HE2:Hid (dWhole vs x=((dWhole vs y).1,.mk 0 [] [] [])):=by
      show _=_
      rw[HE.out,dwholes_fail HY.out HU.out he,if_pos he]
     have HRR3:=ha_ ((HB3.out.block (w.heap.size+1) (by have:=HSZ.out;omega)).trans HRR2.out)
     have fr:=qv_ HRR3.out
     obtain ⟨q0,q1,q2,q3⟩:=qy_ HRR3.out
     have HF:Hid (DWhP V w (dWhole vs x) (.returned (.tuple #[.agg #[.int .i64 0,.slice none 0 0,.slice none 0 0,.slice none 0 0],.int .i64 (dWhole vs y).1])) (set4 (w2.alloc (.cells #[.int .i64 (dWhole vs y).2.kind,.slice sA sn sc,.slice gA gn gc,.slice A2 n2 c2] 47)) (w.heap.size+1) (.int .i64 0) (.slice none 0 0) (.slice none 0 0) (.slice none 0 0))):=DWhP.zero HE2.out (qm_ (HBW.out.trans (HB3.out.mono HBW.out.size)) (Nat.le_succ _) _ _ _ _)
     have HQQ:=ha_ (qx_ HRR3.out (.int .i64 0) (.slice none 0 0) (.slice none 0 0) (.slice none 0 0))
     clear he HU HPT HBK HB3 HRR2 HE HE2 HO HPB
     go_wp2_with fail
     change bodyPost _ _ _ _ _ (set4 (w2.alloc (.cells #[.int .i64 (dWhole vs y).2.kind,.slice sA sn sc,.slice gA gn gc,.slice A2 n2 c2] 47)) (w.heap.size+1) (.int .i64 0) (.slice none 0 0) (.slice none 0 0) (.slice none 0 0))
     generalize hW9:set4 (w2.alloc (.cells #[.int .i64 (dWhole vs y).2.kind,.slice sA sn sc,.slice gA gn gc,.slice A2 n2 c2] 47)) (w.heap.size+1) (.int .i64 0) (.slice none 0 0) (.slice none 0 0) (.slice none 0 0)=W9 at *
     exact bodyPost_ret (zc_ (a:=4) (u:=5) rfl (Tryz.isAgg47 _) (Tryz.sizeOf47 _) _ rfl HQQ.out) rfl HF.out
   ·obtain rfl:j=n:=by omega
    have HD:Hid (dWholes vs l=(0,l.map fun y=>(dWhole vs y).2)):=dwholes_all fun i y hy=>HU.out i y (by have:=(List.getElem?_eq_some_iff.1 hy).1;omega) hy
    have HE2:Hid (dWhole vs x=(0,.mk (x.kind - 5) [] [] (l.map fun y=>(dWhole vs y).2))):=by
     show _=_
     rw[HE.out,HD.out,if_neg (by simp)]
    have HF:Hid (DWhP V w (dWhole vs x) (.returned (.tuple #[.agg #[.int .i64 (x.kind - 8+3),.slice none 0 0,.slice none 0 0,.slice oA j oc],.int .i64 0])) (set4 WL (w.heap.size+1) (.int .i64 (x.kind - 8+3)) (.slice none 0 0) (.slice none 0 0) (.slice oA j oc))):=by
     show DWhP V w (dWhole vs x) _ _
     have ho:=HO.out
     rw[List.take_of_length_le (by omega)] at ho
     obtain ⟨A', c', e,h⟩:=ho.rd
     injection e with e1 e2 e3
     subst e1 e3
     rw[← e2] at h
     rw[HE2.out,HKK.out]
     refine ⟨none,0,0,none,0,0,oA,j,oc,rfl,⟨RgAt.nil _ _,InAt.nil _ _,h.p.keep (fun b hb=>?_) (fun p hp=>qn_ _ _ _ _ _ ?_)⟩,qm_ HBW.out (Nat.le_succ _) _ _ _ _⟩
     ·obtain ⟨hb1,hb2⟩:=hb
      rcases hb2 with (hb2|hb2)|hb2
      ·exact .inl hb2
      ·exact .inr ⟨by omega,by rw[qg_];exact hb1⟩
      ·exact .inr ⟨by omega,by rw[qg_];exact hb1⟩
     ·obtain ⟨hp1,hp2⟩:=hp
      rcases hp2 with (hp2|hp2)|hp2 <;> omega
    have HQQ:=ha_ (qx_ HRR2.out (.int .i64 (x.kind - 8+3)) (.slice none 0 0) (.slice none 0 0) (.slice oA j oc))
    have fr:=qv_ HRR2.out
    obtain ⟨q0,q1,q2,q3⟩:=qy_ HRR2.out
    obtain ⟨p0,p1,p2,p3⟩:=qy_ HPB.out
    clear HU HO HPB HD HE HE2 HRR2 HV2 ih
    go_wp2_with fail
    change bodyPost _ _ _ _ _ (set4 WL (w.heap.size+1) (.int .i64 (x.kind - 8+3)) (.slice none 0 0) (.slice none 0 0) (.slice oA j oc))
    generalize hW9:set4 WL (w.heap.size+1) (.int .i64 (x.kind - 8+3)) (.slice none 0 0) (.slice none 0 0) (.slice oA j oc)=W9 at *
    exact bodyPost_ret (zc_ (a:=4) (u:=5) rfl (Tryz.isAgg47 _) (Tryz.sizeOf47 _) _ rfl HQQ.out) rfl HF.out
theorem dwhole_all {vs:List Vr}{V:Nat}:∀ k:Nat,k≤100000→DWhK vs V k:=by
 intro k
 induction k with
 | zero=>intro _ x h;have:=Nd.size_pos x;omega
 | succ k ih =>
  intro hk x hx w hV A n c ha vA vn vc hv
  have hn:n≤100000:=by
   have h1:=ha.len
   have h2:=zm_ x
   have h3:x.kids.length≤Y.sizeL x.kids:=by
    generalize x.kids=l
    induction l with
    | nil=>simp
    | cons y t ih=>have:=Nd.size_pos y;rw[Y.sizeL,List.length_cons];omega
   omega
  by_cases h1:x.kind=1
  ·exact dwhole_1 h1
  by_cases h3:x.kind=3∨x.kind=4
  ·exact dwhole_34 h3 (by omega) hV ha hv
  by_cases h2:x.kind=2
  ·exact dwhole_2 h2 hV ha hv
  by_cases hj:8≤x.kind∧x.kind≤12
  ·exact dwhole_j (ih (by omega)) hx hj hV hn ha hv
  exact dwhole_0 ⟨h1,h2,fun h=>h3 (.inl h),fun h=>h3 (.inr h),hj⟩ hV ha hv

set_option maxHeartbeats 8000000 in
theorem dexpand_any {vs:List Vr}{V:Nat}{x:Nd}(hsz:x.size≤100000){w:World}(hV:V≤w.heap.size){A:Option Addr}{n c:Nat}(ha:RdN w (Bl w) A n c x.kids){vA:Option Addr}{vn vc:Nat}(hv:RdG varD w (fun b=>b<V) vA vn vc vs) :
  Calls Tryz.prog 68 #[.agg #[.int .i64 x.kind,.string x.name,.int .i64 x.low,.int .i64 x.high,.slice A n c],.slice vA vn vc] w (DWhP V w (dExpand vs x)):=by
 have HP:=ha_ ((qa_ w (.cells #[.int .i64 x.kind,.string x.name,.int .i64 x.low,.int .i64 x.high,.slice A n c] 77)).trans ((qa_ _ (.cells #[.int .i64 0,.slice none 0 0,.slice none 0 0,.slice none 0 0] 47)).mono (by simp)))
 have HRX:Hid (((w.alloc (.cells #[.int .i64 x.kind,.string x.name,.int .i64 x.low,.int .i64 x.high,.slice A n c] 77)).alloc (.cells #[.int .i64 0,.slice none 0 0,.slice none 0 0,.slice none 0 0] 47)).heap[w.heap.size]?=some (.cells #[.int .i64 x.kind,.string x.name,.int .i64 x.low,.int .i64 x.high,.slice A n c] 77 (0,0))):=((qa_ (w.alloc (.cells #[.int .i64 x.kind,.string x.name,.int .i64 x.low,.int .i64 x.high,.slice A n c] 77)) (.cells #[.int .i64 0,.slice none 0 0,.slice none 0 0,.slice none 0 0] 47)).block _ (by simp)).trans (heap_alloc_new w _)
 have HRR:Hid (((w.alloc (.cells #[.int .i64 x.kind,.string x.name,.int .i64 x.low,.int .i64 x.high,.slice A n c] 77)).alloc (.cells #[.int .i64 0,.slice none 0 0,.slice none 0 0,.slice none 0 0] 47)).heap[w.heap.size+1]?=some (.cells #[.int .i64 0,.slice none 0 0,.slice none 0 0,.slice none 0 0] 47 (0,0))):=by
  have:=heap_alloc_new (w.alloc (.cells #[.int .i64 x.kind,.string x.name,.int .i64 x.low,.int .i64 x.high,.slice A n c] 77)) (.cells #[.int .i64 0,.slice none 0 0,.slice none 0 0,.slice none 0 0] 47)
  rwa [show (w.alloc (.cells #[.int .i64 x.kind,.string x.name,.int .i64 x.low,.int .i64 x.high,.slice A n c] 77)).heap.size=w.heap.size+1 by simp] at this
 have hz:((w.alloc (.cells #[.int .i64 x.kind,.string x.name,.int .i64 x.low,.int .i64 x.high,.slice A n c] 77)).alloc (.cells #[.int .i64 0,.slice none 0 0,.slice none 0 0,.slice none 0 0] 47)).heap.size=w.heap.size+2:=by simp
 have HC:=ha_ (dwhole_all x.size hsz x (Nat.le_refl _) ((w.alloc (.cells #[.int .i64 x.kind,.string x.name,.int .i64 x.low,.int .i64 x.high,.slice A n c] 77)).alloc (.cells #[.int .i64 0,.slice none 0 0,.slice none 0 0,.slice none 0 0] 47)) (by omega) A n c (ha.bl HP.out) vA vn vc (hv.vlt hV HP.out))
 clear ha hv
 go_enter Tryz.func68,Tryz.ntmps68
 go_wp2_with fail
 generalize hW2:((w.alloc (.cells #[.int .i64 x.kind,.string x.name,.int .i64 x.low,.int .i64 x.high,.slice A n c] 77)).alloc (.cells #[.int .i64 0,.slice none 0 0,.slice none 0 0,.slice none 0 0] 47))=W2 at *
 clear hW2
 refine HC.out.mono ?_
 rintro en w2 ⟨sA,sn,sc,gA,gn,gc,A2,n2,c2,rfl,hpt,hb2⟩
 have HPT:=ha_ hpt
 have HB2:=ha_ (HP.out.trans (hb2.mono HP.out.size))
 have hsz2:W2.heap.size≤w2.heap.size:=hb2.size
 have HRR2:=ha_ ((hb2.block _ (by omega)).trans HRR.out)
 have HBK:Hid (Below w2.heap.size w2 (w2.alloc (.cells #[.int .i64 (dWhole vs x).2.kind,.slice sA sn sc,.slice gA gn gc,.slice A2 n2 c2] 47))):=qa_ _ _
 have HRK:=ha_ (heap_alloc_new w2 (.cells #[.int .i64 (dWhole vs x).2.kind,.slice sA sn sc,.slice gA gn gc,.slice A2 n2 c2] 47))
 have hzk:(w2.alloc (.cells #[.int .i64 (dWhole vs x).2.kind,.slice sA sn sc,.slice gA gn gc,.slice A2 n2 c2] 47)).heap.size=w2.heap.size+1:=by simp
 have HB3:Hid (Below w.heap.size w (w2.alloc (.cells #[.int .i64 (dWhole vs x).2.kind,.slice sA sn sc,.slice gA gn gc,.slice A2 n2 c2] 47))):=HB2.out.trans (HBK.out.mono HB2.out.size)
 have HRR3:=ha_ ((HBK.out.block (w.heap.size+1) (by omega)).trans HRR2.out)
 have HPT3:Hid (PtIn (w2.alloc (.cells #[.int .i64 (dWhole vs x).2.kind,.slice sA sn sc,.slice gA gn gc,.slice A2 n2 c2] 47)) (Bl (w2.alloc (.cells #[.int .i64 (dWhole vs x).2.kind,.slice sA sn sc,.slice gA gn gc,.slice A2 n2 c2] 47))) sA sn sc gA gn gc A2 n2 c2 (dWhole vs x).2):=HPT.out.keep (fun b hb=>by
  show b<(w2.alloc (.cells #[.int .i64 (dWhole vs x).2.kind,.slice sA sn sc,.slice gA gn gc,.slice A2 n2 c2] 47)).heap.size
  rcases hb with hb|hb
  ·omega
  ·have:=hb.2;omega) (fun p hp=>HBK.out.cell (by
  rcases hp with hp|hp
  ·omega
  ·exact hp.2))
 clear hpt hb2 HC HRX HRR
 generalize hW3:w2.alloc (.cells #[.int .i64 (dWhole vs x).2.kind,.slice sA sn sc,.slice gA gn gc,.slice A2 n2 c2] 47)=W3 at *
 by_cases he:(dWhole vs x).1=0
 ·have g0:((dWhole vs x).1 != 0)=false:=by rw[he];rfl
  have HC2:=ha_ (psize_any HPT3.out)
  obtain ⟨k0,k1,k2,k3⟩:=qy_ HRK.out
  go_wp2_with fail
  refine HC2.out.mono ?_
  rintro en w4 ⟨rfl,hb4⟩
  have HB4:=ha_ (HB3.out.trans (hb4.mono HB3.out.size))
  have HRR4:=ha_ ((hb4.block (w.heap.size+1) (by omega)).trans HRR3.out)
  have HRK4:=ha_ ((hb4.block w2.heap.size (by omega)).trans HRK.out)
  have HPT4:Hid (PtIn w4 (Ov V w w4) sA sn sc gA gn gc A2 n2 c2 (dWhole vs x).2):=HPT.out.keep (fun b hb=>by
   have h4:W3.heap.size≤w4.heap.size:=hb4.size
   rcases hb with hb|hb
   ·exact .inl hb
   ·exact .inr ⟨by have:=hb.1;omega,by have:=hb.2;omega⟩) (fun p hp=>by
   have hlt:p.block<w2.heap.size:=by
    rcases hp with hp|hp
    ·omega
    ·exact hp.2
   exact (hb4.cell (p:=p) (by omega)).trans (HBK.out.cell hlt))
  have hszq:w2.heap.size+1≤w4.heap.size:=by have:=hb4.size;omega
  have HNR:Hid (∀ b,Ov V W2 w2 b→b≠w.heap.size+1):=fun b hb=>by
   rcases hb with hb|hb
   ·omega
   ·have:=hb.1;omega
  have hnz:((min (dWhole vs x).2.size 100000:Nat):Int)≤100000:=by omega
  have HCELL:Hid (∀ p:Addr,p.block<w2.heap.size→w4.cell? p=w2.cell? p):=fun p hlt=>(hb4.cell (p:=p) (by omega)).trans (HBK.out.cell hlt)
  clear k0 k1 k2 k3 hb4 HC2 HPT3
  have fr:=qv_ HRR4.out
  obtain ⟨q0,q1,q2,q3⟩:=qy_ HRR4.out
  obtain ⟨k0,k1,k2,k3⟩:=qy_ HRK4.out
  by_cases h300:300<(dWhole vs x).2.size
  ·have g4:(300:Int)<((min (dWhole vs x).2.size 100000:Nat):Int):=by omega
   have HE:Hid (dExpand vs x=(9,.mk 0 [] [] [])):=by
    show _=_
    unfold dExpand
    rw[if_neg (by simpa using he),if_pos h300]
    rfl
   generalize ((min (dWhole vs x).2.size 100000:Nat):Int)=T at *
   have HF:Hid (DWhP V w (dExpand vs x) (.returned (.tuple #[.agg #[.int .i64 0,.slice none 0 0,.slice none 0 0,.slice none 0 0],.int .i64 9])) (set4 w4 (w.heap.size+1) (.int .i64 0) (.slice none 0 0) (.slice none 0 0) (.slice none 0 0))):=DWhP.zero HE.out (qm_ HB4.out (Nat.le_succ _) _ _ _ _)
   have HQQ:=ha_ (qx_ HRR4.out (.int .i64 0) (.slice none 0 0) (.slice none 0 0) (.slice none 0 0))
   clear he h300 HPT HPT4 HE
   go_wp2_with fail
   change bodyPost _ _ _ _ _ (set4 w4 (w.heap.size+1) (.int .i64 0) (.slice none 0 0) (.slice none 0 0) (.slice none 0 0))
   generalize hW9:set4 w4 (w.heap.size+1) (.int .i64 0) (.slice none 0 0) (.slice none 0 0) (.slice none 0 0)=W9 at *
   exact bodyPost_ret (zc_ (a:=4) (u:=5) rfl (Tryz.isAgg47 _) (Tryz.sizeOf47 _) _ rfl HQQ.out) rfl HF.out
  ·have g4:¬ (300:Int)<((min (dWhole vs x).2.size 100000:Nat):Int):=by omega
   have HE:Hid (dExpand vs x=(0,(dWhole vs x).2)):=by
    show _=_
    unfold dExpand
    rw[if_neg (by simpa using he),if_neg h300]
   have HF:Hid (DWhP V w (dExpand vs x) (.returned (.tuple #[.agg #[.int .i64 (dWhole vs x).2.kind,.slice sA sn sc,.slice gA gn gc,.slice A2 n2 c2],.int .i64 0])) (set4 w4 (w.heap.size+1) (.int .i64 (dWhole vs x).2.kind) (.slice sA sn sc) (.slice gA gn gc) (.slice A2 n2 c2))):=by
    show DWhP V w (dExpand vs x) _ _
    rw[HE.out]
    have hk:PtIn (set4 w4 (w.heap.size+1) (.int .i64 (dWhole vs x).2.kind) (.slice sA sn sc) (.slice gA gn gc) (.slice A2 n2 c2)) (Ov V w w4) sA sn sc gA gn gc A2 n2 c2 (dWhole vs x).2:=HPT.out.keep (fun b hb=>by
     rcases hb with hb|hb
     ·exact .inl hb
     ·exact .inr ⟨by have:=hb.1;omega,by have:=hb.2;omega⟩) (fun p hp=>by
     have hlt:p.block<w2.heap.size:=by
      rcases hp with hp|hp
      ·omega
      ·exact hp.2
     rw[qn_ _ _ _ _ _ (HNR.out p.block hp)]
     exact HCELL.out p hlt)
    exact ⟨sA,sn,sc,gA,gn,gc,A2,n2,c2,rfl,hk.keep (fun b hb=>hb.imp id fun hb=>⟨hb.1,by rw[qg_];exact hb.2⟩) (fun _ _=>rfl),qm_ HB4.out (Nat.le_succ _) _ _ _ _⟩
   have HQQ:=ha_ (qx_ HRR4.out (.int .i64 (dWhole vs x).2.kind) (.slice sA sn sc) (.slice gA gn gc) (.slice A2 n2 c2))
   generalize ((min (dWhole vs x).2.size 100000:Nat):Int)=T at *
   clear he h300 HPT HPT4 HE
   go_wp2_with fail
   change bodyPost _ _ _ _ _ (set4 w4 (w.heap.size+1) (.int .i64 (dWhole vs x).2.kind) (.slice sA sn sc) (.slice gA gn gc) (.slice A2 n2 c2))
   generalize hW9:set4 w4 (w.heap.size+1) (.int .i64 (dWhole vs x).2.kind) (.slice sA sn sc) (.slice gA gn gc) (.slice A2 n2 c2)=W9 at *
   exact bodyPost_ret (zc_ (a:=4) (u:=5) rfl (Tryz.isAgg47 _) (Tryz.sizeOf47 _) _ rfl HQQ.out) rfl HF.out
 ·have g0:((dWhole vs x).1 != 0)=true:=by rw[bne_iff_ne];exact he
  have HE:Hid (dExpand vs x=((dWhole vs x).1,.mk 0 [] [] [])):=by
   show _=_
   unfold dExpand
   rw[if_pos he]
   rfl
  have fr:=qv_ HRR3.out
  obtain ⟨q0,q1,q2,q3⟩:=qy_ HRR3.out
  have HF:Hid (DWhP V w (dExpand vs x) (.returned (.tuple #[.agg #[.int .i64 0,.slice none 0 0,.slice none 0 0,.slice none 0 0],.int .i64 (dWhole vs x).1])) (set4 W3 (w.heap.size+1) (.int .i64 0) (.slice none 0 0) (.slice none 0 0) (.slice none 0 0))):=DWhP.zero HE.out (qm_ HB3.out (Nat.le_succ _) _ _ _ _)
  have HQQ:=ha_ (qx_ HRR3.out (.int .i64 0) (.slice none 0 0) (.slice none 0 0) (.slice none 0 0))
  clear he HPT HPT3 HE
  go_wp2_with fail
  change bodyPost _ _ _ _ _ (set4 W3 (w.heap.size+1) (.int .i64 0) (.slice none 0 0) (.slice none 0 0) (.slice none 0 0))
  generalize hW9:set4 W3 (w.heap.size+1) (.int .i64 0) (.slice none 0 0) (.slice none 0 0) (.slice none 0 0)=W9 at *
  exact bodyPost_ret (zc_ (a:=4) (u:=5) rfl (Tryz.isAgg47 _) (Tryz.sizeOf47 _) _ rfl HQQ.out) rfl HF.out

theorem info_var:(Tryz.prog.info? 73).map (fun i=>(i.zero,i.size,i.bytes))=some (some (.agg #[.string { data:=#[] },.int .i64 0,.slice none 0 0,.slice none 0 0,.slice none 0 0,.bool false,.int .i64 0]),7,112):=by kernel_rfl
theorem RdG.one {α:Type}{D:Rdr α}{w:World}{S:Nat→Prop}{N:Nat}{ns:Array Value}{te:TypeId}{y:α}(hrow:w.heap[N]?=some (.cells ns te (0,0))) (hy:D.at_ w S ns.toList y) (hS:S N):RdG D w S (some ⟨N,0,none⟩) 1 1 [y] :=
 ⟨rfl,Nat.le_refl _,by unfold maxLen;omega,fun _=>ns.toList,fun _=>⟨N,0,rfl,hS,fun i hi j u hu=>by
  obtain rfl:i=0:=by omega
  rw[Nat.zero_mul,Nat.zero_add,Nat.zero_add,cell_of_row _ _ _ _ _ _ hrow]
  simpa using hu⟩,fun i x hx=>by
  have hi:i=0:=by have:=(List.getElem?_eq_some_iff.1 hx).1;simp at this;omega
  subst hi
  simp at hx
  exact hx ▸ hy⟩
def DGiP (V:Nat) (w:World) (r:Int × List Vr) (e:Ending) (w' : World):Prop:=∃ A n c,e=.returned (.tuple #[.slice A n c,.int .i64 r.1])∧RdG varD w' (Ov V w w') A n c r.2∧Below w.heap.size w w'
theorem dcells15 {w:World}{N:Nat}{x0 x1 x2 x3 x4 x5 x6 x7 x8 x9 x10 x11 x12 x13 x14:Value}{t:TypeId}(h:w.heap[N]?=some (.cells #[x0,x1,x2,x3,x4,x5,x6,x7,x8,x9,x10,x11,x12,x13,x14] t (0,0))) :
  w.cell? ⟨N,0,none⟩=some x0∧w.cell? ⟨N,1,none⟩=some x1∧w.cell? ⟨N,2,none⟩=some x2∧w.cell? ⟨N,3,none⟩=some x3∧w.cell? ⟨N,4,none⟩=some x4∧w.cell? ⟨N,5,none⟩=some x5∧w.cell? ⟨N,6,none⟩=some x6∧w.cell? ⟨N,7,none⟩=some x7∧w.cell? ⟨N,8,none⟩=some x8∧w.cell? ⟨N,9,none⟩=some x9∧w.cell? ⟨N,10,none⟩=some x10∧w.cell? ⟨N,11,none⟩=some x11∧w.cell? ⟨N,12,none⟩=some x12∧w.cell? ⟨N,13,none⟩=some x13∧w.cell? ⟨N,14,none⟩=some x14:=by
 refine ⟨?_,?_,?_,?_,?_,?_,?_,?_,?_,?_,?_,?_,?_,?_,?_⟩ <;> (rw[cell_of_row _ _ _ _ _ _ h];rfl)
set_option maxHeartbeats 8000000 in
theorem dgive_nil {x:It}(hk:x.kind=1) (hok:(dExpand [] x.before).1=0) (h4:x.before.kind=4) (hsz:x.before.size≤100000){w:World}{Ab Aa:Option Addr}{nb cb na ca:Nat}(hb:RdN w (Bl w) Ab nb cb x.before.kids) :
  Calls Tryz.prog 66 #[.slice none 0 0,.agg #[.int .i64 x.kind,.string x.name,.int .i64 x.number,.bool x.cut,.int .i64 x.before.kind,.string x.before.name,.int .i64 x.before.low,.int .i64 x.before.high,.slice Ab nb cb,.int .i64 x.after.kind,.string x.after.name,.int .i64 x.after.low,.int .i64 x.after.high,.slice Aa na ca,.int .i64 x.pos]] w (DGiP 0 w (0,[⟨x.name,(dExpand [] x.before).2,true,x.pos⟩])):=by
 have HP:=ha_ (qa_ w (.cells #[.int .i64 x.kind,.string x.name,.int .i64 x.number,.bool x.cut,.int .i64 x.before.kind,.string x.before.name,.int .i64 x.before.low,.int .i64 x.before.high,.slice Ab nb cb,.int .i64 x.after.kind,.string x.after.name,.int .i64 x.after.low,.int .i64 x.after.high,.slice Aa na ca,.int .i64 x.pos] 79))
 have HRX:=ha_ (heap_alloc_new w (.cells #[.int .i64 x.kind,.string x.name,.int .i64 x.number,.bool x.cut,.int .i64 x.before.kind,.string x.before.name,.int .i64 x.before.low,.int .i64 x.before.high,.slice Ab nb cb,.int .i64 x.after.kind,.string x.after.name,.int .i64 x.after.low,.int .i64 x.after.high,.slice Aa na ca,.int .i64 x.pos] 79))
 have hz:(w.alloc (.cells #[.int .i64 x.kind,.string x.name,.int .i64 x.number,.bool x.cut,.int .i64 x.before.kind,.string x.before.name,.int .i64 x.before.low,.int .i64 x.before.high,.slice Ab nb cb,.int .i64 x.after.kind,.string x.after.name,.int .i64 x.after.low,.int .i64 x.after.high,.slice Aa na ca,.int .i64 x.pos] 79)).heap.size=w.heap.size+1:=by simp
 have g1:(x.kind != 1)=false:=by rw[hk];rfl
 have g4:(x.before.kind == 4)=true:=by rw[h4];rfl
 have HB0:=ha_ (hb.bl HP.out)
 have HV:Hid (∀ w:World,RdG varD w (fun b=>b<0) none 0 0 []):=fun w=>RdG.nil _ _ _
 have HF:=ha_ (dfind_any (RdG.nil varD (w.alloc (.cells #[.int .i64 x.kind,.string x.name,.int .i64 x.number,.bool x.cut,.int .i64 x.before.kind,.string x.before.name,.int .i64 x.before.low,.int .i64 x.before.high,.slice Ab nb cb,.int .i64 x.after.kind,.string x.after.name,.int .i64 x.after.low,.int .i64 x.after.high,.slice Aa na ca,.int .i64 x.pos] 79)) (Bl _)) x.name)
 rw[show plI (vrFind [] x.name)=-1 from rfl] at HF
 have HOK:=ha_ hok
 clear hb hk h4 hok
 go_enter Tryz.func66,Tryz.ntmps66
 go_wp2_with fail
 generalize hW1:w.alloc (.cells #[.int .i64 x.kind,.string x.name,.int .i64 x.number,.bool x.cut,.int .i64 x.before.kind,.string x.before.name,.int .i64 x.before.low,.int .i64 x.before.high,.slice Ab nb cb,.int .i64 x.after.kind,.string x.after.name,.int .i64 x.after.low,.int .i64 x.after.high,.slice Aa na ca,.int .i64 x.pos] 79)=W1 at *
 clear hW1
 refine HF.out.mono ?_
 rintro en w2 ⟨rfl,hb2⟩
 have HB2:=ha_ (HP.out.trans (hb2.mono HP.out.size))
 have HRX2:=ha_ ((hb2.block w.heap.size (by omega)).trans HRX.out)
 obtain ⟨r0,r1,r2,r3,r4,r5,r6,r7,r8,r9,r10,r11,r12,r13,r14⟩:=dcells15 HRX2.out
 have HC:=ha_ (dexpand_any (vs:=[]) (V:=0) hsz (Nat.zero_le _) (HB0.out.bl hb2) (HV.out w2))
 clear hb2 HF HRX HP
 go_wp2_with fail
 refine HC.out.mono ?_
 rintro en w3 ⟨sA,sn,sc,gA,gn,gc,A2,n2,c2,rfl,hpt,hb3⟩
 have hsz3:w2.heap.size≤w3.heap.size:=hb3.size
 have hsz2:w.heap.size<w2.heap.size:=klt_of_cell r0
 have HPT:=ha_ hpt
 have HB3:=ha_ (HB2.out.trans (hb3.mono HB2.out.size))
 have HRX3:=ha_ ((hb3.block w.heap.size hsz2).trans HRX2.out)
 have HBK:Hid (Below w3.heap.size w3 (w3.alloc (.cells #[.int .i64 (dExpand [] x.before).2.kind,.slice sA sn sc,.slice gA gn gc,.slice A2 n2 c2] 47))):=qa_ _ _
 have HRK:=ha_ (heap_alloc_new w3 (.cells #[.int .i64 (dExpand [] x.before).2.kind,.slice sA sn sc,.slice gA gn gc,.slice A2 n2 c2] 47))
 have HRX4:=ha_ ((HBK.out.block w.heap.size (by omega)).trans HRX3.out)
 clear r0 r1 r2 r3 r4 r5 r6 r7 r8 r9 r10 r11 r12 r13 r14 hpt hb3 HC
 have g0:((dExpand [] x.before).1 != 0)=false:=by rw[HOK.out];rfl
 obtain ⟨r0,r1,r2,r3,r4,r5,r6,r7,r8,r9,r10,r11,r12,r13,r14⟩:=dcells15 HRX4.out
 obtain ⟨k0,k1,k2,k3⟩:=qy_ HRK.out
 go_wp2_with fail
 generalize hW4:w3.alloc (.cells #[.int .i64 (dExpand [] x.before).2.kind,.slice sA sn sc,.slice gA gn gc,.slice A2 n2 c2] 47)=W4 at *
 have hz4:W4.heap.size=w3.heap.size+1:=by rw[← hW4];simp
 have HAPP:Hid (∀ (N:Nat) (ty:TypeId) (W:World),(Builtin.append_ #[31,31] ty #[.slice (some ⟨N,0,none⟩) 0 0,.slice none 0 0]).run Tryz.prog W=.ok (.slice (some ⟨N,0,none⟩) 0 0) W):=fun N ty W=>by
  obtain ⟨i0,hi0,hz0,hz1,hz2⟩:=info_k info_var
  simp[Builtin.append_,run_underlying Tryz.underlying31,sizeOf,typeInfo,hi0,Builtin.lenOf,Builtin.firstCells,storeCells]
 have happ:=HAPP.out
 have HS:Hid (∀ w', Below W4.heap.size W4 w' → w'.cell? ⟨w.heap.size,1,none⟩=some (.string x.name)∧w'.cell? ⟨w.heap.size,14,none⟩=some (.int .i64 x.pos)∧w'.cell? ⟨w3.heap.size,0,none⟩=some (.int .i64 (dExpand [] x.before).2.kind)∧w'.cell? ⟨w3.heap.size,1,none⟩=some (.slice sA sn sc)∧w'.cell? ⟨w3.heap.size,2,none⟩=some (.slice gA gn gc)∧w'.cell? ⟨w3.heap.size,3,none⟩=some (.slice A2 n2 c2)):=fun w' h=>⟨qf_ h (by omega) r1,qf_ h (by omega) r14,qf_ h (by omega) k0,qf_ h (by omega) k1,qf_ h (by omega) k2,qf_ h (by omega) k3⟩
 have HK0:=ha_ (HS.out W4.drew (qb_ (Below.refl _ _) 1))
 clear r0 r1 r2 r3 r4 r5 r6 r7 r8 r9 r10 r11 r12 r13 r14 k0 k1 k2 k3
 have HBA:Hid (Below W4.heap.size W4 (W4.alloc (.cells #[] 73)).drew):=qb_ (qa_ _ _) 1
 have HKA:=ha_ (HS.out _ HBA.out)
 have HBE:Hid (Below W4.heap.size W4 (W4.alloc (.cells #[.string x.name,.int .i64 (dExpand [] x.before).2.kind,.slice sA sn sc,.slice gA gn gc,.slice A2 n2 c2,.bool true,.int .i64 x.pos] 73)).drew):=qb_ (qa_ _ _) 1
 have HKE:=ha_ (HS.out _ HBE.out)
 have HBC:Hid (Below W4.heap.size W4 ((W4.alloc (.cells #[] 73)).alloc (.cells #[.string x.name,.int .i64 (dExpand [] x.before).2.kind,.slice sA sn sc,.slice gA gn gc,.slice A2 n2 c2,.bool true,.int .i64 x.pos] 73)).drew):=qb_ ((qa_ _ _).trans ((qa_ _ _).mono (by simp))) 1
 have HKC:=ha_ (HS.out _ HBC.out)
 have HPTC:Hid (PtAt ((W4.alloc (.cells #[] 73)).alloc (.cells #[.string x.name,.int .i64 (dExpand [] x.before).2.kind,.slice sA sn sc,.slice gA gn gc,.slice A2 n2 c2,.bool true,.int .i64 x.pos] 73)).drew (fun b=>b<((W4.alloc (.cells #[] 73)).alloc (.cells #[.string x.name,.int .i64 (dExpand [] x.before).2.kind,.slice sA sn sc,.slice gA gn gc,.slice A2 n2 c2,.bool true,.int .i64 x.pos] 73)).drew.heap.size∧w.heap.size≤b∧(Value.slice (some ⟨W4.heap.size,0,none⟩) 0 0).ownBlock≠some b) [.int .i64 (dExpand [] x.before).2.kind,.slice sA sn sc,.slice gA gn gc,.slice A2 n2 c2] (dExpand [] x.before).2):=by
  refine PtAt.of (HPT.out.keep (fun b hb=>?_) (fun p hp=>?_))
  ·rcases hb with hb|hb
   ·exact absurd hb (Nat.not_lt_zero _)
   ·exact ⟨by have:=HBC.out.size;omega,by omega,fun e=>absurd (show W4.heap.size=b from Option.some.inj e) (by omega)⟩
  ·rcases hp with hp|hp
   ·exact absurd hp (Nat.not_lt_zero _)
   ·exact (HBC.out.cell (p:=p) (by omega)).trans (HBK.out.cell hp.2)
 have HVAC:Hid (varD.at_ ((W4.alloc (.cells #[] 73)).alloc (.cells #[.string x.name,.int .i64 (dExpand [] x.before).2.kind,.slice sA sn sc,.slice gA gn gc,.slice A2 n2 c2,.bool true,.int .i64 x.pos] 73)).drew (fun b=>b<((W4.alloc (.cells #[] 73)).alloc (.cells #[.string x.name,.int .i64 (dExpand [] x.before).2.kind,.slice sA sn sc,.slice gA gn gc,.slice A2 n2 c2,.bool true,.int .i64 x.pos] 73)).drew.heap.size∧w.heap.size≤b∧(Value.slice (some ⟨W4.heap.size,0,none⟩) 0 0).ownBlock≠some b) [.string x.name,.int .i64 (dExpand [] x.before).2.kind,.slice sA sn sc,.slice gA gn gc,.slice A2 n2 c2,.bool true,.int .i64 x.pos] ⟨x.name,(dExpand [] x.before).2,true,x.pos⟩):=⟨_,rfl,HPTC.out⟩
 have HBD:Hid (Below W4.heap.size W4 ((W4.alloc (.cells #[.string x.name,.int .i64 (dExpand [] x.before).2.kind,.slice sA sn sc,.slice gA gn gc,.slice A2 n2 c2,.bool true,.int .i64 x.pos] 73)).alloc (.cells #[] 73)).drew):=qb_ ((qa_ _ _).trans ((qa_ _ _).mono (by simp))) 1
 have HKD:=ha_ (HS.out _ HBD.out)
 have HPTD:Hid (PtAt ((W4.alloc (.cells #[.string x.name,.int .i64 (dExpand [] x.before).2.kind,.slice sA sn sc,.slice gA gn gc,.slice A2 n2 c2,.bool true,.int .i64 x.pos] 73)).alloc (.cells #[] 73)).drew (fun b=>b<((W4.alloc (.cells #[.string x.name,.int .i64 (dExpand [] x.before).2.kind,.slice sA sn sc,.slice gA gn gc,.slice A2 n2 c2,.bool true,.int .i64 x.pos] 73)).alloc (.cells #[] 73)).drew.heap.size∧w.heap.size≤b∧(Value.slice (some ⟨W4.heap.size+1,0,none⟩) 0 0).ownBlock≠some b) [.int .i64 (dExpand [] x.before).2.kind,.slice sA sn sc,.slice gA gn gc,.slice A2 n2 c2] (dExpand [] x.before).2):=by
  refine PtAt.of (HPT.out.keep (fun b hb=>?_) (fun p hp=>?_))
  ·rcases hb with hb|hb
   ·exact absurd hb (Nat.not_lt_zero _)
   ·exact ⟨by have:=HBD.out.size;omega,by omega,fun e=>absurd (show W4.heap.size+1=b from Option.some.inj e) (by omega)⟩
  ·rcases hp with hp|hp
   ·exact absurd hp (Nat.not_lt_zero _)
   ·exact (HBD.out.cell (p:=p) (by omega)).trans (HBK.out.cell hp.2)
 have HVAD:Hid (varD.at_ ((W4.alloc (.cells #[.string x.name,.int .i64 (dExpand [] x.before).2.kind,.slice sA sn sc,.slice gA gn gc,.slice A2 n2 c2,.bool true,.int .i64 x.pos] 73)).alloc (.cells #[] 73)).drew (fun b=>b<((W4.alloc (.cells #[.string x.name,.int .i64 (dExpand [] x.before).2.kind,.slice sA sn sc,.slice gA gn gc,.slice A2 n2 c2,.bool true,.int .i64 x.pos] 73)).alloc (.cells #[] 73)).drew.heap.size∧w.heap.size≤b∧(Value.slice (some ⟨W4.heap.size+1,0,none⟩) 0 0).ownBlock≠some b) [.string x.name,.int .i64 (dExpand [] x.before).2.kind,.slice sA sn sc,.slice gA gn gc,.slice A2 n2 c2,.bool true,.int .i64 x.pos] ⟨x.name,(dExpand [] x.before).2,true,x.pos⟩):=⟨_,rfl,HPTD.out⟩
 have HOC:Hid (OwnX varD (fun b=>w.heap.size≤b) 73 ((W4.alloc (.cells #[] 73)).alloc (.cells #[.string x.name,.int .i64 (dExpand [] x.before).2.kind,.slice sA sn sc,.slice gA gn gc,.slice A2 n2 c2,.bool true,.int .i64 x.pos] 73)).drew W4.heap.size (.slice (some ⟨W4.heap.size,0,none⟩) 0 0) []):=((qz_ varD _ W4 W4.heap.size 73 (Nat.le_refl _) (by decide)).on (qa_ _ _)).on (qb_ (Below.refl _ _) 1)
 have HOD:Hid (OwnX varD (fun b=>w.heap.size≤b) 73 ((W4.alloc (.cells #[.string x.name,.int .i64 (dExpand [] x.before).2.kind,.slice sA sn sc,.slice gA gn gc,.slice A2 n2 c2,.bool true,.int .i64 x.pos] 73)).alloc (.cells #[] 73)).drew W4.heap.size (.slice (some ⟨W4.heap.size+1,0,none⟩) 0 0) []):=by
  have h:=(qz_ varD (fun b=>w.heap.size≤b) (W4.alloc (.cells #[.string x.name,.int .i64 (dExpand [] x.before).2.kind,.slice sA sn sc,.slice gA gn gc,.slice A2 n2 c2,.bool true,.int .i64 x.pos] 73)) W4.heap.size 73 (by simp) (by decide)).on (qb_ (Below.refl _ _) 1)
  rw[show (W4.alloc (.cells #[.string x.name,.int .i64 (dExpand [] x.before).2.kind,.slice sA sn sc,.slice gA gn gc,.slice A2 n2 c2,.bool true,.int .i64 x.pos] 73)).heap.size=W4.heap.size+1 by simp] at h
  exact h
 have HRC:Hid (RdG varD ((W4.alloc (.cells #[] 73)).alloc (.cells #[.string x.name,.int .i64 (dExpand [] x.before).2.kind,.slice sA sn sc,.slice gA gn gc,.slice A2 n2 c2,.bool true,.int .i64 x.pos] 73)).drew (fun b=>b<((W4.alloc (.cells #[] 73)).alloc (.cells #[.string x.name,.int .i64 (dExpand [] x.before).2.kind,.slice sA sn sc,.slice gA gn gc,.slice A2 n2 c2,.bool true,.int .i64 x.pos] 73)).drew.heap.size∧w.heap.size≤b∧(Value.slice (some ⟨W4.heap.size,0,none⟩) 0 0).ownBlock≠some b) (some ⟨W4.heap.size+1,0,none⟩) 1 1 [⟨x.name,(dExpand [] x.before).2,true,x.pos⟩]):=by
  refine RdG.one (te:=73) ?_ HVAC.out ⟨?_,by omega,fun e=>absurd (show W4.heap.size=W4.heap.size+1 from Option.some.inj e) (by omega)⟩
  ·have h:=heap_alloc_new (W4.alloc (.cells #[] 73)) (.cells #[.string x.name,.int .i64 (dExpand [] x.before).2.kind,.slice sA sn sc,.slice gA gn gc,.slice A2 n2 c2,.bool true,.int .i64 x.pos] 73)
   rw[show (W4.alloc (.cells #[] 73)).heap.size=W4.heap.size+1 by simp] at h
   exact h
  ·show _<((W4.alloc (.cells #[] 73)).alloc (.cells #[.string x.name,.int .i64 (dExpand [] x.before).2.kind,.slice sA sn sc,.slice gA gn gc,.slice A2 n2 c2,.bool true,.int .i64 x.pos] 73)).heap.size
   simp
 have HRD:Hid (RdG varD ((W4.alloc (.cells #[.string x.name,.int .i64 (dExpand [] x.before).2.kind,.slice sA sn sc,.slice gA gn gc,.slice A2 n2 c2,.bool true,.int .i64 x.pos] 73)).alloc (.cells #[] 73)).drew (fun b=>b<((W4.alloc (.cells #[.string x.name,.int .i64 (dExpand [] x.before).2.kind,.slice sA sn sc,.slice gA gn gc,.slice A2 n2 c2,.bool true,.int .i64 x.pos] 73)).alloc (.cells #[] 73)).drew.heap.size∧w.heap.size≤b∧(Value.slice (some ⟨W4.heap.size+1,0,none⟩) 0 0).ownBlock≠some b) (some ⟨W4.heap.size,0,none⟩) 1 1 [⟨x.name,(dExpand [] x.before).2,true,x.pos⟩]):=by
  refine RdG.one (te:=73) ?_ HVAD.out ⟨?_,by omega,fun e=>absurd (show W4.heap.size+1=W4.heap.size from Option.some.inj e) (by omega)⟩
  ·exact ((qa_ (W4.alloc (.cells #[.string x.name,.int .i64 (dExpand [] x.before).2.kind,.slice sA sn sc,.slice gA gn gc,.slice A2 n2 c2,.bool true,.int .i64 x.pos] 73)) (.cells #[] 73)).block _ (by simp)).trans (heap_alloc_new W4 (.cells #[.string x.name,.int .i64 (dExpand [] x.before).2.kind,.slice sA sn sc,.slice gA gn gc,.slice A2 n2 c2,.bool true,.int .i64 x.pos] 73))
  ·show _<((W4.alloc (.cells #[.string x.name,.int .i64 (dExpand [] x.before).2.kind,.slice sA sn sc,.slice gA gn gc,.slice A2 n2 c2,.bool true,.int .i64 x.pos] 73)).alloc (.cells #[] 73)).heap.size
   simp
   omega
 have HBW:Hid (Below w.heap.size w W4):=HB3.out.trans (HBK.out.mono HB3.out.size)
 have HZ4:=ha_ hz4
 clear hz4
 clear HPTC HPTD HVAC HVAD HPT HRX2 HRX3 HRX4 HRK HB0 HV HB2 HOK
 go_region_held_law (fun w' => w'.cell? ⟨w.heap.size,1,none⟩=some (.string x.name)∧w'.cell? ⟨w.heap.size,14,none⟩=some (.int .i64 x.pos)∧w'.cell? ⟨w3.heap.size,0,none⟩=some (.int .i64 (dExpand [] x.before).2.kind)∧w'.cell? ⟨w3.heap.size,1,none⟩=some (.slice sA sn sc)∧w'.cell? ⟨w3.heap.size,2,none⟩=some (.slice gA gn gc)∧w'.cell? ⟨w3.heap.size,3,none⟩=some (.slice A2 n2 c2)) (first|exact HK0.out|exact HKA.out|exact HKE.out|exact HKC.out|exact HKD.out|exact HS.out _ HB5.out) (first
  | ((with_reducible refine qh_ (D:=varD) ?_ (.tmp 60) (.tmp 68) 69 31 rfl rfl Tryz.underlying31 info_var rfl (by decide) (by decide) ?_ HOC.out ?_ HRC.out ?_ ?_ ?_);rfl;rfl;rfl;exact Nat.le_of_ble_eq_true rfl;exact HBC.out.size;intro v5 w5 ho5 hg5 hv5;have HO5:=ha_ ho5;have HB5:Hid (Below W4.heap.size W4 w5):=qe_ HBC.out hg5 (fun i hi=>(HOC.out.block i hi).1);clear ho5 hg5 hv5)
  | ((with_reducible refine qh_ (D:=varD) ?_ (.tmp 60) (.tmp 68) 69 31 rfl rfl Tryz.underlying31 info_var rfl (by decide) (by decide) ?_ HOD.out ?_ HRD.out ?_ ?_ ?_);rfl;rfl;rfl;exact Nat.le_of_ble_eq_true rfl;exact HBD.out.size;intro v5 w5 ho5 hg5 hv5;have HO5:=ha_ ho5;have HB5:Hid (Below W4.heap.size W4 w5):=qe_ HBD.out hg5 (fun i hi=>(HOD.out.block i hi).1);clear ho5 hg5 hv5))
 all_goals (
  obtain ⟨A5,c5,e5,hrd⟩:=HO5.out.rd
  obtain rfl:v5=.slice A5 1 c5:=e5
  have HRD5:Hid (RdG varD w5 (Ov 0 w w5) A5 1 c5 [⟨x.name,(dExpand [] x.before).2,true,x.pos⟩]):=hrd.keep (fun b hb=>Or.inr ⟨hb.2.elim id fun h=>by have:=HBW.out.size;omega,hb.1⟩) fun _ _=>rfl
  have HB6:=ha_ (HBW.out.trans (HB5.out.mono HBW.out.size))
  clear hrd
  go_wp2_with fail
  go_ret2
  exact ⟨A5,1,c5,rfl,HRD5.out,HB6.out⟩)

theorem contains_no {l:List ByteArray}{s:ByteArray}(h:∀ (i:Nat) (x:ByteArray),l[i]?=some x→decide (x=s)=false):hasT l s=false:=by
 rw[← Bool.not_eq_true]
 intro hm
 obtain ⟨x,hx,he⟩:=List.any_eq_true.1 hm
 obtain ⟨i,hi⟩:=List.getElem?_of_mem hx
 rw[h i x hi] at he
 cases he
theorem contains_yes {l:List ByteArray}{s:ByteArray}{i:Nat}(h:l[i]?=some s):hasT l s=true :=
 List.any_eq_true.2 ⟨s,List.mem_of_getElem? h,decide_eq_true rfl⟩
theorem dret_b {a b:Bool}(h:a=b):Ending.returned (.bool a)=.returned (.bool b):=by rw[h]
def HasP (w:World) (x:Bool) (e:Ending) (w' : World):Prop:=e=.returned (.bool x)∧Below w.heap.size w w'
set_option maxHeartbeats 1000000 in
theorem dhas_any {w:World}{A:Option Addr}{n c:Nat}{l:List ByteArray}(h:RdG strD w (Bl w) A n c l) (s:ByteArray) :
  Calls Tryz.prog 46 #[.slice A n c,.string s] w (HasP w (hasT l s)):=by
 have hn:=h.len
 have hsm:=h.small
 have HG:=ha_ h
 clear h
 go_enter Tryz.func46,Tryz.ntmps46
 go_wp2_with fail
 go_loopw [5] (fun iv wx=>∃ j:Nat,j≤n∧iv=.int .i64 j∧Hid (∀ i x,i<j→l[i]?=some x→decide (x=s)=false)∧Hid (Below w.heap.size w wx)) (fun iv _=>n - (intOf iv).toNat)
 case atStart=>exact ⟨0,by omega,rfl,fun i x hi=>absurd hi (by omega),Below.refl _ _⟩
 case round =>
  obtain ⟨j,hj,rfl,HT,HB⟩:=hrel
  by_cases hlt:j<n
  ·obtain ⟨b1,o1,x,cs,hA,hb1,hx,hat,hc⟩:=(HG.out.on HB.out).got hlt
   subst hA
   obtain rfl:cs=[.string x]:=hat
   have s0:=hc 0 _ rfl
   have hd:strD.k=1:=rfl
   rw[hd,Nat.mul_one,Nat.add_zero] at s0
   have HX:=ha_ hx
   have hj0:(0:Int)≤(j:Int):=by omega
   have hj1:(j:Int)<(n:Int):=by omega
   clear hx hc hb1
   by_cases he:x=s
   ·have g:(x.toList == s.toList)=true:=by rw[dbs_eq];exact decide_eq_true he
    have HE:Hid (hasT l s=true):=contains_yes (i:=j) (by rw[HX.out,he])
    clear HT HX he
    go_wp2_with fail
    go_ret
    exact ⟨dret_b HE.out.symm,HB.out⟩
   ·have g:(x.toList == s.toList)=false:=by rw[dbs_eq];exact decide_eq_false he
    have HT2:Hid (∀ i x,i<j+1→l[i]?=some x→decide (x=s)=false):=fun i y hi hy=>by
     by_cases hij:i<j
     ·exact HT.out i y hij hy
     ·obtain rfl:i=j:=by omega
      have e:=HX.out.symm.trans hy
      injection e with e
      subst e
      exact decide_eq_false he
    clear HT HX he
    go_wp2_with fail
    go_roundw
    case rel=>exact ⟨j+1,by omega,by go_num,HT2.out,HB.out⟩
    case measure=>simp[intOf];omega
  ·obtain rfl:j=n:=by omega
   have HE:Hid (hasT l s=false):=contains_no fun i x hx=>HT.out i x (by have:=(List.getElem?_eq_some_iff.1 hx).1;omega) hx
   clear HT
   go_wp2_with fail
   go_ret
   exact ⟨dret_b HE.out.symm,HB.out⟩
theorem rule_cells {w:World}{S:Nat→Prop}{cs:List Value}{x:Rl}(h:ruleD.at_ w S cs x){b o:Nat}(hc:∀ j u,cs[j]?=some u→w.cell? ⟨b,o+j,none⟩=some u):w.cell? ⟨b,o,none⟩=some (.int .i64 x.number):=by
 obtain ⟨ps,qs,rfl,_,_⟩:=h
 exact hc 0 _ rfl
theorem qi_ {w:World}{N:Nat}{v0 v1 v2 v3:Value}{t:TypeId}(h:w.heap[N]?=some (.cells #[v0,v1,v2,v3] t (0,0))):w.cell? ⟨N,0,none⟩=some v0∧w.cell? ⟨N,1,none⟩=some v1∧w.cell? ⟨N,2,none⟩=some v2∧w.cell? ⟨N,3,none⟩=some v3:=by
 refine ⟨?_,?_,?_,?_⟩ <;> (rw[cell_of_row _ _ _ _ _ _ h];rfl)
set_option maxHeartbeats 1000000 in
theorem drfind_any {w:World}{A:Option Addr}{n c:Nat}{l:List Rl}(h:RdG ruleD w (Bl w) A n c l) (s:Int) (v0 v2 v3:Value) :
  Calls Tryz.prog 67 #[.agg #[v0,.slice A n c,v2,v3],.int .i64 s] w (NumK w (plI (rlFind l s))):=by
 have hn:=h.len
 have hsm:=h.small
 have HP:=ha_ (qa_ w (.cells #[v0,.slice A n c,v2,v3] 36))
 have HRX:=ha_ (heap_alloc_new w (.cells #[v0,.slice A n c,v2,v3] 36))
 have HG:=ha_ (h.on HP.out)
 have hz:(w.alloc (.cells #[v0,.slice A n c,v2,v3] 36)).heap.size=w.heap.size+1:=by simp
 clear h
 go_enter Tryz.func67,Tryz.ntmps67
 go_wp2_with fail
 generalize hW1:w.alloc (.cells #[v0,.slice A n c,v2,v3] 36)=W1 at *
 clear hW1
 go_loopw [5] (fun iv wx=>∃ j:Nat,j≤n∧iv=.int .i64 j∧Hid (∀ i x,i<j→l[i]?=some x→decide (x.number=s)=false)∧Hid (W1=wx)) (fun iv _=>n - (intOf iv).toNat)
 case atStart=>exact ⟨0,by omega,rfl,fun i x hi=>absurd hi (by omega),rfl⟩
 case round =>
  obtain ⟨j,hj,rfl,HT,HW⟩:=hrel
  obtain rfl:=HW.out
  obtain ⟨r0,r1,r2,r3⟩:=qi_ HRX.out
  by_cases hlt:j<n
  ·obtain ⟨b1,o1,x,cs,hA,hb1,hx,hat,hc⟩:=HG.out.got hlt
   subst hA
   have s0:=rule_cells hat hc
   have hd:ruleD.k=11:=rfl
   rw[hd] at s0
   have HX:=ha_ hx
   have hj0:(0:Int)≤(j:Int):=by omega
   have hj1:(j:Int)<(n:Int):=by omega
   clear hx hat hc hb1
   by_cases he:x.number=s
   ·have g:(x.number == s)=true:=beq_iff_eq.2 he
    have HE:Hid (plI (rlFind l s)=(j:Int)):=by
     show _=_
     unfold rlFind
     rw[find_some HX.out (decide_eq_true he) fun i y hi hy=>HT.out i y hi hy]
     rfl
    clear HT HX he
    go_wp2_with fail
    go_ret
    exact ⟨dret_i64 HE.out.symm,HP.out⟩
   ·have g:(x.number == s)=false:=by rw[← Bool.not_eq_true,beq_iff_eq];exact he
    have HT2:Hid (∀ i x,i<j+1→l[i]?=some x→decide (x.number=s)=false):=fun i y hi hy=>by
     by_cases hij:i<j
     ·exact HT.out i y hij hy
     ·obtain rfl:i=j:=by omega
      have e:=HX.out.symm.trans hy
      injection e with e
      subst e
      exact decide_eq_false he
    clear HT HX he
    go_wp2_with fail
    go_roundw
    case rel=>exact ⟨j+1,by omega,by go_num,HT2.out,trivial⟩
    case measure=>simp[intOf];omega
  ·obtain rfl:j=n:=by omega
   have HE:Hid (plI (rlFind l s)=-1):=by
    show _=_
    unfold rlFind
    rw[find_none fun i x hx=>HT.out i x (by have:=(List.getElem?_eq_some_iff.1 hx).1;omega) hx]
    rfl
   clear HT
   go_wp2_with fail
   go_ret
   exact ⟨dret_i64 HE.out.symm,HP.out⟩

theorem app_gh {α:Type}{D:Rdr α}{w:World}{l:List α}{B:Nat}{v:Value}{e:TypeId}{P:Program}{ops:Array Oper}{rest:List Oper}{o:Oper}{a:Act}{Q:Exit→Act→World→Prop}(hgd:o.guard=none) (s x:Operand) (t:TypeId)
  (ho:o.op=.call { callee:=.builtin .append,args:=#[s,x],argTypes:=#[t,t] }) (ht:P.underlying t=some (.slice e)) {z:Value} {bytes:Nat} (hi:(P.info? e).map (fun i=>(i.zero,i.size,i.bytes))=some (some z,D.k,bytes)) (hzs:z.cells.size=D.k) (hk0:0<D.k) (hby:bytes≤1000)
  (hs:a.eval s=v) (hown:OwnG D e w B v l) (N:Nat) (y:α) (ns:Array Value) (te:TypeId)
  (hx:a.eval x=.slice (some ⟨N,0,none⟩) 1 1) (hrow:w.heap[N]?=some (.cells ns te (0,0))) (hy:D.at_ w (fun b=>b<w.heap.size∧v.ownBlock≠some b) ns.toList y)
  (h63:l.length≤1000000) (hbase:B≤w.heap.size)
  (h:∀ v' w', OwnG D e w' B v' (l++[y])→w.grownBy w' v.ownBlock→(v'.ownBlock=v.ownBlock∨v'.ownBlock=some w.heap.size)→wpList P ops Q rest (a.put o.dst v') w'):wpList P ops Q (o :: rest) a w:=by
 obtain ⟨i0,hi0,hz0,hz1,hz2⟩:=info_k hi
 obtain ⟨cs,hc,hk⟩:=hown
 refine wpList_append_own_at w hgd s x t ho B e i0 z D.k bytes ht hi0 hz0 hz1 hz2 hzs hk0 v l.length cs hs hc ⟨N,0,none⟩ 1 1 ns.toList hx (by rw[D.len hy];omega) ?_ (D.one hy) (by unfold maxLen;omega) (Nat.le_trans (Nat.mul_le_mul (Nat.succ_le_succ h63) hby) (by decide)) hbase ?_
 ·intro j u hu
  rw[qo_,cell_of_row _ _ _ _ _ _ hrow,Nat.zero_add]
  simpa using hu
 ·intro v' w' h2 h3 _ h4
  exact h v' w' (OwnG.push hk hc.1 hy h2 h3 h4) h3 h4
theorem put_len (b:List ByteArray):∀ a:List ByteArray,(putNames a b).length≤a.length+b.length:=by
 induction b with
 | nil=>intro a;rw[putNames];simp
 | cons x t ih =>
  intro a
  rw[putNames]
  have:=ih (if hasT a x=true then a else a++[x])
  by_cases h:hasT a x=true
  ·rw[if_pos h] at this ⊢;rw[List.length_cons];omega
  ·rw[if_neg h] at this ⊢;rw[List.length_append] at this;simp only[List.length_cons,List.length_nil] at this ⊢;omega
theorem put_snoc (b:List ByteArray) (x:ByteArray):∀ a:List ByteArray,putNames a (b++[x])=if hasT (putNames a b) x=true then putNames a b else putNames a b++[x]:=by
 induction b with
 | nil=>intro a;rw[List.nil_append,putNames,putNames,putNames]
 | cons y t ih=>intro a;rw[List.cons_append,putNames,putNames];exact ih _
theorem namesL_snoc (l:List Nd) (y:Nd):∀ a:List ByteArray,dNamesL a (l++[y])=putNames (dNamesL a l) (dNames y):=by
 induction l with
 | nil=>intro a;rw[List.nil_append,dNamesL,dNamesL,dNamesL]
 | cons z t ih=>intro a;rw[List.cons_append,dNamesL,dNamesL];exact ih _
theorem names_len (k:Nat):(∀ x:Nd,x.size≤k→(dNames x).length≤x.size)∧(∀ (l:List Nd),Y.sizeL l≤k→∀ a:List ByteArray,(dNamesL a l).length≤a.length+Y.sizeL l):=by
 induction k with
 | zero =>
  refine ⟨fun x h=>?_,fun l h a=>?_⟩
  ·have:=Nd.size_pos x;omega
  ·cases l with
   | nil=>rw[dNamesL];omega
   | cons y t=>have:=Nd.size_pos y;rw[Y.sizeL] at h;omega
 | succ k ih =>
  have h1:∀ x:Nd,x.size≤k+1→(dNames x).length≤x.size:=by
   intro x h
   cases x with
   | mk kd nm lo hi l =>
    rw[Nd.size] at h ⊢
    rw[dNames]
    have:=ih.2 l (by omega) (if kd=2 then [nm] else [])
    have h3:(if kd=2 then [nm] else ([]:List ByteArray)).length≤1:=by
     by_cases hk:kd=2
     ·rw[if_pos hk];simp
     ·rw[if_neg hk];simp
    omega
  refine ⟨h1,fun l=>?_⟩
  induction l with
  | nil=>intro h a;rw[dNamesL];omega
  | cons y t iht =>
   intro h a
   rw[Y.sizeL] at h ⊢
   rw[dNamesL]
   have e1:=iht (by omega) (putNames a (dNames y))
   have e2:=put_len (dNames y) a
   have e3:=h1 y (by omega)
   omega
theorem own_nw {w w' : World}{e:TypeId}{B:Nat}{v:Value}{l:List ByteArray}(h:OwnG strD e w' B v l) (hB:w.heap.size≤B):∃ A c,v=.slice A l.length c∧RdG strD w' (Nw w w') A l.length c l:=by
 have hblk:=h.block
 obtain ⟨A,c,rfl,hr⟩:=h.rd
 obtain ⟨h1,h2,h3,cs,h4,h5⟩:=hr
 refine ⟨A,c,rfl,h1,h2,h3,cs,fun hn=>?_,fun i x hx=>h5 i x hx⟩
 obtain ⟨b,off,e,hb,hc⟩:=h4 hn
 subst e
 exact ⟨b,off,rfl,⟨Nat.le_trans hB (hblk b rfl).1,hb⟩,hc⟩
def DNmP (w:World) (L:List ByteArray) (e:Ending) (w' : World):Prop:=∃ A n c,e=.returned (.slice A n c)∧RdG strD w' (Nw w w') A n c L∧Below w.heap.size w w'
def DNmK (k:Nat):Prop:=∀ x:Nd,x.size≤k→∀ (w:World) (A:Option Addr) (n c:Nat),RdN w (Bl w) A n c x.kids →
 Calls Tryz.prog 45 #[.agg #[.int .i64 x.kind,.string x.name,.int .i64 x.low,.int .i64 x.high,.slice A n c]] w (DNmP w (dNames x))
theorem info_str:(Tryz.prog.info? 9).map (fun i=>(i.zero,i.size,i.bytes))=some (some (.string { data:=#[] }),1,16):=by kernel_rfl
theorem take_more {l:List ByteArray}{i:Nat}{x:ByteArray}(h:l[i]?=some x):l.take (i+1)=l.take i++[x]:=by rw[List.take_add_one,h];rfl
theorem take_moreN {l:List Nd}{i:Nat}{x:Nd}(h:l[i]?=some x):l.take (i+1)=l.take i++[x]:=by rw[List.take_add_one,h];rfl
theorem sizeL_take9 (l:List Nd):∀ i,Y.sizeL (l.take i)≤Y.sizeL l:=by
 induction l with
 | nil=>intro i;simp
 | cons y t ih =>
  intro i
  cases i with
  | zero=>rw[List.take_zero,Y.sizeL];exact Nat.zero_le _
  | succ i=>rw[List.take_succ_cons,Y.sizeL,Y.sizeL];have:=ih i;omega
theorem str_at (w:World) (S:Nat→Prop) (x:ByteArray):strD.at_ w S (#[Value.string x]:Array Value).toList x:=rfl
def start2 (x:Nd):List ByteArray:=if x.kind=2 then [x.name] else []
set_option maxHeartbeats 8000000 in
theorem dnames_step {k:Nat}(ih:DNmK k) (hk5:k≤100000){x:Nd}(hsz:x.size≤k+1){w:World}{A:Option Addr}{n c:Nat}(ha:RdN w (Bl w) A n c x.kids) :
  Calls Tryz.prog 45 #[.agg #[.int .i64 x.kind,.string x.name,.int .i64 x.low,.int .i64 x.high,.slice A n c]] w (DNmP w (dNames x)):=by
 have hsm:=ha.small
 have hal:=ha.len
 have hks:=zm_ x
 have HE:Hid (dNames x=dNamesL (start2 x) x.kids):=by show _=_;cases x;rw[dNames];rfl
 have HLN:Hid (∀ j,(dNamesL (start2 x) (x.kids.take j)).length≤100001):=fun j=>by
  have h1:=(names_len k).2 (x.kids.take j) (by have:=sizeL_take9 x.kids j;omega) (start2 x)
  have h2:(start2 x).length≤1:=by unfold start2;by_cases hk:x.kind=2;(rw[if_pos hk];simp);(rw[if_neg hk];simp)
  have:=sizeL_take9 x.kids j
  omega
 have HP:=ha_ (qa_ w (.cells #[.int .i64 x.kind,.string x.name,.int .i64 x.low,.int .i64 x.high,.slice A n c] 77))
 have HROW:=ha_ (heap_alloc_new w (.cells #[.int .i64 x.kind,.string x.name,.int .i64 x.low,.int .i64 x.high,.slice A n c] 77))
 have hz:(w.alloc (.cells #[.int .i64 x.kind,.string x.name,.int .i64 x.low,.int .i64 x.high,.slice A n c] 77)).heap.size=w.heap.size+1:=by simp
 have HA:=ha_ (ha.bl HP.out)
 clear ha
 generalize hl:x.kids=l at *
 go_enter Tryz.func45,Tryz.ntmps45
 go_upto_region 2 with fail
 generalize hW1:w.alloc (.cells #[.int .i64 x.kind,.string x.name,.int .i64 x.low,.int .i64 x.high,.slice A n c] 77)=W1 at *
 clear hW1
 obtain ⟨r0,r1,r2,r3,r4⟩:=zt_ HROW.out
 go_upto_if 9 with fail
 go_cut [3] (fun v wx=>Hid (OwnG strD 9 wx W1.heap.size v (start2 x))∧Hid (Below W1.heap.size W1 wx))
 case first =>
  by_cases hk:x.kind=2
  ·have g:(x.kind == 2)=true:=beq_iff_eq.2 hk
   have HS2:Hid (start2 x=[x.name]):=if_pos hk
   have HBA:Hid (Below W1.heap.size W1 (W1.alloc (.cells #[.string x.name] 9))):=qa_ _ _
   have HRW:=ha_ (heap_alloc_new W1 (.cells #[.string x.name] 9))
   clear hk hz
   go_wp2_with (at_builtin;refine app_g (D:=strD) rfl _ _ 34 rfl Tryz.underlying34 info_str rfl (by decide) (by decide) rfl (OwnG.nil strD 9 _ W1.heap.size) W1.heap.size x.name #[.string x.name] 9 rfl HRW.out (str_at _ _ _) (Nat.zero_le _) HBA.out.size ?_;intro v5 w5 ho5 hg5)
   go_meet
   exact ⟨by rw[HS2.out];exact ho5,qe_ HBA.out hg5 (fun i hi=>by cases hi)⟩
  ·have g:(x.kind == 2)=false:=by rw[← Bool.not_eq_true,beq_iff_eq];exact hk
   have HS2:Hid (start2 x=[]):=if_neg hk
   clear hk
   go_wp2_with fail
   go_meet
   exact ⟨by rw[HS2.out];exact OwnG.nil _ _ _ _,Below.refl _ _⟩
 case rest =>
  obtain ⟨HO0,HB0⟩:=hcut
  have HSZ:Hid (w.heap.size<W1.heap.size):=by show _<_;omega
  clear hz r0 r1 r2 r3 r4
  go_upto_region 4 with fail
  rcases (⟨_,rfl⟩:∃ v,v=u3) with ⟨v3,rfl⟩
  go_wp2_with fail
  go_loopw [4,3] (fun iv ov wx=>∃ j:Nat,j≤n∧iv=.int .i64 j∧Hid (OwnG strD 9 wx W1.heap.size ov (dNamesL (start2 x) (l.take j)))∧Hid (Below W1.heap.size W1 wx)) (fun iv _ _=>n - (intOf iv).toNat)
  case atStart=>exact ⟨0,by omega,rfl,HO0.out,HB0.out⟩
  case round =>
   obtain ⟨j,hj,rfl,HO,HB⟩:=hrel
   rcases (⟨wr,rfl⟩:∃ WL:World,WL=wr) with ⟨WL,rfl⟩
   obtain ⟨r0,r1,r2,r3,r4⟩:=zt_ ((HB.out.block w.heap.size HSZ.out).trans HROW.out)
   by_cases hlt:j<n
   ·obtain ⟨b1,o1,y,A1,n1,c1,hA1,hb1,hy,hr1,s0,s1,s2,s3,s4⟩:=(HA.out.bl HB.out).got hlt
    subst hA1
    have HY:=ha_ hy
    have hysz:y.size≤k:=by have:=nd_size_mem hy;omega
    have hj0:(0:Int)≤(j:Int):=by omega
    have hj1:(j:Int)<(n:Int):=by omega
    have HC:=ha_ (ih y hysz WL A1 n1 c1 hr1)
    have HL1:Hid ((dNamesL (start2 x) (l.take j)).length≤100001∧(dNames y).length≤100000):=⟨HLN.out j,Nat.le_trans ((names_len k).1 y hysz) (by omega)⟩
    clear hy hr1 hb1 hysz
    go_wp2_with fail
    refine HC.out.mono ?_
    rintro en w2 ⟨A2,n2,c2,rfl,hr2,hb2⟩
    have hn2:=hr2.len
    have hsm2:=hr2.small
    have HR2:=ha_ hr2
    have HO2:=ha_ (HO.out.on hb2)
    have HB2:=ha_ (HB.out.trans (hb2.mono HB.out.size))
    have HBL:=ha_ HO.out.block
    have HSZ2:Hid (W1.heap.size≤WL.heap.size∧WL.heap.size≤w2.heap.size):=⟨HB.out.size,hb2.size⟩
    clear s0 s1 s2 s3 s4 r0 r1 r2 r3 r4 hr2 hb2 HC HO HB
    generalize hks2:dNames y=ks at *
    generalize hac:dNamesL (start2 x) (l.take j)=acc at *
    go_wp2_with fail
    go_loopw [6,3] (fun iv ov wx=>∃ i:Nat,i≤n2∧iv=.int .i64 i∧Hid (OwnG strD 9 wx W1.heap.size ov (putNames acc (ks.take i)))∧Hid (RdG strD wx (Nw WL w2) A2 n2 c2 ks)∧Hid (∀ b,ov.ownBlock=some b→b<WL.heap.size∨w2.heap.size≤b)∧Hid (Below W1.heap.size W1 wx)∧Hid (w2.heap.size≤wx.heap.size)) (fun iv _ _=>n2 - (intOf iv).toNat)
    case atStart=>exact ⟨0,by omega,rfl,HO2.out,HR2.out,fun b hb=>.inl (HBL.out b hb).2,HB2.out,Nat.le_refl _⟩
    case round =>
     obtain ⟨i,hi,rfl,HO,HK,HX,HB,HS⟩:=hrel
     rcases (⟨wr,rfl⟩:∃ WK:World,WK=wr) with ⟨WK,rfl⟩
     by_cases hlt2:i<n2
     ·obtain ⟨b1,o1,z,cs,hA1,hb1,hz1,hat,hc⟩:=HK.out.got hlt2
      subst hA1
      obtain rfl:cs=[.string z]:=hat
      have s0:=hc 0 _ rfl
      have hd:strD.k=1:=rfl
      rw[hd,Nat.mul_one,Nat.add_zero] at s0
      have HZ:=ha_ hz1
      have hi0:(0:Int)≤(i:Int):=by omega
      have hi1:(i:Int)<(n2:Int):=by omega
      obtain ⟨oA,oc,rfl,hrd⟩:=HO.out.rd
      have HC:=ha_ (dhas_any hrd z)
      clear hz1 hc hb1 hrd
      go_wp2_with fail
      refine HC.out.mono ?_
      rintro en w3 ⟨rfl,hb3⟩
      have s0' : w3.cell? ⟨b1,o1+i,none⟩=some (.string z):=qf_ hb3 (klt_of_cell s0) s0
      have HSZ3:Hid (w2.heap.size≤w3.heap.size∧W1.heap.size≤w3.heap.size):=⟨Nat.le_trans HS.out hb3.size,Nat.le_trans HB.out.size hb3.size⟩
      have HO3:=ha_ (HO.out.on hb3)
      have HK3:Hid (RdG strD w3 (Nw WL w2) (some ⟨b1,o1,none⟩) n2 c2 ks):=HK.out.keep (fun _ h=>h) fun p hp=>hb3.cell (Nat.lt_of_lt_of_le hp.2 HS.out)
      have HB3:=ha_ (HB.out.trans (hb3.mono HB.out.size))
      have HP2:=ha_ (put_len (ks.take i) acc)
      have HTK:=ha_ (take_more HZ.out)
      clear s0 hb3 HO HK HB HS HC
      cases hT:hasT (putNames acc (ks.take i)) z with
      | true =>
       have HE2:Hid (putNames acc (ks.take (i+1))=putNames acc (ks.take i)):=by
        show _=_
        rw[HTK.out,put_snoc,if_pos hT]
       clear HTK hT HP2
       go_wp2_with fail
       go_roundw
       case rel=>exact ⟨i+1,by omega,by go_num,by rw[HE2.out];exact HO3.out,HK3.out,HX.out,HB3.out,HSZ3.out.1⟩
       case measure=>simp[intOf];omega
      | false =>
       have HE2:Hid (putNames acc (ks.take (i+1))=putNames acc (ks.take i)++[z]):=by
        show _=_
        rw[HTK.out,put_snoc,if_neg (by rw[hT];simp)]
       have HLEN:Hid ((putNames acc (ks.take i)).length≤1000000):=by
        have h1:=HP2.out
        have h2:=HL1.out
        rw[List.length_take] at h1
        show _≤_
        omega
       have HBA:Hid (Below w3.heap.size w3 (w3.alloc (.cells #[.string z] 9))):=qa_ _ _
       have HRW:=ha_ (heap_alloc_new w3 (.cells #[.string z] 9))
       have HO4:=ha_ (HO3.out.on HBA.out)
       clear HTK hT HP2
       go_wp2_with (at_builtin;refine app_gh (D:=strD) rfl _ _ 34 rfl Tryz.underlying34 info_str rfl (by decide) (by decide) rfl HO4.out w3.heap.size z #[.string z] 9 rfl HRW.out (str_at _ _ _) HLEN.out (Nat.le_trans HSZ3.out.2 HBA.out.size) ?_;intro v5 w5 ho5 hg5 hv5)
       have HO5:Hid (OwnG strD 9 w5 W1.heap.size v5 (putNames acc (ks.take (i+1)))):=by rw[HE2.out];exact ho5
       have hz4:(w3.alloc (.cells #[.string z] 9)).heap.size=w3.heap.size+1:=by simp
       have HX5:Hid (∀ b,v5.ownBlock=some b→b<WL.heap.size∨w2.heap.size≤b):=fun b hb=>by
        rcases hv5 with e|e
        ·exact HX.out b (e ▸ hb)
        ·right
         rw[e] at hb
         have:=Option.some.inj hb
         have:=HSZ3.out.1
         omega
       have HK5:Hid (RdG strD w5 (Nw WL w2) (some ⟨b1,o1,none⟩) n2 c2 ks):=HK3.out.keep (fun _ h=>h) fun p hp=>by
        have hpb:p.block<w3.heap.size:=Nat.lt_of_lt_of_le hp.2 HSZ3.out.1
        have hne:¬ (Value.slice oA (putNames acc (ks.take i)).length oc).ownBlock=some p.block:=fun e=>by
         rcases HX.out p.block e with h|h
         ·exact absurd hp.1 (by omega)
         ·exact absurd hp.2 (by omega)
        exact (World.cell?_of_block (hg5.block p.block (by omega) (fun e=>hne e.symm))).trans (HBA.out.cell hpb)
       have HB5:Hid (Below W1.heap.size W1 w5):=qe_ (HB3.out.trans (HBA.out.mono HB3.out.size)) hg5 (fun b hb=>(HO4.out.block b hb).1)
       have HS5:Hid (w2.heap.size≤w5.heap.size):=Nat.le_trans HSZ3.out.1 (Nat.le_trans HBA.out.size hg5.size)
       clear ho5 hg5 hv5 HO3 HO4 HK3 HX HB3 HBA HRW HLEN HE2 s0'
       go_wp2_with fail
       go_roundw
       case rel=>exact ⟨i+1,by omega,by go_num,HO5.out,HK5.out,HX5.out,HB5.out,HS5.out⟩
       case measure=>simp[intOf];omega
     ·obtain rfl:i=n2:=by omega
      have HO5:Hid (OwnG strD 9 WK W1.heap.size u3 (dNamesL (start2 x) (l.take (j+1)))):=by
       show OwnG _ _ _ _ _ _
       have h:=HO.out
       rw[List.take_of_length_le (by omega)] at h
       rw[take_moreN HY.out,namesL_snoc,hac,hks2]
       exact h
      clear HO HK HX HS HR2 HO2 HB2
      go_wp2_with fail
      go_roundw
      case rel=>exact ⟨j+1,by omega,by go_num,HO5.out,HB.out⟩
      case measure=>simp[intOf];omega
   ·obtain rfl:j=n:=by omega
    have HE2:Hid (dNamesL (start2 x) (l.take j)=dNames x):=by
     show _=_
     rw[List.take_of_length_le (by omega),HE.out]
    obtain ⟨oA,oc,e3,hr⟩:=own_nw (w:=w) HO.out (Nat.le_of_lt HSZ.out)
    rw[HE2.out] at e3 hr
    obtain rfl:=e3
    have HR:=ha_ hr
    have HB9:Hid (Below w.heap.size w WL):=HP.out.trans (HB.out.mono HP.out.size)
    clear hr HO HB HE2 HE HLN
    go_wp2_with fail
    go_ret
    exact ⟨oA,_,oc,rfl,HR.out,HB9.out⟩
theorem dnames_all:∀ k:Nat,k≤100000→DNmK k:=by
 intro k
 induction k with
 | zero=>intro _ x h;have:=Nd.size_pos x;omega
 | succ k ih=>intro hk x hx w A n c ha;exact dnames_step (ih (by omega)) (by omega) hx ha
theorem dnames_any {x:Nd}(hx:x.size≤100000){w:World}{A:Option Addr}{n c:Nat}(ha:RdN w (Bl w) A n c x.kids) :
  Calls Tryz.prog 45 #[.agg #[.int .i64 x.kind,.string x.name,.int .i64 x.low,.int .i64 x.high,.slice A n c]] w (DNmP w (dNames x)):=dnames_all 100000 (Nat.le_refl _) x hx w A n c ha
end Go.Proofs.YtbbmjdddemahfaaGreat
