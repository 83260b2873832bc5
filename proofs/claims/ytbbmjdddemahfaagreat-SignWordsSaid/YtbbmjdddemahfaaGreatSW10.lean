/- Part of the proof. -/
import Derived.Test.YtbbmjdddemahfaaGreatSW07
import Derived.Test.YtbbmjdddemahfaaGreatSW09
set_option maxRecDepth 100000
namespace Go.Proofs.YtbbmjdddemahfaaGreat
open Go.RowKit
open M (Rg)
open Y (Nd It)

theorem dbs_eq (a b:ByteArray):(a.toList == b.toList)=decide (a=b):=by
 rw[Lib.toList_data,Lib.toList_data,Bool.eq_iff_iff,beq_iff_eq,decide_eq_true_eq]
 exact ⟨fun h=>ByteArray.ext (Array.ext' h),fun h=>by rw[h]⟩
theorem RdN.bl {w w' : World}{A:Option Addr}{n c:Nat}{l:List Nd}(h:RdN w (Bl w) A n c l) (hb:Below w.heap.size w w'):RdN w' (Bl w') A n c l :=
 h.keep (fun _ hi=>Nat.lt_of_lt_of_le hi hb.size) (fun _ hp=>hb.cell hp)
def plI:Option Nat→Int
 | none=>-1
 | some i=>i
theorem dret_i64 {a b:Int}(h:a=b):Ending.returned (.int .i64 a)=.returned (.int .i64 b):=by rw[h]
theorem find_none {α:Type}{p:α→Bool}{l:List α}(h:∀ (i:Nat) (x:α),l[i]?=some x→p x=false):l.findIdx? p=none:=by
 rw[List.findIdx?_eq_none_iff]
 intro x hx
 obtain ⟨i,hi⟩:=List.getElem?_of_mem hx
 exact h i x hi
theorem find_some {α:Type}{p:α→Bool}{l:List α}{k:Nat}{x:α}(hx:l[k]?=some x) (hp:p x=true) (h:∀ (i:Nat) (y:α),i<k→l[i]?=some y→p y=false):l.findIdx? p=some k:=by
 rw[List.findIdx?_eq_some_iff_getElem]
 obtain ⟨hk,e⟩:=List.getElem?_eq_some_iff.1 hx
 refine ⟨hk,by rw[e];exact hp,fun j hj=>?_⟩
 have:=h j _ hj (List.getElem?_eq_getElem (by omega))
 rw[this];simp
theorem var_cells {w:World}{S:Nat→Prop}{cs:List Value}{x:Vr}(h:varD.at_ w S cs x){b o:Nat}(hc:∀ j u,cs[j]?=some u→w.cell? ⟨b,o+j,none⟩=some u):∃ (sA:Option Addr) (sn sc:Nat) (gA:Option Addr) (gn gc:Nat) (A:Option Addr) (n c:Nat),PtIn w S sA sn sc gA gn gc A n c x.pat ∧
  w.cell? ⟨b,o,none⟩=some (.string x.name)∧w.cell? ⟨b,o+1,none⟩=some (.int .i64 x.pat.kind)∧w.cell? ⟨b,o+2,none⟩=some (.slice sA sn sc)∧w.cell? ⟨b,o+3,none⟩=some (.slice gA gn gc)∧w.cell? ⟨b,o+4,none⟩=some (.slice A n c)∧w.cell? ⟨b,o+5,none⟩=some (.bool x.set)∧w.cell? ⟨b,o+6,none⟩=some (.int .i64 x.pos):=by
 obtain ⟨ps,rfl,hp⟩:=h
 obtain ⟨sA,sn,sc,gA,gn,gc,A,n,c,rfl,hr⟩:=hp.inv
 exact ⟨sA,sn,sc,gA,gn,gc,A,n,c,hr,hc 0 _ rfl,hc 1 _ rfl,hc 2 _ rfl,hc 3 _ rfl,hc 4 _ rfl,hc 5 _ rfl,hc 6 _ rfl⟩
set_option maxHeartbeats 1000000 in
theorem dfind_any {w:World}{A:Option Addr}{n c:Nat}{l:List Vr}(h:RdG varD w (Bl w) A n c l) (s:ByteArray) :
  Calls Tryz.prog 91 #[.slice A n c,.string s] w (NumK w (plI (vrFind l s))):=by
 have hn:=h.len
 have hsm:=h.small
 have HG:=ha_ h
 clear h
 go_enter Tryz.func91,Tryz.ntmps91
 go_wp2_with fail
 go_loopw [5] (fun iv wx=>∃ j:Nat,j≤n∧iv=.int .i64 j∧Hid (∀ i x,i<j→l[i]?=some x→decide (x.name=s)=false)∧Hid (Below w.heap.size w wx)) (fun iv _=>n - (intOf iv).toNat)
 case atStart=>exact ⟨0,by omega,rfl,fun i x hi=>absurd hi (by omega),Below.refl _ _⟩
 case round =>
  obtain ⟨j,hj,rfl,HT,HB⟩:=hrel
  by_cases hlt:j<n
  ·obtain ⟨b1,o1,x,cs,hA,hb1,hx,hat,hc⟩:=(HG.out.on HB.out).got hlt
   subst hA
   obtain ⟨_,_,_,_,_,_,_,_,_,_,s0,s1,s2,s3,s4,s5,s6⟩:=var_cells hat hc
   have hd:varD.k=7:=rfl
   rw[hd] at s0 s1 s2 s3 s4 s5 s6
   have HX:=ha_ hx
   have hj0:(0:Int)≤(j:Int):=by omega
   have hj1:(j:Int)<(n:Int):=by omega
   clear hx hat hc hb1 s1 s2 s3 s4 s5 s6
   by_cases he:x.name=s
   ·have g:(x.name.toList == s.toList)=true:=by rw[dbs_eq];exact decide_eq_true he
    have HE:Hid (plI (vrFind l s)=(j:Int)):=by
     show _=_
     unfold vrFind
     rw[find_some HX.out (decide_eq_true he) fun i y hi hy=>HT.out i y hi hy]
     rfl
    clear HT HX he
    go_wp2_with fail
    go_ret
    exact ⟨dret_i64 HE.out.symm,HB.out⟩
   ·have g:(x.name.toList == s.toList)=false:=by rw[dbs_eq];exact decide_eq_false he
    have HT2:Hid (∀ i x,i<j+1→l[i]?=some x→decide (x.name=s)=false):=fun i y hi hy=>by
     by_cases hij:i<j
     ·exact HT.out i y hij hy
     ·obtain rfl:i=j:=by omega
      have e:=HX.out.symm.trans hy
      injection e with e
      subst e
      exact decide_eq_false he
    clear HT HX he
    go_wp2_with fail
    go_roundw
    case rel=>exact ⟨j+1,by omega,by go_num,HT2.out,HB.out⟩
    case measure=>simp[intOf];omega
  ·obtain rfl:j=n:=by omega
   have HE:Hid (plI (vrFind l s)=-1):=by
    show _=_
    unfold vrFind
    rw[find_none fun i x hx=>HT.out i x (by have:=(List.getElem?_eq_some_iff.1 hx).1;omega) hx]
    rfl
   clear HT
   go_wp2_with fail
   go_ret
   exact ⟨dret_i64 HE.out.symm,HB.out⟩
end Go.Proofs.YtbbmjdddemahfaaGreat
