/- Part of the proof. -/
import Derived.Test.YtbbmjdddemahfaaGreatSW37
import Derived.Test.YtbbmjdddemahfaaGreatSW33
set_option maxRecDepth 100000
namespace Go.Proofs.YtbbmjdddemahfaaGreat
open Go.RowKit
open Y (Nd It Ps nextP takeP failP noTok noName zeroN deepP formP itemP itemsP lineP lastP)

theorem tok_gd {Bs:List Int}{ts:List Tok}{x er:Int}(h:TokIs Bs ts x er):∀ t∈ts,Gd t:=by
 cases h with
 | dec=>intro t ht;simp at ht
 | bad=>intro t ht;simp at ht
 | ok cs ats x h us hl =>
  intro t ht
  unfold placed at ht
  obtain ⟨u,hu,rfl⟩:=List.mem_map.1 ht
  exact lex_gd cs.length cs (Nat.le_refl _) 0 0 [] us (fun u hu=>by simp at hu) hl u hu
theorem RdGe.dlen {X:Px}{b:Nat}{w:World}{s:Ps}(H:RdGe X b w s):dlen b w=left_ s:=by
 cases s with
 | live l=>exact RdF.dlen H
 | dead a y =>
  obtain ⟨hy,hv,h⟩:=H
  obtain ⟨c0,_,_,c3,c4⟩:=ql_ h
  unfold Proofs.YtbbmjdddemahfaaGreat.dlen
  rw[c0,c3,c4]
  show (if y=0 then _ else 0)=0
  rw[if_neg hy]
theorem RdGe.grown {X:Px}{b:Nat}{w w' : World}{s:Ps}{row:Option Nat}(H:RdGe X b w s) (hg:w.grownBy w' row) (hr:∀ i,row=some i→b<i):RdGe X b w' s:=by
 cases s with
 | live l=>exact RdF.grown H hg hr
 | dead a y =>
  obtain ⟨hy,hv,h⟩:=H
  exact ⟨hy,hv,(hg.block b (Array.getElem?_eq_some_iff.1 h).1 (fun e=>by have:=hr b e.symm;omega)).trans h⟩
structure ItemsD (X:Px) (b:Nat) (w:World) (N:Nat) (r:List It × Ps) (v:Value) (l:List It) (s:Ps) (m' : Nat) (wx:World):Prop where
 own:OwnI wx w.heap.size v l
 rd:RdGe X b wx s
 fe:Fe b w wx
 eq1:∀ ts,s=.live ts→r=itemsP X.e N m' l (.live ts)
 eq2:∀ a y,s=.dead a y→r.2=.dead a y
 fuel:∀ ts,s=.live ts→ts.length+1≤m'
 few:∀ ts,s=.live ts→10*ts.length+10≤N
 len:l.length≤100
theorem items_nil (e:Int) (N m:Nat) (l:List It):itemsP e N (m+1) l (.live [])=(l,.live []):=by rw[itemsP];exact if_pos rfl
theorem items_dead (e:Int) (N m:Nat) (l:List It) (a y:Int):itemsP e N (m+1) l (.dead a y)=(l,.dead a y):=by rw[itemsP];exact if_pos rfl
theorem items_next {e:Int}{N m:Nat}{l:List It}{t:Tok}{u:List Tok}{r:List It × Ps}{x:It}(hr:r=itemsP e N (m+1) l (.live (t :: u))) (hk:t.kind≠18) (hl:l.length≠100) (hm:(t :: u).length+1≤m+1){s:Ps}(hs:(itemP e N (.live (t :: u))).2=s) (hx:∀ ts,s=.live ts→x=(itemP e N (.live (t :: u))).1) :
  (∀ ts,s=.live ts→kAt ts=18∨ts=[]→r=itemsP e N (m+1) (l++[x]) (.live ts))∧(∀ a y,s=.dead a y→r.2=.dead a y)∧(∀ ts,s=.live ts→kAt ts≠18→ts≠[]→r.2=failP e 4 (.live ts)):=by
 have hn18:nextP [18] (.live (t :: u))=false:=by
  rw[Y.next_cons]
  simp only[List.contains_cons,List.contains_nil,Bool.or_false,beq_eq_false_iff_ne];exact hk
 have hre:r=itemsP e N m (l++[(itemP e N (.live (t :: u))).1]) (lineP e s):=by
  rw[hr,itemsP,if_neg (by simp[Ps.toks]),if_neg (by rw[hn18];decide),if_neg hl,hs]
 simp only[List.length_cons] at hm
 obtain ⟨m2,rfl⟩:∃ m2,m=m2+1:=⟨m - 1,by omega⟩
 refine ⟨fun ts e1 h18=>?_,fun a y e1=>?_,fun ts e1 h18 hne=>?_⟩
 ·rw[hre,← hx ts e1,e1]
  rcases h18 with h18|rfl
  ·cases ts with
   | nil=>exact absurd h18 (by decide)
   | cons t2 u2 =>
    have h18' : t2.kind=18:=h18
    have hc:[18].contains t2.kind=true:=by rw[h18'];decide
    have h1:lineP e (.live (t2 :: u2))=.live u2:=by
     unfold Y.lineP
     rw[if_neg (by simp[Ps.toks]),zn_ hc]
    rw[h1]
    conv=>rhs;rw[itemsP,if_neg (by simp[Ps.toks]),if_pos (by rw[Y.next_cons];exact hc),zn_ hc]
  ·have h1:lineP e (.live [])=.live []:=rfl
   rw[h1]
   rw[items_nil,items_nil]
 ·rw[hre,e1]
  have h1:lineP e (.dead a y)=.dead a y:=rfl
  rw[h1,items_dead]
 ·rw[hre,e1]
  cases ts with
  | nil=>exact absurd rfl hne
  | cons t2 u2 =>
   have h18' : t2.kind≠18:=h18
   have h1:lineP e (.live (t2 :: u2))=.dead t2.pos 4:=by
    unfold Y.lineP
    rw[if_neg (by simp[Ps.toks]),Y.take_cons,if_neg (by simp only[List.contains_cons,List.contains_nil,Bool.or_false,beq_iff_eq];exact h18')]
   rw[h1,items_dead];rfl
theorem RdGe.live_any {X:Px}{b:Nat}{w:World}{l:List Tok}(H:RdGe X b w (.live l)):∃ h,Rdd X b w 0 (.live l) h:=H
theorem ditem_live {X:Px}{b:Nat}{w:World}{l:List Tok}{h:Nat}(H:Rdd X b w 0 (.live l) h) (hne:l≠[]){N:Nat}(hm:10*l.length+10≤N) (hlive:∀ a y,(itemP X.e N (.live l)).2≠.dead a y) (hno:∀ t∈X.T,t.kind≠19) :
  Calls Tryz.prog 42 #[.pointer (some ⟨b,0,none⟩)] w (PIQ X b w (itemP X.e N (.live l))):=by
 cases l with
 | nil=>exact absurd rfl hne
 | cons t u =>
  have hmem:t∈X.T:=by
   rcases H.st with ⟨e,_⟩|⟨a,y,e,_⟩
   ·injection e with e
    exact List.mem_of_mem_drop (e ▸ List.mem_cons_self)
   ·cases e
  obtain ⟨tk,tt,tlo,thi,tp⟩:=t
  have hfl:∀ v:List Tok,∃ a y,failP X.e 4 (.live v)=.dead a y:=fun v=>by cases v <;> exact ⟨_,_,rfl⟩
  have hfd:∀ (m:Nat) (a y:Int),∃ a' y', (formP X.e N m (.dead a y)).2=.dead a' y' := fun m a y=>⟨a,y,(Y.dead_all (e:=X.e) N).form m a y⟩
  by_cases h19:tk=19
  ·exact absurd h19 (hno _ hmem)
  ·by_cases h01:tk=1
   ·by_cases h3:kAt u=3
    ·exact ditem_name H hm rfl h01 h3
    ·exfalso
     subst h01
     have hn:nextP [3] (.live u)=false:=by
      cases u with
      | nil=>rfl
      | cons t2 u2 =>
       rw[Y.next_cons]
       simp only[List.contains_cons,List.contains_nil,Bool.or_false,beq_eq_false_iff_ne]
       exact h3
     have hr:(itemP X.e N (.live (⟨1,tt,tlo,thi,tp⟩ :: u))).2=(formP X.e N 0 (takeP X.e [3] (.live u)).2).2:=rfl
     obtain ⟨fa,fy,hfe⟩:=hfl u
     rw[take_no hn,hfe] at hr
     obtain ⟨a,y,e⟩:=hfd 0 fa fy
     exact hlive a y (hr.trans e)
   ·by_cases h02:tk=2
    ·have hr:(itemP X.e N (.live (⟨tk,tt,tlo,thi,tp⟩ :: u))).2=(formP X.e N 0 (takeP X.e [4,5] (formP X.e N 0 (.live u)).2).2).2:=by subst h02;rfl
     cases hf:(formP X.e N 0 (.live u)).2 with
     | dead a y =>
      rw[hf] at hr
      obtain ⟨a', y', e⟩:=hfd 0 a y
      exact absurd (hr.trans e) (hlive a' y')
     | live l2 =>
      by_cases h4:kAt l2=4
      ·exact ditem_stay H hm rfl h02 ⟨l2,hf,h4⟩
      ·by_cases h5:kAt l2=5
       ·exact ditem_cut H hm rfl h02 ⟨l2,hf,h5⟩
       ·exfalso
        have hn:nextP [4,5] (.live l2)=false:=by
         cases l2 with
         | nil=>rfl
         | cons t2 u2 =>
          rw[Y.next_cons]
          simp only[List.contains_cons,List.contains_nil,Bool.or_false,Bool.or_eq_false_iff,beq_eq_false_iff_ne]
          exact ⟨h4,h5⟩
        obtain ⟨fa,fy,hfe⟩:=hfl l2
        rw[hf,take_no hn,hfe] at hr
        obtain ⟨a,y,e⟩:=hfd 0 fa fy
        exact hlive a y (hr.trans e)
    ·exfalso
     have hc:[1,2,19].contains tk=false:=by
      simp only[List.contains_cons,List.contains_nil,Bool.or_false,Bool.or_eq_false_iff,beq_eq_false_iff_ne]
      exact ⟨h01,h02,h19⟩
     have ht:takeP X.e [1,2,19] (.live (⟨tk,tt,tlo,thi,tp⟩ :: u))=(noTok,.dead tp 4):=by rw[Y.take_cons,if_neg (by rw[hc];decide)]
     exact hlive tp 4 (by unfold Y.itemP;rw[ht];rfl)
set_option maxHeartbeats 4000000 in
theorem pofl_any {w:World}{A:Option Addr}{n c:Nat}{Bs:List Int}(h:RdK .u8 w w.heap.size A n c Bs) (hOf:Calls Tryz.prog 39 #[.slice A n c] w (OfP5 w Bs)) (hBl:Bs.length≤3000) (N M:Nat) (hN:10*Bs.length+10≤N) (hM:Bs.length+1≤M) (hG:∀ ts x,TokIs Bs ts x 0→(∀ a y,(itemsP (n:Int) N M [] (.live ts)).2≠.dead a y)∧∀ t∈ts,t.kind≠19∧t.kind≠6∧t.kind≠12∧t.kind≠16∧t.kind≠17) :
  Calls Tryz.prog 21 #[.slice A n c] w fun en w' => ∃ r,ItemsIs Bs N M r∧AllQ w r en w' := by
 have hn:=h.len
 have HC:=hd_ hOf
 clear h hOf
 go_enter Tryz.func21,Tryz.ntmps21
 go_wp2_with fail
 refine HC.out.mono ?_
 rintro en w2 ⟨A5,n5,c5,ts,x,er,rfl,hr,hti,hb2⟩
 by_cases he:er=0
 ·subst he
  have hfew:=tok_few hti
  have HI:Hid (ItemsIs Bs N M (allS (n:Int) N M ts)):=by rw[← hn];exact .ok ts x hti
  have HB2:=hd_ hb2
  have hGG:=hG ts x hti
  obtain ⟨X,hX⟩:∃ X:Px,X=⟨A5,n5,c5,ts,(n:Int),fun t ht=>(hGG.2 t ht).2⟩:=⟨_,rfl⟩
  have htl:=hr.len
  have HW1:=hd_ (qa_ w2 (.cells #[.slice A5 n5 c5,.int .i64 n,.int .i64 0,.int .i64 0,.int .i64 0] 91))
  have HR1:Hid (Rdd X w2.heap.size (w2.alloc (.cells #[.slice A5 n5 c5,.int .i64 n,.int .i64 0,.int .i64 0,.int .i64 0] 91)) 0 (.live ts) 0):=by
   rw[hX]
   exact ⟨heap_alloc_new w2 _,hr.keep (fun p hp=>World.cell?_alloc_lt w2 _ p hp),.inl ⟨rfl,Nat.zero_le _⟩,by show n5≤4000;omega,tok_gd hti⟩
  obtain ⟨k,hk⟩:∃ k,itemsP X.e N M [] (.live ts)=k:=⟨_,rfl⟩
  have HK:Hid (allS (n:Int) N M ts=match lastP X.e k.2 with | .live _=>(k.1,-1,0) | .dead a y=>([],a,y)):=by
   show _=_
   subst hX
   rw[← hk]
   rfl
  have HKL:Hid ((∀ a y,k.2≠.dead a y)∧∀ t∈X.T,t.kind≠19):=by
   have h9:(∀ a y,(itemsP (n:Int) N M [] (.live ts)).2≠.dead a y)∧∀ t∈ts,t.kind≠19:=⟨hGG.1,fun t ht=>(hGG.2 t ht).1⟩
   subst hX
   rw[← hk]
   exact h9
  have hz1:(w2.alloc (.cells #[.slice A5 n5 c5,.int .i64 n,.int .i64 0,.int .i64 0,.int .i64 0] 91)).heap.size=w2.heap.size+1:=by simp
  have HST:Hid (ItemsD X w2.heap.size (w2.alloc (.cells #[.slice A5 n5 c5,.int .i64 n,.int .i64 0,.int .i64 0,.int .i64 0] 91)) N k (.slice none 0 0) [] (.live ts) M (w2.alloc (.cells #[.slice A5 n5 c5,.int .i64 n,.int .i64 0,.int .i64 0,.int .i64 0] 91))) :=
   ⟨OwnI.nil _ _,⟨0,HR1.out⟩,Fe.refl _ _,fun ts' e=>(by cases e;exact hk.symm),fun a y e=>(by cases e),fun ts' e=>(by cases e;omega),fun ts' e=>(by cases e;omega),by simp⟩
  have hXn:X.n=n5:=by rw[hX]
  have hXA:X.A=A5:=by rw[hX]
  have hXc:X.c=c5:=by rw[hX]
  clear hr hti hb2 HC hX hk HR1 hGG
  subst hXn hXA hXc
  go_wp2_with fail
  change Code.wp _ _ _ _ (w2.alloc (.cells #[.slice X.A X.n X.c,.int .i64 n,.int .i64 0,.int .i64 0,.int .i64 0] 91))
  generalize w2.alloc (.cells #[.slice X.A X.n X.c,.int .i64 n,.int .i64 0,.int .i64 0,.int .i64 0] 91)=W1 at *
  have HB1:Hid (∀ W,Fe w2.heap.size W1 W→Below w.heap.size w W):=fun W hf=>HB2.out.trans ((HW1.out.trans ⟨hf.os,hf.tape,hf.output,hf.size,fun i hi=>hf.block i (by omega) (by omega)⟩).mono HB2.out.size)
  have hbs:=HB2.out.size
  generalize w2.heap.size=b at *
  clear HW1 HB2 hn hN hM hfew htl
  go_loopw [9] (fun v wx=>∃ (l:List It) (s' : Ps) (m' : Nat),Hid (ItemsD X b W1 N k v l s' m' wx)) (fun _ wx=>dlen b wx)
  case atStart=>exact ⟨[],.live ts,M,HST.out⟩
  case round =>
   obtain ⟨l,s', m', HM⟩:=hrel
   clear HST
   have hlen:=HM.out.len
   have hszr:=HM.out.fe.size
   obtain ⟨A,c,rfl,hv⟩:=HM.out.own.rd
   have HV:=hd_ hv
   obtain ⟨hvv,d0,d1,d2,d3,d4⟩:=HM.out.rd.cells
   clear hv
   cases s' with
   | dead a y =>
    replace d3:wr.cell? ⟨b,3,none⟩=some (.int .i64 y):=d3
    replace d2:wr.cell? ⟨b,2,none⟩=some (.int .i64 a):=d2
    have hy:y≠0:=HM.out.rd.1
    have g1:(y == 0)=false:=by simpa using hy
    have g1' : (y != 0)=true:=by simpa using hy
    have hk2:k.2=.dead a y:=HM.out.eq2 a y rfl
    have hall:allS (n:Int) N M ts=([],a,y):=by rw[HK.out,hk2];rfl
    have HE:Hid (∀ q,∃ r,ItemsIs Bs N M r∧AllQ w r (.returned (.tuple #[.slice none 0 0,.int .i64 a,.int .i64 y])) (wr.drewN q)):=fun q=>⟨_,HI.out,by rw[hall];exact ⟨none,0,rfl,RdI6.nil _ _,qb_ (HB1.out _ HM.out.fe) q⟩⟩
    clear hy hk2 hall HI HK HM HV d0 d1 d4
    go_wp2_with fail
    go_quiet (fail)
    go_wp2_with fail
    exact bodyPost_ret (v:=.tuple #[.slice none 0 0,.int .i64 a,.int .i64 y]) (by simp[results,Tryz.results21,go_sem]) rfl (HE.out _)
   | live ts' =>
    replace d3:wr.cell? ⟨b,3,none⟩=some (.int .i64 0):=d3
    obtain ⟨hh,hrd⟩:=HM.out.rd.live_any
    have HRD:=hd_ hrd
    obtain ⟨_,_,_,_,e4⟩:=hrd.cells
    have hll:=hrd.live.2.2
    have hhl:=hrd.live.2.1
    have f4:=hrd.fr 4
    have hle:=hrd.le
    clear d0 d1 d2 d4 hrd
    by_cases hnil:ts' = []
    ·subst hnil
     simp only[List.length_nil] at hll
     have hge:(X.n:Int)≤(hh:Int):=by omega
     have hk2:k=(l,.live []):=by
      have h1:=HM.out.eq1 _ rfl
      obtain ⟨m1,rfl⟩:∃ m1,m' = m1+1:=⟨m' - 1,by have:=HM.out.fuel _ rfl;omega⟩
      rw[h1,items_nil]
     have hall:allS (n:Int) N M ts=(l,-1,0):=by rw[HK.out,hk2];rfl
     have HE:Hid (∃ r,ItemsIs Bs N M r∧AllQ w r (.returned (.tuple #[.slice A l.length c,.int .i64 (-1),.int .i64 0])) wr):=⟨_,HI.out,by rw[hall];exact ⟨A,c,rfl,HV.out.keep (fun i hi=>⟨by have:=hi.1;omega,hi.2⟩) (fun _ _=>rfl),HB1.out _ HM.out.fe⟩⟩
     clear hll hk2 hall HI HK HM HV HRD hhl
     go_wp2_with fail
     exact bodyPost_ret (v:=.tuple #[.slice A l.length c,.int .i64 (-1),.int .i64 0]) (by simp[results,Tryz.results21,go_sem]) rfl HE.out
    ·obtain ⟨t,u,rfl⟩:∃ t u,ts' = t :: u:=by
      cases ts' with
      | nil=>exact absurd rfl hnil
      | cons t u=>exact ⟨t,u,rfl⟩
     have hlt1:(hh:Int)<(X.n:Int):=by simp only[List.length_cons] at hll;omega
     have hfu:=HM.out.fuel _ rfl
     have hfN:=HM.out.few _ rfl
     have HKD:Hid (Calls Tryz.prog 40 #[.pointer (some ⟨b,0,none⟩)] wr (KindD wr t.kind)):=qk_ HRD.out
     obtain ⟨m1,rfl⟩:∃ m1,m' = m1+1:=⟨m' - 1,by omega⟩
     clear hnil hll
     by_cases h18:t.kind=18
     ·have hc:[18].contains t.kind=true:=by rw[h18];decide
      have HKN:Hid (k=itemsP X.e N m1 l (.live u)):=by
       show _=_
       rw[HM.out.eq1 _ rfl,itemsP,if_neg (by simp[Ps.toks]),if_pos (by rw[Y.next_cons];exact hc),zn_ hc]
      rw[h18] at HKD
      clear hc h18
      go_wp2_with fail
      refine HKD.out.mono ?_
      rintro e w7 ⟨rfl,q9,rfl⟩
      have HR7:=hd_ (HRD.out.drewN q9)
      have HO7:Hid (OwnI (wr.drewN q9) W1.heap.size (.slice A l.length c) l):=HM.out.own.keep (Nat.le_refl _) (fun _ _ _=>rfl)
      have HF7:Hid (Fe b W1 (wr.drewN q9)):=HM.out.fe.drewN q9
      have HDL:Hid (dlen b wr=u.length+1+1):=HM.out.rd.dlen
      clear e4 f4 d3 HKD HRD HM HV
      generalize wr.drewN q9=W7 at *
      obtain ⟨_,_,_,_,e4⟩:=HR7.out.cells
      have f4:=HR7.out.fr 4
      have HR8:Hid (Rdd X b (W7.setCell ⟨b,4,none⟩ (.int .i64 ((hh:Int)+1))) 0 (.live u) (hh+1)):=HR7.out.next rfl
      simp only[List.length_cons] at hfu hfN
      have hbW:b<W1.heap.size:=by omega
      have HD:Hid (ItemsD X b W1 N k (.slice A l.length c) l (.live u) m1 (W7.setCell ⟨b,4,none⟩ (.int .i64 ((hh:Int)+1)))) :=
       ⟨HO7.out.keep (by simp) (fun i hi _=>Below.heap_setCell _ _ _ _ (by show i≠b;omega)),⟨_,HR8.out⟩,HF7.out.set (.inl rfl) _ _,fun ts e=>(by cases e;exact HKN.out),fun a y e=>(by cases e),fun ts e=>(by cases e;omega),fun ts e=>(by cases e;omega),hlen⟩
      clear HR7 HR8 HO7 HF7 HKN
      go_wp2_with fail
      go_roundw
      case rel=>exact ⟨l,.live u,m1,HD.out⟩
      case measure=>show dlen b _<dlen b wr;rw[HD.out.rd.dlen,HDL.out];show u.length+1<_;omega
     ·have g18:(t.kind == 18)=false:=by simpa using h18
      by_cases h100:l.length=100
      ·have HKN:Hid (k.2=failP X.e 9 (.live (t :: u))):=by
        show _=_
        have hn18:nextP [18] (.live (t :: u))=false:=by
         rw[Y.next_cons]
         simp only[List.contains_cons,List.contains_nil,Bool.or_false,beq_eq_false_iff_ne];exact h18
        rw[HM.out.eq1 _ rfl,itemsP,if_neg (by simp[Ps.toks]),if_neg (by rw[hn18];decide),if_pos h100]
       have HFA:Hid (∀ q,Calls _ _ _ _ (SayD X b (wr.drewN q) 0 (failP X.e 9 (.live (t :: u))))):=fun q=>pfail_any (HRD.out.drewN q) (y:=9) (by decide) (by omega) (fun h=>by cases h)
       have HDL:Hid (dlen b wr=u.length+1+1):=HM.out.rd.dlen
       have hL1:((l.length:Int) == 100)=true:=by rw[h100];decide
       clear h18 h100
       generalize t.kind=tk at *
       go_wp2_with fail
       refine HKD.out.mono ?_
       rintro e w7 ⟨rfl,q9,rfl⟩
       go_wp2_with fail
       refine (HFA.out q9).mono ?_
       rintro e w8 ⟨rfl,hr8,hf8⟩
       have hbW:b<W1.heap.size:=by omega
       have HD:Hid (ItemsD X b W1 N k (.slice A l.length c) l (.dead t.pos 9) m1 w8) :=
        ⟨HM.out.own.keep hf8.size (fun i hi h2=>hf8.block i h2 (by omega)),hr8.g,(HM.out.fe.drewN q9).trans hf8,fun ts e=>(by cases e),fun a y e=>(by cases e;exact HKN.out),fun ts e=>(by cases e),fun ts e=>(by cases e),hlen⟩
       clear hr8 hf8 HM HV HKN HFA HRD d3 e4 f4 HKD
       go_wp2_with fail
       go_roundw
       case rel=>exact ⟨l,.dead t.pos 9,m1,HD.out⟩
       case measure=>show dlen b _<dlen b wr;rw[HD.out.rd.dlen,HDL.out];show 0<_;omega
      ·have hL0:((l.length:Int) == 100)=false:=by simp only[beq_eq_false_iff_ne];omega
       have HC:Hid (∀ q,Calls Tryz.prog 42 #[.pointer (some ⟨b,0,none⟩)] (wr.drewN q) (PIQ X b (wr.drewN q) (itemP X.e N (.live (t :: u))))):=fun q=>ditem_live (HRD.out.drewN q) (by simp) hfN (fun a y e=>HKL.out.1 a y ((items_next (x:=(itemP X.e N (.live (t :: u))).1) (HM.out.eq1 _ rfl) h18 h100 hfu e (fun ts e2=>by cases e2)).2.1 a y rfl)) HKL.out.2
       have hless:=item_less X.e N (.live (t :: u)) (by simp[Ps.toks])
       have HNX:Hid (∀ x,(∀ ts,(itemP X.e N (.live (t :: u))).2=.live ts→x=(itemP X.e N (.live (t :: u))).1)→_):=fun x hx=>items_next (x:=x) (HM.out.eq1 _ rfl) h18 h100 hfu rfl hx
       have HDL:Hid (dlen b wr=u.length+1+1):=HM.out.rd.dlen
       replace hless:(itemP X.e N (.live (t :: u))).2.toks.length<u.length+1:=hless
       simp only[List.length_cons] at hfu hfN
       have hbW:b<W1.heap.size:=by omega
       clear h18
       generalize itemP X.e N (.live (t :: u))=g at *
       generalize t.kind=tk at *
       go_wp2_with fail
       refine HKD.out.mono ?_
       rintro e w7 ⟨rfl,q9,rfl⟩
       go_wp2_with fail
       refine (HC.out q9).mono ?_
       rintro en w4 ⟨v,x,rfl,⟨Ab,nb,cb,Aa,na,ca,rfl,hv1,hv2⟩,hx,hr4,hf4⟩
       have HNX2:=hd_ (HNX.out x hx)
       have hob:=HM.out.own.block
       have HF4:Hid (Fe b wr w4):=((Fe.refl b wr).drewN q9).trans hf4
       have hs4:=HF4.out.size
       have hp5:=qa_ w4 (.cells #[.int .i64 x.kind,.string x.name,.int .i64 x.number,.bool x.cut,.int .i64 x.before.kind,.string x.before.name,.int .i64 x.before.low,.int .i64 x.before.high,.slice Ab nb cb,.int .i64 x.after.kind,.string x.after.name,.int .i64 x.after.low,.int .i64 x.after.high,.slice Aa na ca,.int .i64 x.pos] 79)
       have HROW:=hd_ (heap_alloc_new w4 (.cells #[.int .i64 x.kind,.string x.name,.int .i64 x.number,.bool x.cut,.int .i64 x.before.kind,.string x.before.name,.int .i64 x.before.low,.int .i64 x.before.high,.slice Ab nb cb,.int .i64 x.after.kind,.string x.after.name,.int .i64 x.after.low,.int .i64 x.after.high,.slice Aa na ca,.int .i64 x.pos] 79))
       have HR5:=hd_ (hr4.below hp5)
       have HF5:=hd_ (HF4.out.trans (Fe.of_below hp5))
       have hz5:(w4.alloc (.cells #[.int .i64 x.kind,.string x.name,.int .i64 x.number,.bool x.cut,.int .i64 x.before.kind,.string x.before.name,.int .i64 x.before.low,.int .i64 x.before.high,.slice Ab nb cb,.int .i64 x.after.kind,.string x.after.name,.int .i64 x.after.low,.int .i64 x.after.high,.slice Aa na ca,.int .i64 x.pos] 79)).heap.size=w4.heap.size+1:=by simp
       have HO5:Hid (OwnI (w4.alloc (.cells #[.int .i64 x.kind,.string x.name,.int .i64 x.number,.bool x.cut,.int .i64 x.before.kind,.string x.before.name,.int .i64 x.before.low,.int .i64 x.before.high,.slice Ab nb cb,.int .i64 x.after.kind,.string x.after.name,.int .i64 x.after.low,.int .i64 x.after.high,.slice Aa na ca,.int .i64 x.pos] 79)) W1.heap.size (.slice A l.length c) l):=HM.out.own.keep HF5.out.size (fun i h1 h2=>HF5.out.block i h2 (by omega))
       have hS:∀ i,In (wr.drewN q9).heap.size w4.heap.size i→(W1.heap.size≤i∧i<(w4.alloc (.cells #[.int .i64 x.kind,.string x.name,.int .i64 x.number,.bool x.cut,.int .i64 x.before.kind,.string x.before.name,.int .i64 x.before.low,.int .i64 x.before.high,.slice Ab nb cb,.int .i64 x.after.kind,.string x.after.name,.int .i64 x.after.low,.int .i64 x.after.high,.slice Aa na ca,.int .i64 x.pos] 79)).heap.size∧(Value.slice A l.length c).ownBlock≠some i):=fun i hi=>⟨by have h1:wr.heap.size≤i:=hi.1;omega,by have:=hi.2;omega,fun e=>by have:=(hob i e).2;have h1:wr.heap.size≤i:=hi.1;omega⟩
       have HIT:Hid (ItAt (w4.alloc (.cells #[.int .i64 x.kind,.string x.name,.int .i64 x.number,.bool x.cut,.int .i64 x.before.kind,.string x.before.name,.int .i64 x.before.low,.int .i64 x.before.high,.slice Ab nb cb,.int .i64 x.after.kind,.string x.after.name,.int .i64 x.after.low,.int .i64 x.after.high,.slice Aa na ca,.int .i64 x.pos] 79)) (fun i=>W1.heap.size≤i∧i<(w4.alloc (.cells #[.int .i64 x.kind,.string x.name,.int .i64 x.number,.bool x.cut,.int .i64 x.before.kind,.string x.before.name,.int .i64 x.before.low,.int .i64 x.before.high,.slice Ab nb cb,.int .i64 x.after.kind,.string x.after.name,.int .i64 x.after.low,.int .i64 x.after.high,.slice Aa na ca,.int .i64 x.pos] 79)).heap.size∧(Value.slice A l.length c).ownBlock≠some i) (itC x Ab nb cb Aa na ca) x) :=
        ⟨Ab,nb,cb,Aa,na,ca,rfl,hv1.keep hS (fun p hp=>hp5.cell hp.2),hv2.keep hS (fun p hp=>hp5.cell hp.2)⟩
       have hl6:l.length≤1000000:=by omega
       have HOB:=hd_ hob
       have hbs5:W1.heap.size≤(w4.alloc (.cells #[.int .i64 x.kind,.string x.name,.int .i64 x.number,.bool x.cut,.int .i64 x.before.kind,.string x.before.name,.int .i64 x.before.low,.int .i64 x.before.high,.slice Ab nb cb,.int .i64 x.after.kind,.string x.after.name,.int .i64 x.after.low,.int .i64 x.after.high,.slice Aa na ca,.int .i64 x.pos] 79)).heap.size:=by omega
       have hl99:(l++[x]).length≤100:=by simp;omega
       clear hv1 hv2 hr4 hf4 hp5 hS HC HF4 hob d3 e4 f4 HKD HRD hx HNX HV hlt1 hL0 h100
       unfold itV
       cases hg2:g.2 with
       | dead a y =>
        rw[hg2] at HR5 hless HNX2
        have hy:y≠0:=HR5.out.1
        have g1:(y == 0)=false:=by simpa using hy
        go_wp2_with (at_builtin;refine app_i rfl _ _ rfl W1.heap.size (.slice A l.length c) l rfl HO5.out w4.heap.size x Ab nb cb Aa na ca rfl HROW.out HIT.out hl6 hbs5 ?_;intro v5 w5 ho5 hg5;have hR6:=HR5.out.grown hg5 (fun i hi=>(by have:=(HOB.out i hi).1;omega));have HD:Hid (ItemsD X b W1 N k v5 (l++[x]) (.dead a y) m1 w5):=⟨ho5,hR6,(HM.out.fe.trans HF5.out).grown hg5 (fun i hi=>(HOB.out i hi).1),fun ts e=>(by cases e),fun a' y' e=>(by cases e;exact HNX2.out.2.1 a y rfl),fun ts e=>(by cases e),fun ts e=>(by cases e),hl99⟩;obtain ⟨_,_,_,_,d3,_⟩:=hR6.cells;replace d3:w5.cell? ⟨b,3,none⟩=some (.int .i64 y):=d3;clear ho5 hg5 hR6 HR5 HF5 HO5 HIT HROW HOB HM HNX2)
        go_roundw
        case rel=>exact ⟨_,_,_,HD.out⟩
        case measure=>show dlen b _<dlen b wr;rw[HD.out.rd.dlen,HDL.out];show 0<_;omega
       | live l2 =>
        rw[hg2] at HR5 hless HNX2
        replace hless:l2.length<u.length+1:=hless
        have happ:∀ v5 w5,OwnI w5 W1.heap.size v5 (l++[x])→(w4.alloc (.cells #[.int .i64 x.kind,.string x.name,.int .i64 x.number,.bool x.cut,.int .i64 x.before.kind,.string x.before.name,.int .i64 x.before.low,.int .i64 x.before.high,.slice Ab nb cb,.int .i64 x.after.kind,.string x.after.name,.int .i64 x.after.low,.int .i64 x.after.high,.slice Aa na ca,.int .i64 x.pos] 79)).grownBy w5 (Value.slice A l.length c).ownBlock→∃ hq,Rdd X b w5 0 (.live l2) hq∧OwnI w5 W1.heap.size v5 (l++[x])∧Fe b W1 w5:=fun v5 w5 ho5 hg5=>by
         obtain ⟨hq,hq2⟩:=HR5.out.grown hg5 (fun i hi=>(by have:=(HOB.out i hi).1;omega))
         exact ⟨hq,hq2,ho5,(HM.out.fe.trans HF5.out).grown hg5 (fun i hi=>(HOB.out i hi).1)⟩
        have HAPP:=hd_ happ
        clear happ HF5 HR5
        by_cases hk18:kAt l2=18∨l2=[]
        ·have HND:Hid (∀ v5 w5 q,OwnI w5 W1.heap.size v5 (l++[x])→Fe b W1 w5→(∃ hq,Rdd X b w5 0 (.live l2) hq)→ItemsD X b W1 N k v5 (l++[x]) (.live l2) (m1+1) (w5.drewN q)):=fun v5 w5 q ho hf hr=>⟨ho.keep (Nat.le_refl _) (fun _ _ _=>rfl),by obtain ⟨hq,hr⟩:=hr;exact ⟨hq,hr.drewN q⟩,hf.drewN q,fun ts e=>by cases e;exact HNX2.out.1 l2 rfl hk18,fun a y e=>(by cases e),fun ts e=>(by cases e;omega),fun ts e=>(by cases e;omega),hl99⟩
         rcases hk18 with hk18|hk18
         ·clear HNX2
          go_wp2_with (at_builtin;refine app_i rfl _ _ rfl W1.heap.size (.slice A l.length c) l rfl HO5.out w4.heap.size x Ab nb cb Aa na ca rfl HROW.out HIT.out hl6 hbs5 ?_;intro v5 w5 ho5 hg5;obtain ⟨hq,hq2,hq3,hq4⟩:=HAPP.out v5 w5 ho5 hg5;obtain ⟨_,_,_,d3,_⟩:=hq2.cells;replace d3:w5.cell? ⟨b,3,none⟩=some (.int .i64 0):=d3;have HKD2:=hd_ (qk_ hq2);rw[hk18] at HKD2;have HQ2:=hd_ hq2;have HQ3:=hd_ hq3;have HQ4:=hd_ hq4;clear ho5 hg5 hq2 hq3 hq4 HO5 HIT HROW HOB HM HAPP)
          refine HKD2.out.mono ?_
          rintro e w7 ⟨rfl,q8,rfl⟩
          have HD:=hd_ (HND.out _ _ q8 HQ3.out HQ4.out ⟨_,HQ2.out⟩)
          clear HND HQ2 HQ3 HQ4 HKD2 d3
          go_wp2_with fail
          go_roundw
          case rel=>exact ⟨_,_,_,HD.out⟩
          case measure=>show dlen b _<dlen b wr;rw[HD.out.rd.dlen,HDL.out];show l2.length+1<_;omega
         ·subst hk18
          clear HNX2
          go_wp2_with (at_builtin;refine app_i rfl _ _ rfl W1.heap.size (.slice A l.length c) l rfl HO5.out w4.heap.size x Ab nb cb Aa na ca rfl HROW.out HIT.out hl6 hbs5 ?_;intro v5 w5 ho5 hg5;obtain ⟨hq,hq2,hq3,hq4⟩:=HAPP.out v5 w5 ho5 hg5;obtain ⟨_,_,_,d3,_⟩:=hq2.cells;replace d3:w5.cell? ⟨b,3,none⟩=some (.int .i64 0):=d3;have hkd2:=qk_ hq2;rw[show kAt []=0 from rfl] at hkd2;have HKD2:=hd_ hkd2;have hkd3:=fun q=>qk_ (hq2.drewN q);rw[show kAt []=0 from rfl] at hkd3;have HKD3:=hd_ hkd3;have HQ2:=hd_ hq2;have HQ3:=hd_ hq3;have HQ4:=hd_ hq4;clear ho5 hg5 hq2 hq3 hq4 hkd2 hkd3 HO5 HIT HROW HOB HM HAPP)
          refine HKD2.out.mono ?_
          rintro e w7 ⟨rfl,q8,rfl⟩
          go_wp2_with fail
          refine (HKD3.out q8).mono ?_
          rintro e w7 ⟨rfl,q7,rfl⟩
          have HD:=hd_ (HND.out _ _ (q8+q7) HQ3.out HQ4.out ⟨_,HQ2.out⟩)
          clear HND HQ2 HQ3 HQ4 HKD2 HKD3 d3
          go_wp2_with fail
          go_roundw
          case rel=>exact ⟨_,_,_,HD.out⟩
          case measure=>show dlen b _<dlen b wr;rw[HD.out.rd.dlen,HDL.out];show 0+1<_;omega
        ·obtain ⟨t2,u2,rfl⟩:∃ t u,l2=t :: u:=by
          cases l2 with
          | nil=>exact absurd (.inr rfl) hk18
          | cons t u=>exact ⟨t,u,rfl⟩
         have hk2:t2.kind≠18:=fun h=>hk18 (.inl h)
         have HKF:Hid (k.2=failP X.e 4 (.live (t2 :: u2))):=HNX2.out.2.2 _ rfl hk2 (by simp)
         have g18b:(t2.kind == 18)=false:=by simpa using hk2
         have g18b' : (t2.kind != 18)=true:=by simpa using hk2
         clear HNX2 hk18 hk2
         go_wp2_with (at_builtin;refine app_i rfl _ _ rfl W1.heap.size (.slice A l.length c) l rfl HO5.out w4.heap.size x Ab nb cb Aa na ca rfl HROW.out HIT.out hl6 hbs5 ?_;intro v5 w5 ho5 hg5;obtain ⟨hq,hq2,hq3,hq4⟩:=HAPP.out v5 w5 ho5 hg5;obtain ⟨_,_,_,d3,_⟩:=hq2.cells;replace d3:w5.cell? ⟨b,3,none⟩=some (.int .i64 0):=d3;have hkd2:=qk_ hq2;rw[show kAt (t2 :: u2)=t2.kind from rfl] at hkd2;have HKD2:=hd_ hkd2;have hkd3:=fun q=>qk_ (hq2.drewN q);rw[show kAt (t2 :: u2)=t2.kind from rfl] at hkd3;have HKD3:=hd_ hkd3;have hk20:t2.kind≠0:=hq2.gd.1;have g0b:(t2.kind == 0)=false:=(by simpa using hk20);have g0b' : (t2.kind != 0)=true:=(by simpa using hk20);have HQ2:=hd_ hq2;have HQ3:=hd_ hq3;have HQ4:=hd_ hq4;clear ho5 hg5 hq2 hq3 hq4 hkd2 hkd3 hk20 HO5 HIT HROW HOB HM HAPP)
         refine HKD2.out.mono ?_
         rintro e w7 ⟨rfl,q8,rfl⟩
         go_wp2_with fail
         refine (HKD3.out q8).mono ?_
         rintro e w7 ⟨rfl,q7,rfl⟩
         have HOD:=hd_ (podd_any (HQ2.out.drewN (q8+q7)) (by omega))
         go_wp2_with fail
         refine HOD.out.mono ?_
         rintro e w8 ⟨rfl,hr8,hf8⟩
         have HD:Hid (ItemsD X b W1 N k _ (l++[x]) (.dead t2.pos 4) m1 w8) :=
          ⟨HQ3.out.keep hf8.size (fun i hi h2=>hf8.block i h2 (by omega)),hr8.g,(HQ4.out.drewN (q8+q7)).trans hf8,fun ts e=>(by cases e),fun a y e=>(by cases e;exact HKF.out),fun ts e=>(by cases e),fun ts e=>(by cases e),hl99⟩
         clear HQ2 HQ3 HQ4 HKD2 HKD3 d3 hr8 hf8 HOD HKF
         go_wp2_with fail
         go_roundw
         case rel=>exact ⟨_,_,_,HD.out⟩
         case measure=>show dlen b _<dlen b wr;rw[HD.out.rd.dlen,HDL.out];show 0<_;omega
 ·have g1:(er != 0)=true:=by simpa using he
  have hts:ts=[]:=by cases hti with
   | dec=>rfl
   | bad=>rfl
   | ok=>exact absurd rfl he
  subst hts
  have HE:Hid (∃ r,ItemsIs Bs N M r∧AllQ w r (.returned (.tuple #[.slice none 0 0,.int .i64 x,.int .i64 er])) w2):=⟨_,.bad x er hti he,none,0,rfl,RdI6.nil _ _,hb2⟩
  clear hti hb2 HC hr
  go_wp2_with fail
  exact bodyPost_ret (v:=.tuple #[.slice none 0 0,.int .i64 x,.int .i64 er]) (by simp[results,Tryz.results21,go_sem]) rfl HE.out
end Go.Proofs.YtbbmjdddemahfaaGreat
