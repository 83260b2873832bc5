/- Part of the proof. -/
import Derived.Test.YtbbmjdddemahfaaGreatSW22
import Derived.Test.YtbbmjdddemahfaaGreatSW32
import Derived.Test.YtbbmjdddemahfaaGreatSW06
import Derived.Test.YtbbmjdddemahfaaGreatSW26
import Derived.Test.YtbbmjdddemahfaaGreatSW29
import Derived.Test.YtbbmjdddemahfaaGreatSW31
set_option maxRecDepth 100000
namespace Go.Proofs.YtbbmjdddemahfaaGreat
open Go.RowKit
open Y (Nd It Ps nextP takeP failP noTok noName zeroN formP itemP lineP itemsP lastP)

def allS (e:Int) (n m:Nat) (ts:List Tok):List It × Int × Int :=
 match lastP e (itemsP e n m [] (.live ts)).2 with
 | .live _=>((itemsP e n m [] (.live ts)).1,-1,0)
 | .dead a y=>([],a,y)
def AllQ (w:World) (r:List It × Int × Int) (en:Ending) (w' : World):Prop:=∃ A c,en=.returned (.tuple #[.slice A r.1.length c,.int .i64 r.2.1,.int .i64 r.2.2])∧RdI6 w' (In w.heap.size w'.heap.size) A r.1.length c r.1∧Below w.heap.size w w'
inductive ItemsIs (Bs:List Int) (N M:Nat):List It × Int × Int→Prop where
 | bad (x er:Int) (h:TokIs Bs [] x er) (he:er≠0):ItemsIs Bs N M ([],x,er)
 | ok (ts:List Tok) (x:Int) (h:TokIs Bs ts x 0):ItemsIs Bs N M (allS Bs.length N M ts)
theorem lex_len:∀ (n:Nat) (l:List Int),l.length≤n→∀ (i o:Nat) (ts ts' : List W.Tk),W.lexS l i o ts=.ok ts' → ts'.length≤ts.length+l.length:=by
 intro n
 induction n with
 | zero =>
  intro l hl i o ts ts' h
  obtain rfl:l=[]:=List.eq_nil_of_length_eq_zero (by omega)
  rw[W.lexS_nil] at h
  split at h
  ·cases h
  ·injection h with h;subst h;simp
 | succ n ih =>
  intro l hl i o ts ts' h
  cases l with
  | nil =>
   rw[W.lexS_nil] at h
   split at h
   ·cases h
   ·injection h with h;subst h;simp
  | cons c t =>
   simp only[List.length_cons] at hl ⊢
   by_cases hb:c=32∨c=9
   ·rw[W.lexS_blank hb] at h
    have:=ih t (by omega) _ _ _ _ h
    omega
   ·rw[W.lexS_step hb] at h
    cases hs:W.stepS o ts c t with
    | bad k e=>rw[hs] at h;cases h
    | tok k x lo hi m =>
     rw[hs] at h
     have:=ih (t.drop m) (by rw[List.length_drop];omega) _ _ _ _ h
     rw[List.length_drop,List.length_append] at this
     simp at this
     omega
    | skip m =>
     rw[hs] at h
     have:=ih (t.drop m) (by rw[List.length_drop];omega) _ _ _ _ h
     rw[List.length_drop] at this
     omega
theorem tok_few {Bs:List Int}{ts:List Tok}{x er:Int}(h:TokIs Bs ts x er):ts.length≤Bs.length:=by
 cases h with
 | dec=>simp
 | bad=>simp
 | ok cs ats x h ts hl =>
  obtain ⟨o1,o2,_,_⟩:=dec_ok h rfl
  have h1:=lex_len cs.length cs (Nat.le_refl _) 0 0 [] ts hl
  have h2:=W.flat_len o1
  rw[← o2] at h2
  simp[placed] at h1 ⊢
  omega
open E (okb encB flat offs DecIs Upto)
open W (Tk lexS)
open Y (Nd It Ps)

def lexL (l:List Int):List Tk:=match lexS l 0 0 [] with | .ok ts=>ts | .bad _ _=>[]
theorem items_one {Bs cs ats:List Int}{x:Int}{N M:Nat}{r:List It × Int × Int}{ts:List Tk}(hd:DecIs Bs cs ats x 0) (hl:lexS cs 0 0 []=.ok ts) (h:ItemsIs Bs N M r):r=allS Bs.length N M (placed cs ts):=by
 have hone:∀ {us:List Tok} {y er:Int},TokIs Bs us y er→us=placed cs ts∧er=0:=by
  intro us y er ht
  cases ht with
  | dec cs' ats' _ _ h he=>obtain ⟨_,_,_,e⟩:=h.one hd;exact absurd e he
  | bad cs' ats' _ h k _ hl' => obtain ⟨e,_⟩:=h.one hd;subst e;rw[hl] at hl'; cases hl'
  | ok cs' ats' _ h ts' hl' => obtain ⟨e,_⟩:=h.one hd;subst e;rw[hl] at hl'; injection hl' with e;subst e;exact ⟨rfl,rfl⟩
 cases h with
 | bad x er h he=>exact absurd (hone h).2 he
 | ok us y h=>rw[(hone h).1]

namespace Y

section
variable {l:Tok}{u:List Tok}{e e' : Int}
end
end Y
namespace Y

theorem items_dead (e:Int) (n:Nat):∀ (m:Nat) (acc:List It) (a y:Int),itemsP e n m acc (.dead a y)=(acc,.dead a y)
 | 0,_,_,_=>rfl
 | m+1,acc,a,y=>by rw[itemsP,if_pos (by rfl)]
theorem items_nil (e:Int) (n:Nat):∀ (m:Nat) (acc:List It),itemsP e n m acc (.live [])=(acc,.live [])
 | 0,_=>rfl
 | m+1,acc=>by rw[itemsP,if_pos (by rfl)]
end Y
open Go.RowKit
open E (okb encB flat offs DecIs Upto Dead)
open W (Tk Lx lexS stepS)
open Y (Nd It Ps itemsP lastP failP)

theorem step_err {o:Nat}{ts:List Tk}{c:Int}{t:List Int}{k:Nat}{e:Int}(h:stepS o ts c t=.bad k e):e≠0:=by
 have hname:∀ t,W.nameS t=.bad k e→e≠0:=fun t h=>by
  unfold W.nameS at h
  split at h
  ·split at h
   ·injection h with _ h;omega
   ·cases h
  ·injection h with _ h;omega
 have hset:∀ t,W.setS t=.bad k e→e≠0:=fun t h=>by unfold W.setS at h;split at h <;> cases h
 have hnum:∀ t,W.numT t=.bad k e→e≠0:=fun t h=>by
  unfold W.numT at h
  split at h
  ·cases h
  ·rename_i h0
   injection h with _ h;rw[← h];exact h0
 have hnote:∀ t,W.noteS t=.bad k e→e≠0:=fun t h=>by
  unfold W.noteS at h
  split at h
  ·split at h
   ·cases h
   ·injection h with _ h;omega
  ·cases h
 have hch:∀ l n k e,W.chS l n=.bad k e→e≠0:=fun l n k e h=>by
  unfold W.chS at h
  split at h
  ·injection h with _ h;omega
  ·split at h
   ·cases h
   ·rename_i e' he
    have:=read_errs he
    split at h
    ·injection h with _ h;omega
    ·injection h with _ h;omega
 have hchars:∀ l,W.charsS l=.bad k e→e≠0:=fun l h=>by
  unfold W.charsS at h
  split at h
  ·rename_i h1
   injection h with h2 h3
   subst h2 h3
   exact hch _ _ _ _ h1
  ·split at h
   ·rename_i h1
    injection h with h2 h3
    subst h2 h3
    unfold W.hiS at h1
    split at h1
    ·exact hch _ _ _ _ h1
    ·cases h1
   ·split at h
    ·injection h with _ h;omega
    ·cases h
 unfold W.stepS at h
 split at h
 ·unfold W.inS at h
  split at h
  ·exact hname _ h
  ·split at h
   ·exact hset _ h
   ·split at h
    ·cases h
    ·split at h
     ·cases h
     ·split at h
      ·split at h
       ·cases h
       ·injection h with _ h;omega
      ·exact hchars _ h
 ·unfold W.outS at h
  split at h
  ·exact hname _ h
  ·split at h
   ·exact hnum _ h
   ·split at h
    ·exact hset _ h
    ·split at h
     ·exact hnote _ h
     ·split at h
      ·injection h with _ h;omega
      ·cases h
open E (DecIs)
open W (Tk Lx lexS)
open Y (Nd It Ps takeP failP deepP nextP formP orsP joinP piecesP pieceP bareP setP partsP partP heldP memberP itemP lineP itemsP lastP noTok noName zeroN)

namespace Y
section
variable (e:Int) (Q:Ps→Prop)
variable (ht:∀ ks s,Q s→Q (takeP e ks s).2) (hd:∀ w s,w≠0→Q s→Q (failP e w s))
include ht hd
end
end Y
open Go.RowKit
open E (DecIs)
open Y (Nd It Ps takeP failP formP itemP lineP itemsP lastP noTok)

namespace Y
end Y
section
variable {w:World}{S:Nat→Prop}{A:Option Addr}{n c:Nat}{l:List It}
end
open Go.RowKit
open W (Tk St C opn lastK nameS setS inS charsS chS hiS)

section
variable {X:Cx}{b:Nat}{w:World}{p o:Nat}{tv:Value}{ts:List Tk}{wr:Int}
theorem StepD.on {w1 w' : World}{r:St}{e:Ending}(h:StepD X b w1 p o ts wr r e w') (hb:Below b w w1):StepD X b w p o ts wr r e w' := ⟨h.1,hb.trans h.2.1,h.2.2⟩
theorem zo_ {w' : World}{k:Int}{x:List Int}{lo hi:Int}{m o' : Nat}{tv' : Value}{q:Nat}(h:Rdx X b w' q o' tv' (ts++[⟨k,x,lo,hi,p⟩]) wr 0) (hb:Below b w w') (hq:q=p+m+1) (ho:o' = opn k o):StepD X b w p o ts wr (.tok k x lo hi m) (.returned (.tuple #[])) w' := by
 subst hq ho
 exact ⟨rfl,hb,tv', h⟩
theorem Rdx.last {er:Int}(h:Rdx X b w p o tv ts wr er) (hne:ts≠[]):∃ (g off c m:Nat),tv=.slice (some ⟨g,off,none⟩) (m+1) c∧m<ts.length∧m+1=ts.length∧w.cell? ⟨g,off+m*5,none⟩=some (.int .i64 (lastK ts)):=by
 obtain ⟨A,c,rfl,hr⟩:=h.row.rd
 have hl:0<ts.length:=List.length_pos_iff.2 hne
 rw[List.length_map] at hr ⊢
 obtain ⟨g,off,rfl,_,hc⟩:=hr.at_ hl
 obtain ⟨m,hm⟩:∃ m,ts.length=m+1:=⟨ts.length - 1,by omega⟩
 refine ⟨g,off,c,m,by rw[hm],by omega,hm.symm,?_⟩
 have hlast:ts[m]?=ts.getLast? := by rw[List.getLast?_eq_getElem?,hm];rfl
 have hmt:m<ts.length:=by omega
 have e1:ts[m]?=some ts[m]:=List.getElem?_eq_getElem hmt
 have e2:(ts.map X.put)[m]?=some (X.put ts[m]):=by rw[List.getElem?_map,e1];rfl
 have:=cellsP_at e2 (j:=0) (by decide)
 rw[Nat.add_zero] at this
 refine (hc (m*5) _ this).trans ?_
 unfold W.lastK
 rw[← hlast,e1]
 rfl
theorem head_iff (L:List Int) (f:Nat){v:Int}(hv:v≠-1):(L.drop f).headD (-1)=v↔L[f]?=some v:=by
 rcases Nat.lt_or_ge f L.length with h|h
 ·rw[head_at L f (List.getElem?_eq_getElem h),List.getElem?_eq_getElem h]
  constructor
  ·intro h2;rw[h2]
  ·intro h2;exact Option.some.inj h2
 ·rw[head_no L f h,List.getElem?_eq_none h]
  constructor
  ·intro h2;exact absurd h2.symm hv
  ·intro h2;cases h2
theorem Rdx.at_i {er:Int}(h:Rdx X b w p o tv ts wr er){q:Nat}{x:Int}(hq:q≤X.nc) (hx:x=(q:Int)):Rdx X b (w.setCell ⟨b,2,none⟩ (.int .i64 x)) q o tv ts wr er:=by subst hx;exact h.at_ hq
theorem Rdx.open_i {er:Int}(h:Rdx X b w p o tv ts wr er){q:Nat}{x:Int}(hx:x=(q:Int)):Rdx X b (w.setCell ⟨b,3,none⟩ (.int .i64 x)) p q tv ts wr er:=by subst hx;exact h.open_ q
theorem zh_ {B i:Nat}{a c:World}(h:Below B a c) (hb:B≤b) (v:Value):Below B a (c.setCell ⟨b,i,none⟩ v):=h.setCell (p:=⟨b,i,none⟩) hb v
set_option maxHeartbeats 4000000 in
theorem dopen_any (h:Rdx X b w p o tv ts wr 0) (hp:p<X.nc) (hts:ts.length≤3000) (ho:o≤4000) :
  Calls Tryz.prog 81 #[.pointer (some ⟨b,0,none⟩)] w (StepD X b w p o ts wr (setS (X.L.drop (p+1)))):=by
 have HH:=hc_ h
 obtain ⟨n1,n2,n3⟩:=h.nc
 have hbz:=h.size
 have HR1:=hc_ ((h.at_i (q:=p+1) (x:=(p:Int)+1) (by omega) (by omega)).below (qa_ _ (.cells #[.int .i64 13,.string ⟨#[]⟩,.int .i64 0,.int .i64 0,.int .i64 0] 129)))
 have HB1:Hid (Below b w ((w.setCell ⟨b,2,none⟩ (.int .i64 ((p:Int)+1))).alloc (.cells #[.int .i64 13,.string ⟨#[]⟩,.int .i64 0,.int .i64 0,.int .i64 0] 129))):=((Below.refl b w).setCell (p:=⟨b,2,none⟩) (Nat.le_refl _) _).trans ((qa_ _ _).mono (by simp;omega))
 obtain ⟨c0,c1,c2,c3,c4,c5,c6⟩:=h.cells
 have f2:=h.fr 2
 generalize hr:setS (X.L.drop (p+1))=r
 have HR:=hc_ hr
 have HN1:=hc_ n1
 have hpp:(p:Int)<3000:=by omega
 clear h hr n1 n3
 go_enter Tryz.func81,Tryz.ntmps81
 go_wp2_with fail
 refine (dis_any HR1.out (p+1) (by omega) 94).mono ?_
 rintro e w2 ⟨rfl,rfl⟩
 by_cases h94:X.L[p+1]?=some 94
 ·have hlt:p+1<X.nc:=by have:=(List.getElem?_eq_some_iff.1 h94).1;have:=HN1.out;omega
  have HS:Hid (r=.tok 13 [] 1 0 1):=by
   show _=_
   rw[← HR.out]
   unfold W.setS
   rw[if_pos ((head_iff X.L (p+1) (by decide)).2 h94)]
  rw[decide_eq_true h94]
  have HR3:=hc_ (((HH.out.at_i (q:=p+1) (x:=(p:Int)+1) (by omega) (by omega)).at_i (q:=p+2) (x:=(p:Int)+1+1) (by omega) (by omega)).below (qa_ _ (.cells #[.int .i64 13,.string ⟨#[]⟩,.int .i64 1,.int .i64 0,.int .i64 0] 129)))
  have HB3:Hid (Below b w (((w.setCell ⟨b,2,none⟩ (.int .i64 ((p:Int)+1))).setCell ⟨b,2,none⟩ (.int .i64 ((p:Int)+1+1))).alloc (.cells #[.int .i64 13,.string ⟨#[]⟩,.int .i64 1,.int .i64 0,.int .i64 0] 129))):=(zh_ (zh_ (Below.refl b w) (Nat.le_refl _) _) (Nat.le_refl _) _).trans ((qa_ _ _).mono (by simp;omega))
  go_wp2_with fail
  refine (zr_ HR3.out 13 1 0 0 [] (i:=p) (Nat.le_of_lt hp) hts).mono ?_
  rintro e w3 ⟨rfl,⟨tv3,hR3⟩,hb3⟩
  obtain ⟨k0,k1,k2,k3,k4,k5,k6⟩:=hR3.cells
  have m3:=hR3.fr 3
  have HE:Hid (StepD X b w p o ts wr r (.returned (.tuple #[])) (w3.setCell ⟨b,3,none⟩ (.int .i64 ((o:Int)+1)))):=by
   show StepD _ _ _ _ _ _ _ _ _ _
   rw[HS.out]
   exact zo_ (hR3.open_i (q:=o+1) (by omega)) (zh_ (HB3.out.trans hb3) (Nat.le_refl _) _) (by omega) rfl
  clear hR3 hb3 HR3 HB3 HS HR
  go_wp2_with fail
  exact bodyPost_ret (v:=.tuple #[]) (by simp[results,Tryz.results81,go_sem]) rfl HE.out
 ·have HS:Hid (r=.tok 13 [] 0 0 0):=by
   show _=_
   rw[← HR.out]
   unfold W.setS
   rw[if_neg (fun h=>h94 ((head_iff X.L (p+1) (by decide)).1 h))]
  rw[decide_eq_false h94]
  go_wp2_with fail
  refine (zr_ HR1.out 13 0 0 0 [] (i:=p) (Nat.le_of_lt hp) hts).mono ?_
  rintro e w3 ⟨rfl,⟨tv3,hR3⟩,hb3⟩
  obtain ⟨k0,k1,k2,k3,k4,k5,k6⟩:=hR3.cells
  have m3:=hR3.fr 3
  have HE:Hid (StepD X b w p o ts wr r (.returned (.tuple #[])) (w3.setCell ⟨b,3,none⟩ (.int .i64 ((o:Int)+1)))):=by
   show StepD _ _ _ _ _ _ _ _ _ _
   rw[HS.out]
   exact zo_ (hR3.open_i (q:=o+1) (by omega)) (zh_ (HB1.out.trans hb3) (Nat.le_refl _) _) (by omega) rfl
  clear hR3 hb3 HR1 HB1 HS HR
  go_wp2_with fail
  exact bodyPost_ret (v:=.tuple #[]) (by simp[results,Tryz.results81,go_sem]) rfl HE.out
theorem chars_bad {L:List Int}{p k:Nat}{er:Int}(h:chS (L.drop p) 0=.bad k er):charsS (L.drop p)=.bad k er:=by unfold W.charsS;rw[h]
theorem chars_one {L:List Int}{p n:Nat}{lo:Int}(h:chS (L.drop p) 0=.ok lo n) (h45:L[p+n]?≠some 45):charsS (L.drop p)=.tok 15 [] lo lo (n - 1):=by
 unfold W.charsS W.hiS
 rw[h]
 simp only
 rw[List.drop_drop,if_neg (fun h2=>h45 ((head_iff L (p+n) (by decide)).1 h2))]
 simp only
 rw[if_neg (by omega)]
theorem chars_two {L:List Int}{p n:Nat}{lo:Int}(h:chS (L.drop p) 0=.ok lo n) (h45:L[p+n]?=some 45):charsS (L.drop p)=match chS (L.drop (p+n+1)) 0 with
  | .bad k er=>.bad (k+(n+1)) er
  | .ok hi m=>if hi<lo then .bad 0 7 else .tok 15 [] lo hi (m+(n+1) - 1):=by
 have hlt:=(List.getElem?_eq_some_iff.1 h45).1
 unfold W.charsS W.hiS
 rw[h]
 simp only
 rw[List.drop_drop,if_pos ((head_iff L (p+n) (by decide)).2 h45),ch_sh _ _ (by rw[List.length_drop];omega),List.drop_drop,show p+(n+1)=p+n+1 by omega]
 cases chS (L.drop (p+n+1)) 0 with
 | bad k er=>rfl
 | ok hi m=>rfl
theorem ch_pos {l:List Int}{c:Int}{n:Nat}(h:chS l 0=.ok c n):1≤n:=by
 unfold W.chS at h
 rw[List.drop_zero] at h
 split at h
 ·cases h
 ·cases hr:Q.readS l 0 with
  | ok c' n' => rw[hr] at h;simp only at h;injection h with _ h2;subst h2;exact (Q.read_in hr).2.1
  | bad e=>rw[hr] at h;simp only at h;split at h <;> cases h
set_option maxHeartbeats 8000000 in
theorem dset_any (h:Rdx X b w p o tv ts wr 0) (hp:p<X.nc) (hts:ts.length≤3000) (ho:o≤4000) (ho0:0<o) (hne:ts≠[]){c:Int}(hc:X.L[p]?=some c) :
  Calls Tryz.prog 62 #[.pointer (some ⟨b,0,none⟩)] w (StepD X b w p o ts wr (inS (lastK ts) c (X.L.drop (p+1)))):=by
 obtain ⟨c0,c1,c2,c3,c4,c5,c6⟩:=h.cells
 have hsz:=h.size
 obtain ⟨n1,n2,n3⟩:=h.nc
 obtain ⟨bc,offc,xc,hAc,_,hxc,hcell⟩:=h.chars.got hp
 obtain rfl:c=xc:=by rw[hc] at hxc;exact Option.some.inj hxc
 rw[hAc] at c0
 have hp0:(0:Int)≤(p:Int):=by omega
 have hpn:(p:Int)<3000:=by omega
 have hoi:(0:Int)<(o:Int):=by omega
 have hcons:=drop_atQ hc
 obtain ⟨g,offg,cg,m,htv,hm1,hm2,hlast⟩:=h.last hne
 have HH:=hc_ h
 have HN1:=hc_ n1
 have HCO:=hc_ hcons
 have hm0:(0:Int)≤(m:Int):=by omega
 have hm9:(m:Int)≤3000:=by omega
 have hmb:(m:Int)+1≤3001:=by omega
 have hmi:(0:Int)<(m:Int)+1:=by omega
 generalize hlk:lastK ts=lk at *
 subst htv
 have HX:=hc_ hc
 clear h hAc hxc hc hlk n1 n3 hcons hm1 hm2 hne
 by_cases h91:c=91
 ·have HE:Hid (inS lk c (X.L.drop (p+1))=setS (X.L.drop (p+1))):=by show _=_;unfold W.inS;rw[if_neg (by omega),if_pos h91]
  rw[HE.out]
  subst h91
  clear HE
  go_enter Tryz.func62,Tryz.ntmps62
  go_wp2_with fail
  go_quiet (fail)
  go_wp2_with fail
  refine (dopen_any (HH.out.drewN nq) hp hts ho).mono ?_
  intro e w2 hP
  have HE:=hc_ (hP.on (qb_ (Below.refl b w) nq))
  obtain rfl:=hP.1
  clear hP
  go_wp2_with fail
  exact bodyPost_ret (v:=.tuple #[]) (by simp[results,Tryz.results62,go_sem]) rfl HE.out
 ·have g91:(c == 91)=false:=by simpa using h91
  by_cases h93:c=93
  ·have HE0:Hid (inS lk c (X.L.drop (p+1))=.tok 14 [] 0 0 0):=by show _=_;unfold W.inS;rw[if_neg (by omega),if_neg h91,if_pos h93]
   rw[HE0.out]
   subst h93
   clear HE0
   go_enter Tryz.func62,Tryz.ntmps62
   go_wp2_with fail
   go_quiet (fail)
   go_wp2_with fail
   refine (zr_ (HH.out.drewN nq) 14 0 0 0 [] (i:=p) (Nat.le_of_lt hp) hts).mono ?_
   rintro e w3 ⟨rfl,⟨tv3,hR3⟩,hb3⟩
   obtain ⟨k0,k1,k2,k3,k4,k5,k6⟩:=hR3.cells
   have m3:=hR3.fr 3
   have m2:=hR3.fr 2
   have HE:Hid (StepD X b w p o ts wr (.tok 14 [] 0 0 0) (.returned (.tuple #[])) ((w3.setCell ⟨b,3,none⟩ (.int .i64 ((o:Int) - 1))).setCell ⟨b,2,none⟩ (.int .i64 ((p:Int)+1)))) :=
    zo_ ((hR3.open_i (q:=o - 1) (by omega)).at_i (q:=p+1) (by omega) (by omega)) (zh_ (zh_ ((qb_ (Below.refl b w) nq).trans hb3) (Nat.le_refl _) _) (Nat.le_refl _) _) (by omega) rfl
   clear hR3 hb3
   go_wp2_with fail
   exact bodyPost_ret (v:=.tuple #[]) (by simp[results,Tryz.results62,go_sem]) rfl HE.out
  ·have g93:(c == 93)=false:=by simpa using h93
   by_cases h38:c=38
   ·have HE0:Hid (inS lk c (X.L.drop (p+1))=.tok 16 [] 0 0 0):=by show _=_;unfold W.inS;rw[if_neg (by omega),if_neg h91,if_neg h93,if_pos h38]
    rw[HE0.out]
    subst h38
    clear HE0
    go_enter Tryz.func62,Tryz.ntmps62
    go_wp2_with fail
    go_quiet (fail)
    go_wp2_with fail
    refine (zr_ (HH.out.drewN nq) 16 0 0 0 [] (i:=p) (Nat.le_of_lt hp) hts).mono ?_
    rintro e w3 ⟨rfl,⟨tv3,hR3⟩,hb3⟩
    obtain ⟨k0,k1,k2,k3,k4,k5,k6⟩:=hR3.cells
    have m2:=hR3.fr 2
    have HE:Hid (StepD X b w p o ts wr (.tok 16 [] 0 0 0) (.returned (.tuple #[])) (w3.setCell ⟨b,2,none⟩ (.int .i64 ((p:Int)+1)))) :=
     zo_ (hR3.at_i (q:=p+1) (by omega) (by omega)) (zh_ ((qb_ (Below.refl b w) nq).trans hb3) (Nat.le_refl _) _) (by omega) rfl
    clear hR3 hb3
    go_wp2_with fail
    exact bodyPost_ret (v:=.tuple #[]) (by simp[results,Tryz.results62,go_sem]) rfl HE.out
   ·have g38:(c == 38)=false:=by simpa using h38
    by_cases h36:c=36
    ·have HE0:Hid (inS lk c (X.L.drop (p+1))=nameS (X.L.drop (p+1))):=by show _=_;unfold W.inS;rw[if_pos h36]
     rw[HE0.out]
     subst h36
     clear HE0
     go_enter Tryz.func62,Tryz.ntmps62
     go_wp2_with fail
     go_quiet (fail)
     go_wp2_with fail
     refine (dname_any (HH.out.drewN nq) hp hts).mono ?_
     intro e w2 hP
     have HE:=hc_ (hP.on (qb_ (Below.refl b w) nq))
     obtain rfl:=hP.1
     clear hP
     go_wp2_with fail
     exact bodyPost_ret (v:=.tuple #[]) (by simp[results,Tryz.results62,go_sem]) rfl HE.out
    ·have g36:(c == 36)=false:=by simpa using h36
     by_cases h45:c=45∧(lk=14∨lk=1)
     ·obtain ⟨rfl,hlk⟩:=h45
      have HE0:Hid (inS lk 45 (X.L.drop (p+1))=.tok 17 [] 0 0 0):=by show _=_;unfold W.inS;rw[if_neg h36,if_neg h91,if_neg h93,if_neg h38,if_pos rfl,if_pos hlk]
      rw[HE0.out]
      clear HE0
      have hend:∀ nq w3,(DPutP X b (w.drewN nq) p o (ts++[⟨17,[],0,0,p⟩]) wr 0 (.returned (.tuple #[])) w3)→StepD X b w p o ts wr (.tok 17 [] 0 0 0) (.returned (.tuple #[])) (w3.setCell ⟨b,2,none⟩ (.int .i64 ((p:Int)+1))):=fun nq w3 ⟨_,⟨tv3,hR3⟩,hb3⟩ =>
       zo_ (hR3.at_i (q:=p+1) (by omega) (by omega)) (zh_ ((qb_ (Below.refl b w) nq).trans hb3) (Nat.le_refl _) _) (by omega) rfl
      have HEND:=hc_ hend
      clear hend
      rcases hlk with rfl|rfl
      all_goals
       go_enter Tryz.func62,Tryz.ntmps62
       go_wp2_with fail
       go_quiet (fail)
       go_wp2_with fail
       refine (zr_ (HH.out.drewN nq) 17 0 0 0 [] (i:=p) (Nat.le_of_lt hp) hts).mono ?_
       intro e w3 hP
       obtain rfl:=hP.1
       have HE:=hc_ (HEND.out nq w3 hP)
       obtain ⟨_,⟨tv3,hR3⟩,hb3⟩:=hP
       obtain ⟨k0,k1,k2,k3,k4,k5,k6⟩:=hR3.cells
       have m2:=hR3.fr 2
       clear hR3 hb3 HEND
       go_wp2_with fail
       exact bodyPost_ret (v:=.tuple #[]) (by simp[results,Tryz.results62,go_sem]) rfl HE.out
     ·have HE0:Hid (inS lk c (X.L.drop (p+1))=charsS (X.L.drop p)):=by
       show _=_
       rw[HCO.out]
       unfold W.inS
       rw[if_neg h36,if_neg h91,if_neg h93,if_neg h38]
       by_cases h45' : c=45
       ·rw[if_pos h45', if_neg (fun h=>h45 ⟨h45', h⟩),h45']
        rfl
       ·rw[if_neg h45']
      rw[HE0.out]
      clear HE0
      have hgo:(c == 45)=false∨(c == 45)=true∧(lk == 14)=false∧(lk == 1)=false:=by
       by_cases h45' : c=45
       ·refine .inr ⟨by simp[h45'],?_,?_⟩
        ·simp;exact fun h=>h45 ⟨h45', .inl h⟩
        ·simp;exact fun h=>h45 ⟨h45', .inr h⟩
       ·exact .inl (by simp[h45'])
      have HGO:=hc_ hgo
      clear h45 hgo h36 h38 h91 h93
      generalize hr:charsS (X.L.drop p)=r
      have HR:=hc_ hr
      clear hr
      rcases HGO.out with q45|⟨q45,q14,q1⟩
      all_goals
       clear HGO
       go_enter Tryz.func62,Tryz.ntmps62
       go_wp2_with fail
       go_quiet (fail)
       go_wp2_with fail
       refine (dchar_any (HH.out.drewN nq)).mono ?_
       intro e w2 hP
       have HBN:Hid (Below b w (w.drewN nq)):=qb_ (Below.refl b w) nq
       obtain ⟨hB,hM⟩:=hP
       have HB2:=hc_ (HBN.out.trans hB)
       clear hB HBN
       cases hch:chS (X.L.drop p) 0 with
       | bad k er =>
        rw[hch] at hM
        obtain ⟨her,v,rfl,hR⟩:=hM
        have g0:(er == 0)=false:=by simp;omega
        obtain ⟨k0,k1,k2,k3,k4,k5,k6⟩:=hR.cells
        have HE:Hid (StepD X b w p o ts wr r (.returned (.tuple #[])) w2):=by
         show StepD _ _ _ _ _ _ _ _ _ _
         rw[← HR.out,chars_bad hch]
         exact zp_ hR HB2.out
        clear hR HR hch her HB2
        go_wp2_with fail
        exact bodyPost_ret (v:=.tuple #[]) (by simp[results,Tryz.results62,go_sem]) rfl HE.out
       | ok lo n =>
        rw[hch] at hM
        obtain ⟨rfl,hR⟩:=hM
        have hn1:=ch_pos hch
        have hle:=hR.le
        obtain ⟨k0,k1,k2,k3,k4,k5,k6⟩:=hR.cells
        have m2:=hR.fr 2
        have HRR:=hc_ hR
        clear hR
        have hpn2:((p+n:Nat):Int)≤3000:=by omega
        go_wp2_with fail
        refine (dis_any HRR.out (p+n) (by omega) 45).mono ?_
        rintro e w3 ⟨rfl,rfl⟩
        by_cases h45:X.L[p+n]?=some 45
        ·have hle1:p+n+1≤X.nc:=by have:=(List.getElem?_eq_some_iff.1 h45).1;have:=HN1.out;omega
         rw[decide_eq_true h45]
         have HR3:=hc_ (HRR.out.at_i (q:=p+n+1) (x:=((p+n:Nat):Int)+1) hle1 (by omega))
         have HB3:=hc_ (zh_ (b:=b) (i:=2) HB2.out (Nat.le_refl _) (.int .i64 (((p+n:Nat):Int)+1)))
         have HCT:=hc_ (chars_two hch h45)
         clear hch h45 HB2 HRR
         go_wp2_with fail
         refine (dchar_any HR3.out).mono ?_
         intro e w4 hP4
         obtain ⟨hB4,hM4⟩:=hP4
         have HB4:=hc_ (HB3.out.trans hB4)
         clear hB4 HB3 HR3 k0 k1 k2 k3 k4 k5 k6 m2
         cases hch2:chS (X.L.drop (p+n+1)) 0 with
         | bad k er =>
          rw[hch2] at hM4
          obtain ⟨her,v,rfl,hR4⟩:=hM4
          have g0:(er == 0)=false:=by simp;omega
          have he0:er≠0:=by omega
          have HS:Hid (r=.bad (k+(n+1)) er):=by show _=_;rw[← HR.out,HCT.out,hch2]
          have HR4:=hc_ hR4
          have HPL:Hid ((plc X.L (p+n+1+k):Int)=(plc X.L (p+(k+(n+1))):Int)):=by show _=_;rw[show p+n+1+k=p+(k+(n+1)) by omega]
          by_cases hlv:v<lo
          ·clear hch2 her HCT HR
           go_wp2_with fail
           refine (qp_ HR4.out (i:=p) (Nat.le_of_lt hp) 7).mono ?_
           rintro e w5 ⟨rfl,hR5,hb5⟩
           rw[if_neg he0,if_neg he0] at hR5
           obtain ⟨k0,k1,k2,k3,k4,k5,k6⟩:=hR5.cells
           have HE:Hid (StepD X b w p o ts wr r (.returned (.tuple #[])) w5):=by
            show StepD _ _ _ _ _ _ _ _ _ _
            rw[HS.out]
            rw[HPL.out] at hR5
            exact zp_ hR5 (HB4.out.trans hb5)
           clear hR5 hb5 hR4 HR4 HS HPL he0
           go_wp2_with fail
           exact bodyPost_ret (v:=.tuple #[]) (by simp[results,Tryz.results62,go_sem]) rfl HE.out
          ·obtain ⟨k0,k1,k2,k3,k4,k5,k6⟩:=hR4.cells
           have HE:Hid (StepD X b w p o ts wr r (.returned (.tuple #[])) w4):=by
            show StepD _ _ _ _ _ _ _ _ _ _
            rw[HS.out]
            rw[HPL.out] at hR4
            exact zp_ hR4 HB4.out
           clear hR4 HR4 HS HPL hch2 her HCT HR he0
           go_wp2_with fail
           exact bodyPost_ret (v:=.tuple #[]) (by simp[results,Tryz.results62,go_sem]) rfl HE.out
         | ok hi m2' =>
          rw[hch2] at hM4
          obtain ⟨rfl,hR4⟩:=hM4
          have hm1' := ch_pos hch2
          have HS:Hid (r=if hi<lo then .bad 0 7 else .tok 15 [] lo hi (m2' + (n+1) - 1)):=by show _=_;rw[← HR.out,HCT.out,hch2]
          have HR4:=hc_ hR4
          obtain ⟨k0,k1,k2,k3,k4,k5,k6⟩:=hR4.cells
          by_cases hlv:hi<lo
          ·have HS2:Hid (r=.bad 0 7):=by show _=_;rw[HS.out,if_pos hlv]
           clear hch2 HCT HR HS hR4
           go_wp2_with fail
           refine (qp_ HR4.out (i:=p) (Nat.le_of_lt hp) 7).mono ?_
           rintro e w5 ⟨rfl,hR5,hb5⟩
           rw[if_pos rfl,if_pos rfl] at hR5
           clear k0 k1 k2 k3 k4 k5 k6
           obtain ⟨k0,k1,k2,k3,k4,k5,k6⟩:=hR5.cells
           have HE:Hid (StepD X b w p o ts wr r (.returned (.tuple #[])) w5):=by
            show StepD _ _ _ _ _ _ _ _ _ _
            rw[HS2.out]
            exact zp_ (k:=0) hR5 (HB4.out.trans hb5)
           clear hR5 hb5 HR4 HS2
           go_wp2_with fail
           exact bodyPost_ret (v:=.tuple #[]) (by simp[results,Tryz.results62,go_sem]) rfl HE.out
          ·have HS2:Hid (r=.tok 15 [] lo hi (m2' + (n+1) - 1)):=by show _=_;rw[HS.out,if_neg hlv]
           clear hch2 HCT HR HS hR4
           go_wp2_with fail
           refine (zr_ HR4.out 15 lo hi 0 [] (i:=p) (Nat.le_of_lt hp) hts).mono ?_
           rintro e w5 ⟨rfl,⟨tv5,hR5⟩,hb5⟩
           have HE:Hid (StepD X b w p o ts wr r (.returned (.tuple #[])) w5):=by
            show StepD _ _ _ _ _ _ _ _ _ _
            rw[HS2.out]
            exact zo_ hR5 (HB4.out.trans hb5) (by omega) rfl
           clear hR5 hb5 HR4 HS2
           go_wp2_with fail
           exact bodyPost_ret (v:=.tuple #[]) (by simp[results,Tryz.results62,go_sem]) rfl HE.out
        ·have HS2:Hid (r=.tok 15 [] lo lo (n - 1)):=by show _=_;rw[← HR.out,chars_one hch h45]
         rw[decide_eq_false h45]
         clear hch h45 HR
         go_wp2_with fail
         refine (zr_ HRR.out 15 lo lo 0 [] (i:=p) (Nat.le_of_lt hp) hts).mono ?_
         rintro e w5 ⟨rfl,⟨tv5,hR5⟩,hb5⟩
         have HE:Hid (StepD X b w p o ts wr r (.returned (.tuple #[])) w5):=by
          show StepD _ _ _ _ _ _ _ _ _ _
          rw[HS2.out]
          exact zo_ hR5 (HB2.out.trans hb5) (by omega) rfl
         clear hR5 hb5 HRR HS2
         go_wp2_with fail
         exact bodyPost_ret (v:=.tuple #[]) (by simp[results,Tryz.results62,go_sem]) rfl HE.out
end
open W (Tk St C opn dgB numB nameS setS numT outS signK)

def signL:List Int:=[61,215,247,40,41,124,42,43,63,46]
theorem sign_at {k:Nat}{c:Int}(h:signL[k]?=some c):signK c=3+(k:Int)∧c≠36∧c≠91∧c≠35∧dgB c=false:=by
 have hk:k<10:=(List.getElem?_eq_some_iff.1 h).1
 have:k=0∨k=1∨k=2∨k=3∨k=4∨k=5∨k=6∨k=7∨k=8∨k=9:=by omega
 rcases this with rfl|rfl|rfl|rfl|rfl|rfl|rfl|rfl|rfl|rfl <;> (have e:=Option.some.inj h;subst e;decide)
theorem sign_no {c:Int}(h:∀ j y,j<10→signL[j]?=some y→y≠c):signK c=if c=10 then 18 else 0:=by
 have h0:=fun j y hj hy=>(h j y hj hy).symm
 unfold W.signK
 rw[if_neg (h0 0 61 (by decide) rfl)]
 rw[if_neg (h0 1 215 (by decide) rfl)]
 rw[if_neg (h0 2 247 (by decide) rfl)]
 rw[if_neg (h0 3 40 (by decide) rfl)]
 rw[if_neg (h0 4 41 (by decide) rfl)]
 rw[if_neg (h0 5 124 (by decide) rfl)]
 rw[if_neg (h0 6 42 (by decide) rfl)]
 rw[if_neg (h0 7 43 (by decide) rfl)]
 rw[if_neg (h0 8 63 (by decide) rfl)]
 rw[if_neg (h0 9 46 (by decide) rfl)]
section
variable {X:Cx}{b:Nat}{w:World}{p o:Nat}{tv:Value}{ts:List Tk}{wr:Int}
set_option maxHeartbeats 8000000 in
theorem dstep_any (h:Rdx X b w p o tv ts wr 0) (hp:p<X.nc) (hts:ts.length≤3000) (ho:o≤4000){c:Int}(hc:X.L[p]?=some c) (h35:c≠35) :
  Calls Tryz.prog 63 #[.pointer (some ⟨b,0,none⟩)] w (StepD X b w p o ts wr (outS c (X.L.drop (p+1)))):=by
 obtain ⟨c0,c1,c2,c3,c4,c5,c6⟩:=h.cells
 have hsz:=h.size
 obtain ⟨n1,n2,n3⟩:=h.nc
 obtain ⟨bc,offc,xc,hAc,_,hxc,hcell⟩:=h.chars.got hp
 obtain rfl:c=xc:=by rw[hc] at hxc;exact Option.some.inj hxc
 rw[hAc] at c0
 have hp0:(0:Int)≤(p:Int):=by omega
 have hpn:(p:Int)<3000:=by omega
 have HCO:=hc_ (drop_atQ hc)
 have HH:=hc_ h
 have HN1:=hc_ n1
 have HX:=hc_ hc
 have HA:=hc_ hAc
 have g35:(c == 35)=false:=by simpa using h35
 clear h hAc hxc hc n1 n3
 generalize hr:outS c (X.L.drop (p+1))=r
 have HR:=hc_ hr
 clear hr
 go_enter Tryz.func63,Tryz.ntmps63
 go_wp2_with fail
 go_quiet (fail)
 go_wp2_with fail
 have HLR:Hid (RdK .i64 ((w.drewN nq).alloc (.cells #[.int .i64 61,.int .i64 215,.int .i64 247,.int .i64 40,.int .i64 41,.int .i64 124,.int .i64 42,.int .i64 43,.int .i64 63,.int .i64 46] 3)) ((w.drewN nq).alloc (.cells #[.int .i64 61,.int .i64 215,.int .i64 247,.int .i64 40,.int .i64 41,.int .i64 124,.int .i64 42,.int .i64 43,.int .i64 63,.int .i64 46] 3)).heap.size (some ⟨w.heap.size,0,none⟩) 10 10 signL):=rd_lit_k (w.drewN nq) w.heap.size rfl .i64 signL 3 _ rfl (by decide)
 have HRW:=hc_ ((HH.out.drewN nq).below (qa_ _ (.cells #[.int .i64 61,.int .i64 215,.int .i64 247,.int .i64 40,.int .i64 41,.int .i64 124,.int .i64 42,.int .i64 43,.int .i64 63,.int .i64 46] 3)))
 have HBW:Hid (Below b w ((w.drewN nq).alloc (.cells #[.int .i64 61,.int .i64 215,.int .i64 247,.int .i64 40,.int .i64 41,.int .i64 124,.int .i64 42,.int .i64 43,.int .i64 63,.int .i64 46] 3))):=(qb_ (Below.refl b w) nq).trans ((qa_ _ _).mono (by show b≤w.heap.size;omega))
 generalize (w.drewN nq).alloc (.cells #[.int .i64 61,.int .i64 215,.int .i64 247,.int .i64 40,.int .i64 41,.int .i64 124,.int .i64 42,.int .i64 43,.int .i64 63,.int .i64 46] 3)=W1 at *
 clear c0 c1 c2 c3 c4 c5 c6 hcell
 go_loopw [5] (fun kv wx=>∃ k:Nat,k≤10∧kv=.int .i64 k∧W1=wx∧Hid (∀ j y,j<k→signL[j]?=some y→y≠c)) (fun kv _=>10 - (intOf kv).toNat)
 case atStart=>exact ⟨0,by omega,rfl,by trivial,fun j y h=>by omega⟩
 case round =>
  obtain ⟨k,hk,rfl,rfl,HN⟩:=hrel
  obtain ⟨c0,c1,c2,c3,c4,c5,c6⟩:=HRW.out.cells
  rw[HA.out] at c0
  by_cases hlt:k<10
  ·obtain ⟨bL,oL,z,hAL,_,hz,hcz⟩:=HLR.out.got hlt
   injection hAL with hAL
   injection hAL with e1 e2 _
   subst e1 e2
   rw[Nat.zero_add] at hcz
   by_cases hzc:z=c
   ·subst hzc
    obtain ⟨q1,q2,q3,q4,q5⟩:=sign_at hz
    have HS:Hid (r=.tok (3+(k:Int)) [] 0 0 0):=by
     show _=_
     rw[← HR.out]
     unfold W.outS
     rw[if_neg q2,if_neg (by rw[q5];decide),if_neg q3,if_neg q4,q1,if_neg (by omega)]
    have hop:o=opn (3+(k:Int)) o:=by unfold W.opn;rw[if_neg (by omega),if_neg (by omega)]
    have HOP:=hc_ hop
    clear HN hz q1 q2 q3 q4 q5 hop HR
    go_wp2_with fail
    refine (zr_ HRW.out (3+(k:Int)) 0 0 0 [] (i:=p) (Nat.le_of_lt hp) hts).mono ?_
    rintro e w3 ⟨rfl,⟨tv3,hR3⟩,hb3⟩
    clear c0 c1 c2 c3 c4 c5 c6
    obtain ⟨k0,k1,k2,k3,k4,k5,k6⟩:=hR3.cells
    have m2:=hR3.fr 2
    have HE:Hid (StepD X b w p o ts wr r (.returned (.tuple #[])) (w3.setCell ⟨b,2,none⟩ (.int .i64 ((p:Int)+1)))):=by
     show StepD _ _ _ _ _ _ _ _ _ _
     rw[HS.out]
     exact zo_ (hR3.at_i (q:=p+1) (by omega) (by omega)) (zh_ (HBW.out.trans hb3) (Nat.le_refl _) _) (by omega) HOP.out
    clear hR3 hb3 HS HOP
    go_wp2_with fail
    exact bodyPost_ret (v:=.tuple #[]) (by simp[results,Tryz.results63,go_sem]) rfl HE.out
   ·have qz:(z == c)=false:=by simpa using hzc
    have HN2:Hid (∀ j y,j<k+1→signL[j]?=some y→y≠c):=fun j y hj hy=>by
     rcases Nat.lt_or_ge j k with h1|h1
     ·exact HN.out j y h1 hy
     ·obtain rfl:j=k:=by omega
      rw[hz] at hy;injection hy with hy;subst hy;exact hzc
    clear HN hz
    go_wp2_with fail
    go_roundw
    case rel=>exact ⟨k+1,by omega,by go_num,by trivial,HN2.out⟩
    case measure=>simp[intOf];omega
  ·obtain rfl:k=10:=by omega
   have HSN:=hc_ (sign_no HN.out)
   clear HN
   by_cases h10:c=10
   ·have HS:Hid (r=.tok 18 [] 0 0 0):=by show _=_;rw[← HR.out,h10];rfl
    subst h10
    clear HR HSN
    go_wp2_with fail
    refine (zr_ HRW.out 18 0 0 0 [] (i:=p) (Nat.le_of_lt hp) hts).mono ?_
    rintro e w3 ⟨rfl,⟨tv3,hR3⟩,hb3⟩
    clear c0 c1 c2 c3 c4 c5 c6
    obtain ⟨k0,k1,k2,k3,k4,k5,k6⟩:=hR3.cells
    have m2:=hR3.fr 2
    have HE:Hid (StepD X b w p o ts wr r (.returned (.tuple #[])) (w3.setCell ⟨b,2,none⟩ (.int .i64 ((p:Int)+1)))):=by
     show StepD _ _ _ _ _ _ _ _ _ _
     rw[HS.out]
     exact zo_ (hR3.at_i (q:=p+1) (by omega) (by omega)) (zh_ (HBW.out.trans hb3) (Nat.le_refl _) _) (by omega) rfl
    clear hR3 hb3 HS
    go_wp2_with fail
    exact bodyPost_ret (v:=.tuple #[]) (by simp[results,Tryz.results63,go_sem]) rfl HE.out
   ·have g10:(c == 10)=false:=by simpa using h10
    by_cases h36:c=36
    ·have HS:Hid (r=nameS (X.L.drop (p+1))):=by show _=_;rw[← HR.out,h36];rfl
     subst h36
     clear HR HSN
     go_wp2_with fail
     refine (dname_any HRW.out hp hts).mono ?_
     intro e w2 hP
     have HE:Hid (StepD X b w p o ts wr r e w2):=by show StepD _ _ _ _ _ _ _ _ _ _;rw[HS.out];exact hP.on HBW.out
     obtain rfl:=hP.1
     clear hP HS
     go_wp2_with fail
     exact bodyPost_ret (v:=.tuple #[]) (by simp[results,Tryz.results63,go_sem]) rfl HE.out
    ·have g36:(c == 36)=false:=by simpa using h36
     by_cases h91:c=91
     ·have HS:Hid (r=setS (X.L.drop (p+1))):=by show _=_;rw[← HR.out,h91];rfl
      subst h91
      clear HR HSN
      go_wp2_with fail
      refine (dopen_any HRW.out hp hts ho).mono ?_
      intro e w2 hP
      have HE:Hid (StepD X b w p o ts wr r e w2):=by show StepD _ _ _ _ _ _ _ _ _ _;rw[HS.out];exact hP.on HBW.out
      obtain rfl:=hP.1
      clear hP HS
      go_wp2_with fail
      exact bodyPost_ret (v:=.tuple #[]) (by simp[results,Tryz.results63,go_sem]) rfl HE.out
     ·have g91:(c == 91)=false:=by simpa using h91
      have HD:=zd_ c W1
      cases hdg:dgB c with
      | true =>
       rw[hdg] at HD
       have HS:Hid (r=if (numB (X.L.drop p)).2.2=0 then .tok 2 [] (numB (X.L.drop p)).1 0 ((numB (X.L.drop p)).2.1 - 1) else .bad 0 (numB (X.L.drop p)).2.2):=by
        show _=_
        rw[← HR.out]
        unfold W.outS W.numT
        rw[if_neg h36,if_pos hdg,← HCO.out]
       have hnum:=dnumber_any HRW.out.chars (by omega) HX.out hdg
       rw[HA.out] at hnum
       have HNU:=hc_ hnum
       have HLE:Hid ((numB (X.L.drop p)).2.2=0→1≤(numB (X.L.drop p)).2.1):=fun h=>W.num_pos h
       clear hnum HR HSN hdg
       generalize numB (X.L.drop p)=nu at *
       go_wp2_with fail
       refine HD.mono ?_
       rintro e w2 ⟨rfl,rfl⟩
       clear HD
       go_wp2_with fail
       refine HNU.out.mono ?_
       rintro e w2 ⟨rfl,x,t,rfl,ht,hx⟩
       by_cases he:nu.2.2=0
       ·obtain ⟨rfl,rfl⟩:=hx he
        have hS:=HS.out
        rw[if_pos he] at hS
        have HS2:=hc_ hS
        have h1:=HLE.out he
        have g0:(nu.2.2 != 0)=false:=by simp[he]
        clear hS HS HLE HNU hx
        go_wp2_with fail
        refine (zr_ HRW.out 2 nu.1 0 0 [] (i:=p) (Nat.le_of_lt hp) hts).mono ?_
        rintro e w3 ⟨rfl,⟨tv3,hR3⟩,hb3⟩
        clear c0 c1 c2 c3 c4 c5 c6
        obtain ⟨k0,k1,k2,k3,k4,k5,k6⟩:=hR3.cells
        have m2:=hR3.fr 2
        have HE:Hid (StepD X b w p o ts wr r (.returned (.tuple #[])) (w3.setCell ⟨b,2,none⟩ (.int .i64 ((p+nu.2.1:Nat):Int)))):=by
         show StepD _ _ _ _ _ _ _ _ _ _
         rw[HS2.out]
         exact zo_ (hR3.at_i (q:=p+nu.2.1) ht rfl) (zh_ (HBW.out.trans hb3) (Nat.le_refl _) _) (by omega) rfl
        clear hR3 hb3 HS2
        go_wp2_with fail
        exact bodyPost_ret (v:=.tuple #[]) (by simp[results,Tryz.results63,go_sem]) rfl HE.out
       ·have hS:=HS.out
        rw[if_neg he] at hS
        have HS2:=hc_ hS
        have g0:(nu.2.2 != 0)=true:=by rw[bne_iff_ne];exact he
        clear hS HS HLE HNU hx
        go_wp2_with fail
        refine (qp_ HRW.out (i:=p) (Nat.le_of_lt hp) nu.2.2).mono ?_
        rintro e w3 ⟨rfl,hR3,hb3⟩
        rw[if_pos rfl,if_pos rfl] at hR3
        have HE:Hid (StepD X b w p o ts wr r (.returned (.tuple #[])) w3):=by
         show StepD _ _ _ _ _ _ _ _ _ _
         rw[HS2.out]
         exact zp_ (k:=0) hR3 (HBW.out.trans hb3)
        clear hR3 hb3 HS2
        go_wp2_with fail
        exact bodyPost_ret (v:=.tuple #[]) (by simp[results,Tryz.results63,go_sem]) rfl HE.out
      | false =>
       rw[hdg] at HD
       have HS2:Hid (r=.bad 0 4):=by
        show _=_
        rw[← HR.out]
        unfold W.outS
        rw[if_neg h36,if_neg (by rw[hdg];decide),if_neg h91,if_neg h35,HSN.out,if_neg h10,if_pos rfl]
       clear HR HSN hdg
       go_wp2_with fail
       refine HD.mono ?_
       rintro e w2 ⟨rfl,rfl⟩
       clear HD
       go_wp2_with fail
       refine (qp_ HRW.out (i:=p) (Nat.le_of_lt hp) 4).mono ?_
       rintro e w3 ⟨rfl,hR3,hb3⟩
       rw[if_pos rfl,if_pos rfl] at hR3
       have HE:Hid (StepD X b w p o ts wr r (.returned (.tuple #[])) w3):=by
        show StepD _ _ _ _ _ _ _ _ _ _
        rw[HS2.out]
        exact zp_ (k:=0) hR3 (HBW.out.trans hb3)
       clear hR3 hb3 HS2
       go_wp2_with fail
       exact bodyPost_ret (v:=.tuple #[]) (by simp[results,Tryz.results63,go_sem]) rfl HE.out
end
open E (okb encB flat offs DecIs)
open W (Tk St Lx lexS opn inS outS stepS lastK)

structure AtD (X:Cx) (b:Nat) (W0:World) (R:Lx) (w:World) (p o:Nat) (tv:Value) (ts:List Tk) (wr er:Int):Prop where
 rd:Rdx X b w p o tv ts wr er
 bel:Below b W0 w
 live:er=0→lexS (X.L.drop p) p o ts=R∧o≤p∧ts.length≤p∧(0<o→ts≠[])
 dead:er≠0→∃ k,R=.bad k er∧wr=(plc X.L k:Nat)
def dmeas (nc b:Nat) (w:World):Nat:=match w.cell? ⟨b,6,none⟩,w.cell? ⟨b,2,none⟩ with
 | some (.int _ e),some (.int _ p)=>if e=0 then nc+1 - p.toNat else 0
 | _,_=>0
section
variable {X:Cx}{b:Nat}{W0 w:World}{R:Lx}{p o:Nat}{tv:Value}{ts:List Tk}{wr er:Int}
theorem dmeas_at (h:Rdx X b w p o tv ts wr er):dmeas X.nc b w=if er=0 then X.nc+1 - p else 0:=by
 obtain ⟨_,_,c2,_,_,_,c6⟩:=h.cells
 unfold dmeas
 rw[c6,c2]
 rfl
theorem AtD.step (h:AtD X b W0 R w p o tv ts wr 0) (hp:p<X.nc){c:Int}(hc:X.L[p]?=some c) (hnb:¬ (c=32∨c=9)){e:Ending}{w2:World}(hs:StepD X b w p o ts wr (stepS o ts c (X.L.drop (p+1))) e w2) :
  e=.returned (.tuple #[])∧∃ p' o' tv' ts' wr' er', AtD X b W0 R w2 p' o' tv' ts' wr' er' ∧ dmeas X.nc b w2<X.nc+1 - p:=by
 obtain ⟨hl,h1,h2,h3⟩:=h.live rfl
 rw[drop_atQ hc,W.lexS_step hnb] at hl
 obtain ⟨he,hb,hm⟩:=hs
 refine ⟨he,?_⟩
 cases hst:stepS o ts c (X.L.drop (p+1)) with
 | tok k x lo hi m =>
  rw[hst] at hl hm
  obtain ⟨tv', hr⟩:=hm
  simp only at hl
  rw[List.drop_drop,show p+1+m=p+m+1 by omega] at hl
  have h4:=opn_le k o
  refine ⟨p+m+1,opn k o,tv', _,wr,0,⟨hr,h.bel.trans hb,fun _=>⟨hl,by omega,by simp;omega,fun _=>by simp⟩,fun h=>absurd rfl h⟩,?_⟩
  rw[dmeas_at hr,if_pos rfl]
  omega
 | skip m =>
  rw[hst] at hl hm
  obtain ⟨tv', hr⟩:=hm
  simp only at hl
  rw[List.drop_drop,show p+1+m=p+m+1 by omega] at hl
  refine ⟨p+m+1,o,tv', _,wr,0,⟨hr,h.bel.trans hb,fun _=>⟨hl,by omega,by omega,h3⟩,fun h=>absurd rfl h⟩,?_⟩
  rw[dmeas_at hr,if_pos rfl]
  omega
 | bad k er =>
  rw[hst] at hl hm
  obtain ⟨p', o', tv', ts', hr⟩:=hm
  simp only at hl
  have hne:er≠0:=step_err hst
  refine ⟨p', o', tv', ts', _,er,⟨hr,h.bel.trans hb,fun h0=>absurd h0 hne,fun _=>⟨p+k,hl.symm,rfl⟩⟩,?_⟩
  rw[dmeas_at hr,if_neg hne]
  omega
theorem AtD.blank (h:AtD X b W0 R w p o tv ts wr 0) (hp:p<X.nc){c:Int}(hc:X.L[p]?=some c) (hbl:c=32∨c=9):AtD X b W0 R (w.setCell ⟨b,2,none⟩ (.int .i64 ((p:Int)+1))) (p+1) o tv ts wr 0:=by
 obtain ⟨hl,h1,h2,h3⟩:=h.live rfl
 rw[drop_atQ hc,W.lexS_blank hbl] at hl
 exact ⟨h.rd.at_i (by omega) (by omega),zh_ h.bel (Nat.le_refl _) _,fun _=>⟨hl,by omega,by omega,h3⟩,fun h=>absurd rfl h⟩
end
theorem no_hash {cs:List Int}(hok:cs.all okb=true) (h:∀ x∈flat cs,x≠35):∀ x∈cs,x≠35:=fun x hx e=>by
 subst e
 have h1:=List.all_eq_true.1 hok 35 hx
 exact h 35 (List.mem_flatMap.2 ⟨35,hx,by rw[W.enc_small h1 (by decide)];simp⟩) rfl
set_option maxHeartbeats 8000000 in
theorem dof_any {w:World}{A:Option Addr}{n c:Nat}{Bs:List Int}(h:RdK .u8 w w.heap.size A n c Bs) (hb:Byt Bs) (hno:∀ x∈Bs,x≠35) :
  Calls Tryz.prog 39 #[.slice A n c] w (OfP5 w Bs):=by
 have hdec:=hc_ (rdecode_any h hb)
 have HNO:=hc_ hno
 clear h hb hno
 go_enter Tryz.func39,Tryz.ntmps39
 go_wp2_with fail
 refine hdec.out.mono ?_
 rintro e w1 ⟨A1,A2,n1,c1,n2,c2,cs,ats,x,er,rfl,r1,r2,hd,hb1⟩
 have HB1:=hc_ hb1
 have HD:=hc_ hd
 by_cases he:er=0
 ·subst he
  obtain ⟨o1,o2,o3,o4⟩:=dec_ok HD.out rfl
  have hx1:x=-1:=by cases hd;rfl
  subst hx1
  have HCN:Hid (∀ z∈cs,z≠35):=no_hash o1 (by rw[← o2];exact HNO.out)
  have hk:∀ q:Addr,q.block<w1.heap.size→(w1.alloc (.cells #[.slice A1 n1 c1,.slice A2 n2 c2,.int .i64 0,.int .i64 0,.slice none 0 0,.int .i64 0,.int .i64 0] 126)).cell? q=w1.cell? q:=fun q hq=>(qa_ w1 (.cells #[.slice A1 n1 c1,.slice A2 n2 c2,.int .i64 0,.int .i64 0,.slice none 0 0,.int .i64 0,.int .i64 0] 126)).cell hq
  have hR0:Rdx ⟨none,0,0,Bs,A1,n1,c1,cs,A2,n2,c2,ats⟩ w1.heap.size (w1.alloc (.cells #[.slice A1 n1 c1,.slice A2 n2 c2,.int .i64 0,.int .i64 0,.slice none 0 0,.int .i64 0,.int .i64 0] 126)) 0 0 (.slice none 0 0) [] 0 0 :=
   ⟨⟨o1,o2,o3,o4⟩,by simp,r1.keep hk,r2.keep hk,Nat.zero_le _,heap_alloc_new w1 _,OwnT.nil _ _⟩
  obtain ⟨R,hR⟩:∃ R,lexS cs 0 0 []=R:=⟨_,rfl⟩
  have HR:=hc_ hR
  have HA0:Hid (AtD ⟨none,0,0,Bs,A1,n1,c1,cs,A2,n2,c2,ats⟩ w1.heap.size (w1.alloc (.cells #[.slice A1 n1 c1,.slice A2 n2 c2,.int .i64 0,.int .i64 0,.slice none 0 0,.int .i64 0,.int .i64 0] 126)) R (w1.alloc (.cells #[.slice A1 n1 c1,.slice A2 n2 c2,.int .i64 0,.int .i64 0,.slice none 0 0,.int .i64 0,.int .i64 0] 126)) 0 0 (.slice none 0 0) [] 0 0) :=
   ⟨hR0,Below.refl _ _,fun _=>⟨by rw[List.drop_zero];exact hR,Nat.le_refl _,Nat.le_refl _,fun h=>absurd h (by omega)⟩,fun h=>absurd rfl h⟩
  have HBW:Hid (∀ w', Below w1.heap.size (w1.alloc (.cells #[.slice A1 n1 c1,.slice A2 n2 c2,.int .i64 0,.int .i64 0,.slice none 0 0,.int .i64 0,.int .i64 0] 126)) w' → Below w.heap.size w w'):=fun w' h=>HB1.out.trans (((qa_ w1 (.cells #[.slice A1 n1 c1,.slice A2 n2 c2,.int .i64 0,.int .i64 0,.slice none 0 0,.int .i64 0,.int .i64 0] 126)).trans h).mono HB1.out.size)
  have hcl:=r1.len
  have HCL:=hc_ hcl
  clear o1 o2 o3 o4 hk hR0 r1 r2 hd hb1 hdec hR hcl HB1
  go_wp2_with fail
  obtain ⟨X,hX⟩:∃ X:Cx,X=⟨none,0,0,Bs,A1,n1,c1,cs,A2,n2,c2,ats⟩:=⟨_,rfl⟩
  have x1:X.Ac=A1:=by rw[hX]
  have x2:X.nc=n1:=by rw[hX]
  have x3:X.cc=c1:=by rw[hX]
  have x4:X.L=cs:=by rw[hX]
  rw[← hX] at HA0
  have HX:=hc_ hX
  generalize w1.alloc (.cells #[.slice A1 n1 c1,.slice A2 n2 c2,.int .i64 0,.int .i64 0,.slice none 0 0,.int .i64 0,.int .i64 0] 126)=W0 at *
  generalize w1.heap.size=N at *
  clear hX
  have HX1:=hc_ x1
  clear x1
  subst x2 x3 x4
  go_loopw [] (fun wx=>∃ (p o:Nat) (tv:Value) (ts:List Tk) (wrg er:Int),Hid (AtD X N W0 R wx p o tv ts wrg er)) (fun wx=>dmeas X.nc N wx)
  case atStart=>exact ⟨0,0,.slice none 0 0,[],0,0,HA0.out⟩
  case round =>
   obtain ⟨p,o,tv,ts,wrg,er,HA⟩:=hrel
   obtain ⟨c0,c1,c2,c3,c4,c5,c6⟩:=HA.out.rd.cells
   have f2:=HA.out.rd.fr 2
   have hple:=HA.out.rd.le
   obtain ⟨q1,q2,q3⟩:=HA.out.rd.nc
   have HQ1:=hc_ q1
   clear q1 q3
   by_cases he:er=0
   ·subst he
    obtain ⟨hl,h1,h2,h3⟩:=HA.out.live rfl
    have HL:=hc_ hl
    have H3:=hc_ h3
    clear hl h3
    by_cases hlt:p<X.nc
    ·obtain ⟨bA,oA,x,hA,_,hx,hcx⟩:=HA.out.rd.chars.got hlt
     have HCx:=hc_ hx
     obtain rfl:=HX1.out.symm.trans hA
     have hpi:(p:Int)<(X.nc:Int):=by omega
     have hp0:(0:Int)≤(p:Int):=by omega
     have hx35:=HCN.out x (List.mem_of_getElem? hx)
     by_cases hbl:x=32∨x=9
     ·have hA2:=HA.out.blank hlt HCx.out hbl
      have HA2:=hc_ hA2
      have HM2:Hid (dmeas X.nc N (wr.setCell ⟨N,2,none⟩ (.int .i64 ((p:Int)+1)))<dmeas X.nc N wr):=by
       show _<_
       rw[dmeas_at hA2.rd,dmeas_at HA.out.rd,if_pos rfl,if_pos rfl]
       omega
      clear hx hA2 hx35
      have HRR:=HA
      rcases hbl with rfl|rfl
      all_goals
       go_wp2_with fail
       go_roundw
       case rel=>exact ⟨p+1,o,tv,ts,wrg,0,HA2.out⟩
       case measure=>exact HM2.out
     ·have qb1:(x == 32)=false:=by simp;omega
      have qb2:(x == 9)=false:=by simp;omega
      clear hx
      by_cases ho:0<o
      ·have hoi:(0:Int)<(o:Int):=by omega
       have hs:=dset_any HA.out.rd hlt (by omega) (by omega) ho (H3.out ho) HCx.out
       rw[show inS (lastK ts) x (X.L.drop (p+1))=stepS o ts x (X.L.drop (p+1)) by unfold W.stepS;rw[if_pos ho]] at hs
       have HS:=hc_ hs
       have HDM:Hid (dmeas X.nc N wr=X.nc+1 - p):=by show _=_;rw[dmeas_at HA.out.rd,if_pos rfl]
       have HNX:Hid (∀ e w2,StepD X N wr p o ts wrg (stepS o ts x (X.L.drop (p+1))) e w2→e=.returned (.tuple #[])∧∃ p' o' tv' ts' wr' er', AtD X N W0 R w2 p' o' tv' ts' wr' er' ∧ dmeas X.nc N w2<X.nc+1 - p):=fun e w2 h=>HA.out.step hlt HCx.out hbl h
       clear hs HCx
       go_wp2_with fail
       refine HS.out.mono ?_
       intro e w2 hP
       obtain ⟨rfl,p', o', tv', ts', wr', er', hA2,hm2⟩:=HNX.out e w2 hP
       have HA2:=hc_ hA2
       have HM2:=hc_ hm2
       clear hP hA2 hm2 HS HNX
       go_wp2_with fail
       go_roundw
       case rel=>exact ⟨p', o', tv', ts', wr', er', HA2.out⟩
       case measure =>
        show dmeas X.nc N _<dmeas X.nc N _
        rw[HDM.out];exact HM2.out
      ·have hoi:¬ (0:Int)<(o:Int):=by omega
       have hs:=dstep_any HA.out.rd hlt (by omega) (by omega) HCx.out hx35
       rw[show outS x (X.L.drop (p+1))=stepS o ts x (X.L.drop (p+1)) by unfold W.stepS;rw[if_neg ho]] at hs
       have HS:=hc_ hs
       have HDM:Hid (dmeas X.nc N wr=X.nc+1 - p):=by show _=_;rw[dmeas_at HA.out.rd,if_pos rfl]
       have HNX:Hid (∀ e w2,StepD X N wr p o ts wrg (stepS o ts x (X.L.drop (p+1))) e w2→e=.returned (.tuple #[])∧∃ p' o' tv' ts' wr' er', AtD X N W0 R w2 p' o' tv' ts' wr' er' ∧ dmeas X.nc N w2<X.nc+1 - p):=fun e w2 h=>HA.out.step hlt HCx.out hbl h
       clear hs HCx
       go_wp2_with fail
       refine HS.out.mono ?_
       intro e w2 hP
       obtain ⟨rfl,p', o', tv', ts', wr', er', hA2,hm2⟩:=HNX.out e w2 hP
       have HA2:=hc_ hA2
       have HM2:=hc_ hm2
       clear hP hA2 hm2 HS HNX
       go_wp2_with fail
       go_roundw
       case rel=>exact ⟨p', o', tv', ts', wr', er', HA2.out⟩
       case measure =>
        show dmeas X.nc N _<dmeas X.nc N _
        rw[HDM.out];exact HM2.out
    ·obtain rfl:p=X.nc:=by omega
     rw[List.drop_eq_nil_of_le (by rw[HQ1.out];exact Nat.le_refl _),W.lexS_nil] at HL
     have HBL:=hc_ HA.out.bel
     by_cases ho:0<o
     ·have hoi:(0:Int)<(o:Int):=by omega
      have hRb:=HL.out
      rw[if_pos ho] at hRb
      have hfail:=hc_ (qp_ HA.out.rd (i:=X.nc) (Nat.le_refl _) 5)
      have HE0:Hid (∀ w', Below N W0 w' → OfP5 w Bs (.returned (.tuple #[.slice none 0 0,.int .i64 (plc X.L X.nc:Nat),.int .i64 5])) w'):=fun w' h=>⟨none,0,0,[],_,5,rfl,RdT.nil _ _,.bad X.L ats (-1) HD.out X.nc 5 (HR.out.trans hRb.symm),HBW.out w' h⟩
      clear HD HR HBW hRb HL H3
      go_wp2_with fail
      refine hfail.out.mono ?_
      rintro e w2 ⟨rfl,hR2,hb2⟩
      rw[if_pos rfl,if_pos rfl] at hR2
      clear c0 c1 c2 c3 c4 c5 c6
      obtain ⟨c0,c1,c2,c3,c4,c5,c6⟩:=hR2.cells
      have HB2:=hc_ (HBL.out.trans hb2)
      clear hR2 hb2 hfail HA
      go_wp2_with fail
      go_quiet (fail)
      have HE:=hc_ (HE0.out _ (qb_ HB2.out nq))
      clear HE0 HB2
      go_wp2_with fail
      exact bodyPost_ret (v:=.tuple #[.slice none 0 0,.int .i64 (plc X.L X.nc:Nat),.int .i64 5]) (by simp[results,Tryz.results39,go_sem]) rfl HE.out
     ·have hoi:¬ (0:Int)<(o:Int):=by omega
      have hRb:=HL.out
      rw[if_neg ho] at hRb
      obtain ⟨Av,cv,htv,hrd⟩:=HA.out.rd.row.rd
      rw[List.length_map] at htv hrd
      subst htv
      have HE:Hid (OfP5 w Bs (.returned (.tuple #[.slice Av ts.length cv,.int .i64 (-1),.int .i64 0])) wr):=⟨Av,ts.length,cv,placed X.L ts,-1,0,rfl,by rw[HX.out] at hrd;rw[HX.out];exact hrd,.ok X.L ats (-1) HD.out ts (HR.out.trans hRb.symm),HBW.out wr HBL.out⟩
      clear HD HR HBW hRb HL H3 hrd HA
      go_wp2_with fail
      exact bodyPost_ret (v:=.tuple #[.slice Av ts.length cv,.int .i64 (-1),.int .i64 0]) (by simp[results,Tryz.results39,go_sem]) rfl HE.out
   ·obtain ⟨k,hRb,hwr⟩:=HA.out.dead he
    have HE0:Hid (∀ w', Below N W0 w' → OfP5 w Bs (.returned (.tuple #[.slice none 0 0,.int .i64 wrg,.int .i64 er])) w'):=fun w' h=>⟨none,0,0,[],wrg,er,rfl,RdT.nil _ _,by rw[hwr];exact .bad X.L ats (-1) HD.out k er (HR.out.trans hRb),HBW.out w' h⟩
    have HBL:=hc_ HA.out.bel
    have g1:(er == 0)=false:=by simpa using he
    have g2:(er != 0)=true:=by rw[bne_iff_ne];exact he
    by_cases ho:0<o
    ·have hoi:(0:Int)<(o:Int):=by omega
     have hfail:=hc_ (qp_ HA.out.rd (i:=X.nc) (Nat.le_refl _) 5)
     clear HD HR HBW hRb hwr
     go_wp2_with fail
     refine hfail.out.mono ?_
     rintro e w2 ⟨rfl,hR2,hb2⟩
     rw[if_neg he,if_neg he] at hR2
     clear c0 c1 c2 c3 c4 c5 c6
     obtain ⟨c0,c1,c2,c3,c4,c5,c6⟩:=hR2.cells
     have HB2:=hc_ (HBL.out.trans hb2)
     clear hR2 hb2 hfail HA
     go_wp2_with fail
     go_quiet (fail)
     have HE:=hc_ (HE0.out _ (qb_ HB2.out nq))
     clear HE0 HB2
     go_wp2_with fail
     exact bodyPost_ret (v:=.tuple #[.slice none 0 0,.int .i64 wrg,.int .i64 er]) (by simp[results,Tryz.results39,go_sem]) rfl HE.out
    ·have hoi:¬ (0:Int)<(o:Int):=by omega
     clear HD HR HBW hRb hwr HA
     go_wp2_with fail
     go_quiet (fail)
     have HE:=hc_ (HE0.out _ (qb_ HBL.out nq))
     clear HE0 HBL
     go_wp2_with fail
     exact bodyPost_ret (v:=.tuple #[.slice none 0 0,.int .i64 wrg,.int .i64 er]) (by simp[results,Tryz.results39,go_sem]) rfl HE.out
 ·have g1:(er != 0)=true:=by simpa using he
  have HE:Hid (OfP5 w Bs (.returned (.tuple #[.slice none 0 0,.int .i64 x,.int .i64 er])) w1):=⟨none,0,0,[],x,er,rfl,RdT.nil _ _,.dec cs ats x er HD.out he,HB1.out⟩
  clear r1 r2 hd hb1 hdec
  go_wp2_with fail
  exact bodyPost_ret (v:=.tuple #[.slice none 0 0,.int .i64 x,.int .i64 er]) (by simp[results,Tryz.results39,go_sem]) rfl HE.out
end Go.Proofs.YtbbmjdddemahfaaGreat
