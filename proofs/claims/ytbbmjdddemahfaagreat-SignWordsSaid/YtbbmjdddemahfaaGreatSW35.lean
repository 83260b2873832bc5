/- Part of the proof. -/
import Derived.Test.YtbbmjdddemahfaaGreatSW34
import Derived.Test.YtbbmjdddemahfaaGreatSW21
import Derived.StillTailTactics
set_option maxRecDepth 100000
namespace Go.Proofs.YtbbmjdddemahfaaGreat
theorem hd_ {p:Prop}(h:p):Go.RowKit.Hid p:=Go.Lib.hid h
open Go.RowKit
open Y (Nd It Ps nextP takeP failP noTok noName deepP formP orsP joinP piecesP pieceP bareP setP partsP partP heldP memberP)

structure Px where
 A:Option Addr
 n:Nat
 c:Nat
 T:List Tok
 e:Int
 ex:∀ t∈T,t.kind≠6∧t.kind≠12∧t.kind≠16∧t.kind≠17
structure Rdd (X:Px) (b:Nat) (w:World) (o:Nat) (s:Ps) (h:Nat):Prop where
 blk:w.heap[b]?=some (.cells #[.slice X.A X.n X.c,.int .i64 X.e,.int .i64 s.atv,.int .i64 s.whyv,.int .i64 h] 91 (0,0))
 rd:RdT w b X.A X.n X.c X.T
 st:(s=.live (X.T.drop h)∧h≤X.n)∨(∃ a y,s=.dead a y∧y≠0∧h+o≤X.n+20)
 few:X.n≤4000
 good:∀ t∈X.T,Gd t
def RdF (X:Px) (b:Nat) (w:World) (o:Nat) (s:Ps):Prop:=∃ h,Rdd X b w o s h
section
variable {X:Px}{b:Nat}{w w' : World}{o h:Nat}{s:Ps}
theorem Rdd.lt (H:Rdd X b w o s h):b<w.heap.size:=by
 rcases Nat.lt_or_ge b w.heap.size with hlt|hge
 ·exact hlt
 ·have:=H.blk;rw[Array.getElem?_eq_none hge] at this;cases this
theorem Rdd.drewN (H:Rdd X b w o s h) (q:Nat):Rdd X b (w.drewN q) o s h:=⟨H.blk,H.rd.drewN q,H.st,H.few,H.good⟩
theorem Rdd.below (H:Rdd X b w o s h) (hb:Below w.heap.size w w'):Rdd X b w' o s h :=
 ⟨(hb.block b H.lt).trans H.blk,H.rd.keep fun p hp=>hb.cell (by have:=H.lt;omega),H.st,H.few,H.good⟩
theorem Rdd.other (H:Rdd X b w o s h){g:Nat}(hg:b<g) (j:Nat) (v:Value):Rdd X b (w.setCell ⟨g,j,none⟩ v) o s h :=
 ⟨(Below.heap_setCell _ _ _ _ (by show b≠g;omega)).trans H.blk,H.rd.keep fun p hp=>World.cell?_of_block (w:=w) (Below.heap_setCell _ _ _ _ (by show p.block≠g;omega)),H.st,H.few,H.good⟩
theorem Rdd.fr (H:Rdd X b w o s h) (j:Nat):w.frozen? ⟨b,j,none⟩=false:=frozen_of_row _ _ _ _ _ H.blk
theorem Rdd.cells (H:Rdd X b w o s h):w.cell? ⟨b,0,none⟩=some (.slice X.A X.n X.c)∧w.cell? ⟨b,1,none⟩=some (.int .i64 X.e)∧w.cell? ⟨b,2,none⟩=some (.int .i64 s.atv)∧w.cell? ⟨b,3,none⟩=some (.int .i64 s.whyv)∧w.cell? ⟨b,4,none⟩=some (.int .i64 h):=by
 refine ⟨?_,?_,?_,?_,?_⟩ <;> (rw[cell_of_row _ _ _ _ _ _ H.blk];rfl)
theorem Rdd.le (H:Rdd X b w o s h):h≤4020:=by
 have:=H.few
 rcases H.st with ⟨_,h2⟩|⟨_,_,_,_,h2⟩ <;> omega
theorem Rdd.less (H:Rdd X b w o s h){o' : Nat}(ho:o' ≤ o):Rdd X b w o' s h:=⟨H.blk,H.rd,by
 rcases H.st with h2|⟨a,y,h1,h2,h3⟩
 ·exact .inl h2
 ·exact .inr ⟨a,y,h1,h2,by omega⟩,H.few,H.good⟩
def kAt (l:List Tok):Int:=match l with | []=>0|t :: _=>t.kind
theorem Rdd.here (H:Rdd X b w o s h){q:Nat}{x:Int}{s' : Ps}{o' : Nat}(hx:x=(q:Int)) (ha:s'.atv=s.atv) (hy:s'.whyv=s.whyv) (hs:(s' = .live (X.T.drop q)∧q≤X.n)∨(∃ a y,s' = .dead a y∧y≠0∧q+o' ≤ X.n+20)) :
  Rdd X b (w.setCell ⟨b,4,none⟩ (.int .i64 x)) o' s' q:=by
 subst hx
 refine ⟨?_,H.rd.keep fun p hp=>World.cell?_of_block (w:=w) (Below.heap_setCell _ _ _ _ (by show p.block≠b;omega)),hs,H.few,H.good⟩
 rw[heap_setCell_same _ _ _ _ _ _ H.blk,ha,hy];rfl
theorem Rdd.next {t:Tok}{u:List Tok}(H:Rdd X b w o (.live (t :: u)) h){x:Int}(hx:x=(h:Int)+1):Rdd X b (w.setCell ⟨b,4,none⟩ (.int .i64 x)) o (.live u) (h+1):=by
 refine H.here (q:=h+1) (by omega) rfl rfl (.inl ?_)
 rcases H.st with ⟨h1,h2⟩|⟨a,y,h1,_⟩
 ·injection h1 with h1
  have hl:h<X.T.length:=by
   have:=congrArg List.length h1
   rw[List.length_cons,List.length_drop] at this
   omega
  refine ⟨?_,by rw[← H.rd.len];omega⟩
  rw[List.drop_eq_getElem_cons hl] at h1
  injection h1 with _ h1
  rw[h1]
 ·cases h1
theorem Rdd.past {a y:Int}{o' : Nat}(H:Rdd X b w (o' + 1) (.dead a y) h){x:Int}(hx:x=(h:Int)+1):Rdd X b (w.setCell ⟨b,4,none⟩ (.int .i64 x)) o' (.dead a y) (h+1):=by
 refine H.here (q:=h+1) (by omega) rfl rfl (.inr ?_)
 rcases H.st with ⟨h1,h2⟩|⟨a', y', h1,h2,h3⟩
 ·cases h1
 ·exact ⟨a', y', h1,h2,by omega⟩
theorem Rdd.live {l:List Tok}(H:Rdd X b w o (.live l) h):l=X.T.drop h∧h≤X.n∧l.length=X.n - h:=by
 rcases H.st with ⟨h1,h2⟩|⟨a,y,h1,_⟩
 ·injection h1 with h1
  refine ⟨h1,h2,?_⟩
  rw[h1,List.length_drop,H.rd.len]
 ·cases h1
theorem Rdd.gd {t:Tok}{u:List Tok}(H:Rdd X b w o (.live (t :: u)) h):Gd t:=by
 refine H.good t ?_
 have:=H.live.1
 exact List.mem_of_mem_drop (i:=h) (by rw[← this];simp)
theorem Rdd.tokAt {t:Tok}(H:Rdd X b w o s h) (ht:X.T[h]?=some t):∃ g off,X.A=some ⟨g,off,none⟩∧g<b∧h<X.n∧w.cell? ⟨g,off+h*5,none⟩=some (.int .i64 t.kind)∧w.cell? ⟨g,off+h*5+1,none⟩=some (.string (strOfNums t.text))∧w.cell? ⟨g,off+h*5+2,none⟩=some (.int .i64 t.low)∧w.cell? ⟨g,off+h*5+3,none⟩=some (.int .i64 t.high)∧w.cell? ⟨g,off+h*5+4,none⟩=some (.int .i64 t.pos):=by
 have hlt:h<X.n:=by have:=(List.getElem?_eq_some_iff.1 ht).1;have:=H.rd.len;omega
 obtain ⟨g,off,e,hg,hc⟩:=H.rd.at_ (by omega)
 refine ⟨g,off,e,hg,hlt,?_,?_,?_,?_,?_⟩
 ·exact hc (h*5+0) _ (by rw[cellsP_at ht (by decide)];rfl)
 ·exact hc (h*5+1) _ (by rw[cellsP_at ht (by decide)];rfl)
 ·exact hc (h*5+2) _ (by rw[cellsP_at ht (by decide)];rfl)
 ·exact hc (h*5+3) _ (by rw[cellsP_at ht (by decide)];rfl)
 ·exact hc (h*5+4) _ (by rw[cellsP_at ht (by decide)];rfl)
theorem Rdd.tok {t:Tok}{u:List Tok}(H:Rdd X b w o (.live (t :: u)) h):∃ g off,X.A=some ⟨g,off,none⟩∧g<b∧h<X.n∧w.cell? ⟨g,off+h*5,none⟩=some (.int .i64 t.kind)∧w.cell? ⟨g,off+h*5+1,none⟩=some (.string (strOfNums t.text))∧w.cell? ⟨g,off+h*5+2,none⟩=some (.int .i64 t.low)∧w.cell? ⟨g,off+h*5+3,none⟩=some (.int .i64 t.high)∧w.cell? ⟨g,off+h*5+4,none⟩=some (.int .i64 t.pos):=by
 refine H.tokAt ?_
 have:=congrArg (fun l=>l[0]?) H.live.1
 simpa using this.symm
def KindD (w:World) (k:Int) (e:Ending) (w' : World):Prop:=e=.returned (.int .i64 k)∧∃ q,w' = w.drewN q
set_option maxHeartbeats 2000000 in
theorem dkind_all (H:Rdd X b w o s h) :
  Calls Tryz.prog 40 #[.pointer (some ⟨b,0,none⟩)] w (KindD w (kAt (X.T.drop h))):=by
 obtain ⟨c0,_,_,_,c4⟩:=H.cells
 have hf:=H.few
 have hle:=H.le
 have hl:=H.rd.len
 by_cases hlt:h<X.n
 ·obtain ⟨t,ht⟩:∃ t,X.T[h]?=some t:=⟨_,List.getElem?_eq_getElem (by omega)⟩
  obtain ⟨g,off,hA,_,_,d0,_⟩:=H.tokAt ht
  have hk:kAt (X.T.drop h)=t.kind:=by
   have h1:(X.T.drop h)[0]?=some t:=by rw[List.getElem?_drop];exact ht
   cases hd:X.T.drop h with
   | nil=>rw[hd] at h1;cases h1
   | cons a u=>rw[hd] at h1;injection h1 with h1;subst h1;rfl
  rw[hk]
  rw[hA] at c0
  have hli:¬ (X.n:Int)≤(h:Int):=by omega
  have hl2:(h:Int)<(X.n:Int):=by omega
  clear H hA hl hk ht
  go_enter Tryz.func40,Tryz.ntmps40
  go_wp2_with fail
  go_quiet (fail)
  go_wp2_with fail
  go_quiet (fail)
  go_wp2_with fail
  go_ret
  exact ⟨rfl,_,kdrewN_two _ _ _⟩
 ·have hk:kAt (X.T.drop h)=0:=by rw[List.drop_eq_nil_of_le (by omega)];rfl
  rw[hk]
  have hli:(X.n:Int)≤(h:Int):=by omega
  clear H hl hk
  go_enter Tryz.func40,Tryz.ntmps40
  go_wp2_with fail
  go_quiet (fail)
  go_wp2_with fail
  go_ret
  exact ⟨rfl,nq,rfl⟩
theorem qk_ {l:List Tok}(H:Rdd X b w o (.live l) h) :
  Calls Tryz.prog 40 #[.pointer (some ⟨b,0,none⟩)] w (KindD w (kAt l)):=by
 rw[H.live.1];exact dkind_all H
def dlen (b:Nat) (w:World):Nat:=match w.cell? ⟨b,3,none⟩,w.cell? ⟨b,0,none⟩,w.cell? ⟨b,4,none⟩ with
 | some (.int _ y),some (.slice _ n _),some (.int _ h)=>if y=0 then n+1 - h.toNat else 0
 | _,_,_=>0
def left_:Ps→Nat | .live l=>l.length+1 | .dead _ _=>0
theorem Rdd.dlen (H:Rdd X b w o s h):dlen b w=left_ s:=by
 obtain ⟨c0,_,_,c3,c4⟩:=H.cells
 unfold Proofs.YtbbmjdddemahfaaGreat.dlen
 rw[c0,c3,c4]
 cases s with
 | live l =>
  obtain ⟨_,h2,h3⟩:=H.live
  show (if (0:Int)=0 then X.n+1 - (h:Int).toNat else 0)=l.length+1
  rw[if_pos rfl,h3];simp;omega
 | dead a y =>
  rcases H.st with ⟨h1,_⟩|⟨a', y', h1,h2,_⟩
  ·cases h1
  ·injection h1 with _ h1;subst h1
   show (if y=0 then _ else 0)=0
   rw[if_neg h2]
end

section
variable {X:Px}{b:Nat}{w w' : World}{o h:Nat}{s:Ps}
theorem Rdd.stop (H:Rdd X b w o s h){a y:Int}{v:World}(hb:v.heap[b]?=some (.cells #[.slice X.A X.n X.c,.int .i64 X.e,.int .i64 a,.int .i64 y,.int .i64 h] 91 (0,0))) (hk:∀ p:Addr,p.block<b→v.cell? p=w.cell? p) (hy:y≠0) (ho:h+o≤X.n+20):Rdd X b v o (.dead a y) h :=
 ⟨hb,H.rd.keep hk,.inr ⟨a,y,rfl,hy,ho⟩,H.few,H.good⟩
def SayD (X:Px) (b:Nat) (w:World) (o:Nat) (s:Ps) (en:Ending) (w' : World):Prop:=en=.returned (.tuple #[])∧RdF X b w' o s∧Fe b w w'
theorem far_set {w:World}{b:Nat}(i:Nat) (v:Value):∀ p:Addr,p.block<b→(w.setCell ⟨b,i,none⟩ v).cell? p=w.cell? p:=fun p hp=>World.cell?_of_block (w:=w) (Below.heap_setCell _ _ _ _ (by show p.block≠b;omega))
set_option maxHeartbeats 4000000 in
theorem pfail_any {l:List Tok}(H:Rdd X b w o (.live l) h){y:Int}(hy:y≠0) (ho:o≤20) (hl:l=[]→y=5) :
  Calls Tryz.prog 41 #[.pointer (some ⟨b,0,none⟩),.int .i64 y] w (SayD X b w o (failP X.e y (.live l))):=by
 obtain ⟨c0,c1,c2,c3,c4⟩:=H.cells
 obtain ⟨_,h2,h3⟩:=H.live
 have hf:=H.few
 have f2:=H.fr 2
 have f3:=H.fr 3
 have f4:=H.fr 4
 have HB:=hd_ H.blk
 replace c2:w.cell? ⟨b,2,none⟩=some (.int .i64 0):=c2
 replace c3:w.cell? ⟨b,3,none⟩=some (.int .i64 0):=c3
 have hb1:(((w.setCell ⟨b,2,none⟩ (.int .i64 X.e)).setCell ⟨b,3,none⟩ (.int .i64 y)).heap[b]?=some (.cells #[.slice X.A X.n X.c,.int .i64 X.e,.int .i64 X.e,.int .i64 y,.int .i64 h] 91 (0,0))):=by
  rw[heap_setCell_same _ _ _ _ _ _ (heap_setCell_same _ _ _ _ _ _ H.blk)];rfl
 cases l with
 | nil =>
  simp only[List.length_nil] at h3
  obtain rfl:h=X.n:=by omega
  obtain rfl:=hl rfl
  have HE:Hid (∀ q,SayD X b w o (failP X.e 5 (.live [])) (.returned (.tuple #[])) (((w.setCell ⟨b,2,none⟩ (.int .i64 X.e)).setCell ⟨b,3,none⟩ (.int .i64 5)).drewN q)):=fun q =>
   ⟨rfl,⟨X.n,(H.stop hb1 (fun p hp=>(far_set _ _ p hp).trans (far_set _ _ p hp)) (by decide) (by omega)).drewN q⟩,(((Fe.refl b w).set (.inl rfl) _ _).set (.inl rfl) _ _).drewN q⟩
  clear H h3 hb1 hl
  go_enter Tryz.func41,Tryz.ntmps41
  go_wp2_with fail
  go_quiet (fail)
  go_wp2_with fail
  exact bodyPost_ret (v:=.tuple #[]) (by simp[results,Tryz.results41,go_sem]) rfl (HE.out _)
 | cons t u =>
  obtain ⟨g,off,hA,hg,hlt,_,_,_,_,d4⟩:=H.tok
  have hne:g≠b:=by omega
  have HE:Hid (∀ q,SayD X b w o (failP X.e y (.live (t :: u))) (.returned (.tuple #[])) ((((w.setCell ⟨b,2,none⟩ (.int .i64 X.e)).setCell ⟨b,3,none⟩ (.int .i64 y)).drewN q).drew.setCell ⟨b,2,none⟩ (.int .i64 t.pos))):=fun q=>by
   refine ⟨rfl,⟨h,H.stop (a:=t.pos) (y:=y) ?_ (fun p hp=>(far_set _ _ p hp).trans ((far_set _ _ p hp).trans (far_set _ _ p hp))) hy (by omega)⟩,(((((Fe.refl b w).set (.inl rfl) _ _).set (.inl rfl) _ _).drewN q).drewN 1).set (.inl rfl) _ _⟩
   rw[heap_setCell_same ((((w.setCell ⟨b,2,none⟩ (.int .i64 X.e)).setCell ⟨b,3,none⟩ (.int .i64 y)).drewN q).drew) _ _ _ _ _ hb1];rfl
  rw[hA] at c0
  have hl2:(h:Int)<(X.n:Int):=by omega
  have hh0:(0:Int)≤(h:Int):=by omega
  generalize t.pos=tp at *
  have HB1h:=hd_ hb1
  have HA:=hd_ hA
  clear H h3 hb1 hA HB
  go_enter Tryz.func41,Tryz.ntmps41
  go_wp2_with fail
  go_quiet (fail)
  go_wp2_with fail
  have k4:(((w.setCell ⟨b,2,none⟩ (.int .i64 X.e)).setCell ⟨b,3,none⟩ (.int .i64 y)).drewN nq).cell? ⟨g,off+h*5+4,none⟩=some (.int .i64 tp):=((far_set _ _ _ hg).trans (far_set _ _ _ hg)).trans d4
  have HB1:(((w.setCell ⟨b,2,none⟩ (.int .i64 X.e)).setCell ⟨b,3,none⟩ (.int .i64 y)).drewN nq).heap[b]?=_:=HB1h.out
  have HE2:=hd_ (HE.out nq)
  clear c0 c1 c2 c3 c4 f2 f3 f4 d4 HE
  generalize ((w.setCell ⟨b,2,none⟩ (.int .i64 X.e)).setCell ⟨b,3,none⟩ (.int .i64 y)).drewN nq=W2 at *
  obtain ⟨c0,c1,c2,c3,c4⟩:=ql_ HB1
  have f2:W2.frozen? ⟨b,2,none⟩=false:=frozen_of_row _ _ _ _ _ HB1
  rw[HA.out] at c0
  clear HB1
  go_still_tail 14,(by kernel_rfl)
  change wpList _ _ _ _ _ W2.drew
  go_wp2_with fail
  exact bodyPost_ret (v:=.tuple #[]) (by simp[results,Tryz.results41,go_sem]) rfl HE2.out
theorem podd_any {l:List Tok}(H:Rdd X b w o (.live l) h) (ho:o≤20) :
  Calls Tryz.prog 43 #[.pointer (some ⟨b,0,none⟩)] w (SayD X b w o (failP X.e 4 (.live l))):=by
 have HH:=hd_ H
 cases l with
 | nil =>
  clear H
  go_enter Tryz.func43,Tryz.ntmps43
  go_wp2_with fail
  refine (qk_ HH.out).mono ?_
  rintro e w2 ⟨rfl,q,rfl⟩
  rw[show kAt []=0 from rfl]
  go_wp2_with fail
  refine (pfail_any (HH.out.drewN q) (y:=5) (by decide) ho (fun _=>rfl)).mono ?_
  rintro e w3 ⟨rfl,hr,hf⟩
  have HE:Hid (SayD X b w o (failP X.e 4 (.live [])) (.returned (.tuple #[])) w3):=⟨rfl,hr,((Fe.refl b w).drewN q).trans hf⟩
  clear hr hf
  go_wp2_with fail
  exact bodyPost_ret (v:=.tuple #[]) (by simp[results,Tryz.results43,go_sem]) rfl HE.out
 | cons t u =>
  have hk:t.kind≠0:=H.gd.1
  have g0:(t.kind == 0)=false:=by simpa using hk
  clear H hk
  go_enter Tryz.func43,Tryz.ntmps43
  go_wp2_with fail
  refine (qk_ HH.out).mono ?_
  rintro e w2 ⟨rfl,q,rfl⟩
  rw[show kAt (t :: u)=t.kind from rfl]
  go_wp2_with fail
  refine (pfail_any (HH.out.drewN q) (y:=4) (by decide) ho (fun h=>by cases h)).mono ?_
  rintro e w3 ⟨rfl,hr,hf⟩
  have HE:Hid (SayD X b w o (failP X.e 4 (.live (t :: u))) (.returned (.tuple #[])) w3):=⟨rfl,hr,((Fe.refl b w).drewN q).trans hf⟩
  clear hr hf
  go_wp2_with fail
  exact bodyPost_ret (v:=.tuple #[]) (by simp[results,Tryz.results43,go_sem]) rfl HE.out
end
def sevD (k:Int) (l:List Nd):Nd:=if l=[] then .mk 1 noName 0 0 [] else Y.several k l
set_option maxHeartbeats 1000000 in
theorem psev_any (k:Int){w:World}{S:Nat→Prop}{A:Option Addr}{n c:Nat}{l:List Nd}(h:RdN w S A n c l) (hS:∀ b,S b→b<w.heap.size) :
  Calls Tryz.prog 90 #[.int .i64 k,.slice A n c] w fun e w' => ∃ v,e=.returned v∧IsN w' S v (sevD k l)∧Below w.heap.size w w' := by
 have hn:=h.small
 by_cases h0:n=0
 ·subst h0
  have hl:l=[]:=List.eq_nil_of_length_eq_zero h.len
  subst hl
  clear h
  go_enter Tryz.func90,Tryz.ntmps90
  go_wp2
  refine bodyPost_ret (v:=.agg #[.int .i64 1,.string noName,.int .i64 0,.int .i64 0,.slice none 0 0]) ?_ rfl ⟨_,rfl,⟨none,0,0,rfl,RdN.nil _ _⟩,qa_ w _⟩
  simp[noName,results,Tryz.results90,go_sem]
 ·have hne:l≠[]:=fun e=>h0 (by rw[← h.len,e];rfl)
  have hs:sevD k l=Y.several k l:=by unfold sevD;rw[if_neg hne]
  rw[hs]
  clear hs
  have g0:((n:Int) == 0)=false:=by simp;omega
  by_cases h1:n=1
  ·subst h1
   obtain ⟨b,off,x,A', n', c', rfl,hb,hx,hr,t0,t1,t2,t3,t4⟩:=h.got (i:=0) (by omega)
   have hl:l=[x]:=by
    have:=h.len
    match l,this with
    | [y],_=>simp at hx;rw[hx]
   subst hl
   simp only[Nat.zero_mul,Nat.add_zero] at t0 t1 t2 t3 t4
   have hbw:=hS b hb
   have HR:=hd_ hr
   clear h hx hr hne h0
   go_enter Tryz.func90,Tryz.ntmps90
   go_wp2
   refine bodyPost_ret (v:=.agg #[.int .i64 x.kind,.string x.name,.int .i64 x.low,.int .i64 x.high,.slice A' n' c']) ?_ rfl ⟨_,rfl,⟨A', n', c', rfl,HR.out.keep (fun _ h=>h) fun p hp=>World.cell?_alloc_lt w _ p (hS _ hp)⟩,qa_ w _⟩
   simp[results,Tryz.results90,go_sem]
  ·have e:Y.several k l=.mk k noName 0 0 l:=by
    unfold Y.several
    split
    ·exact absurd h.len (by simp;omega)
    ·rfl
   rw[e]
   have g1:((n:Int) == 1)=false:=by simp;omega
   have HR:=hd_ h
   clear h hne h0
   go_enter Tryz.func90,Tryz.ntmps90
   go_wp2
   refine bodyPost_ret (v:=.agg #[.int .i64 k,.string noName,.int .i64 0,.int .i64 0,.slice A n c]) ?_ rfl ⟨_,rfl,⟨A,n,c,rfl,HR.out.keep (fun _ h=>h) fun p hp=>World.cell?_alloc_lt w _ p (hS _ hp)⟩,qa_ w _⟩
   simp[noName,results,Tryz.results90,go_sem]
def begB (k:Int):Bool:=[1,12,6,13].contains k
theorem begins_any (k:Int) (w:World):Calls Tryz.prog 106 #[.int .i64 k] w fun e w' => e=.returned (.bool (begB k))∧w=w' := by
 by_cases h1:k=1
 ·subst h1
  go_enter Tryz.func106,Tryz.ntmps106
  go_wp2
  go_ret
  exact ⟨rfl,rfl⟩
 ·have g1:(k == 1)=false:=by simpa using h1
  by_cases h2:k=12
  ·subst h2
   go_enter Tryz.func106,Tryz.ntmps106
   go_wp2
   go_ret
   exact ⟨rfl,rfl⟩
  ·have g2:(k == 12)=false:=by simpa using h2
   by_cases h3:k=6
   ·subst h3
    go_enter Tryz.func106,Tryz.ntmps106
    go_wp2
    go_ret
    exact ⟨rfl,rfl⟩
   ·have g3:(k == 6)=false:=by simpa using h3
    by_cases h4:k=13
    ·subst h4
     go_enter Tryz.func106,Tryz.ntmps106
     go_wp2
     go_ret
     exact ⟨rfl,rfl⟩
    ·have g4:(k == 13)=false:=by simpa using h4
     have hb:begB k=false:=by
      unfold begB
      simp[List.contains,List.elem,g1,g2,g3,g4]
     rw[hb]
     clear h1 h2 h3 h4 hb
     go_enter Tryz.func106,Tryz.ntmps106
     go_wp2
     go_ret
     exact ⟨rfl,rfl⟩
open Y (Nd It Ps nextP takeP failP noTok noName zeroN deepP formP orsP joinP piecesP pieceP bareP setP partsP partP heldP memberP)

def PFQ (X:Px) (b:Nat) (w:World) (o:Nat) (r:Nd × Ps) (en:Ending) (w' : World):Prop:=∃ v x,en=.returned v∧IsN w' (In w.heap.size w'.heap.size) v x∧(∀ ts,r.2=.live ts→x=r.1)∧RdF X b w' o r.2∧Fe b w w'
def DSet (L:Nat):Prop:=∀ (X:Px) (b:Nat) (w:World) (o:Nat) (l:List Tok) (h:Nat),Rdd X b w o (.live l) h→o≤12→nextP [13] (.live l)=true→l.length≤L→∀ m,10*l.length+4≤m→Calls Tryz.prog 124 #[.pointer (some ⟨b,0,none⟩),.int .i64 o] w (PFQ X b w o (setP X.e m o (.live l)))
def DPart (L:Nat):Prop:=∀ (X:Px) (b:Nat) (w:World) (o:Nat) (l:List Tok) (h:Nat),Rdd X b w o (.live l) h→o≤12→l.length≤L→∀ m,10*l.length+7≤m→Calls Tryz.prog 143 #[.pointer (some ⟨b,0,none⟩),.int .i64 o] w (PFQ X b w o (memberP X.e m o (.live l)))
def DPiece (L:Nat):Prop:=∀ (X:Px) (b:Nat) (w:World) (o:Nat) (l:List Tok) (h:Nat),Rdd X b w o (.live l) h→o≤12→nextP [1,12,6,13] (.live l)=true→l.length≤L→∀ m,10*l.length+5≤m→Calls Tryz.prog 107 #[.pointer (some ⟨b,0,none⟩),.int .i64 o] w (PFQ X b w o (bareP X.e m o (.live l)))
def DJoin (L:Nat):Prop:=∀ (X:Px) (b:Nat) (w:World) (o:Nat) (l:List Tok) (h:Nat),Rdd X b w o (.live l) h→o≤12→l.length≤L→∀ m,10*l.length+8≤m→Calls Tryz.prog 89 #[.pointer (some ⟨b,0,none⟩),.int .i64 o] w (PFQ X b w o (joinP X.e m o (.live l)))
def DOr (L:Nat):Prop:=∀ (X:Px) (b:Nat) (w:World) (o:Nat) (l:List Tok) (h:Nat),Rdd X b w o (.live l) h→o≤12→l.length≤L→∀ m,10*l.length+10≤m→Calls Tryz.prog 65 #[.pointer (some ⟨b,0,none⟩),.int .i64 o] w (PFQ X b w o (formP X.e m o (.live l)))
def HeldR (X:Px) (b g off h:Nat) (k:Int) (s:ByteArray) (lo hi p:Int) (w' : World):Prop :=
 w'.cell? ⟨b,0,none⟩=some (.slice (some ⟨g,off,none⟩) X.n X.c)∧w'.cell? ⟨b,4,none⟩=some (.int .i64 h)∧w'.cell? ⟨g,off+h*5,none⟩=some (.int .i64 k)∧w'.cell? ⟨g,off+h*5+1,none⟩=some (.string s)∧w'.cell? ⟨g,off+h*5+2,none⟩=some (.int .i64 lo)∧w'.cell? ⟨g,off+h*5+3,none⟩=some (.int .i64 hi)∧w'.cell? ⟨g,off+h*5+4,none⟩=some (.int .i64 p)
section
variable {X:Px}{b:Nat}{w w2:World}{o h:Nat}{s:Ps}
theorem Rdd.held {t:Tok}{u:List Tok}(H:Rdd X b w o (.live (t :: u)) h):∃ g off,g<b∧h<X.n∧∀ w', Below w.heap.size w w' → HeldR X b g off h t.kind (strOfNums t.text) t.low t.high t.pos w' := by
 obtain ⟨g,off,hA,hg,hlt,d0,d1,d2,d3,d4⟩:=H.tok
 refine ⟨g,off,hg,hlt,fun w' hb=>?_⟩
 obtain ⟨c0,_,_,_,c4⟩:=(H.below hb).cells
 have hbl:=H.lt
 have hc:∀ j,w'.cell? ⟨g,j,none⟩=w.cell? ⟨g,j,none⟩:=fun j=>hb.cell (p:=⟨g,j,none⟩) (by show g<_;omega)
 rw[hA] at c0
 exact ⟨c0,c4,(hc _).trans d0,(hc _).trans d1,(hc _).trans d2,(hc _).trans d3,(hc _).trans d4⟩
theorem Rdd.other5 (H:Rdd X b w o s h){g:Nat}(hg:b<g) (a0 a1 a2 a3 a4:Value):Rdd X b (set5 w g a0 a1 a2 a3 a4) o s h :=
 ((((H.other hg _ _).other hg _ _).other hg _ _).other hg _ _).other hg _ _
theorem pf_end {r:Nd × Ps}{N lo:Nat}{x:Nd}{A:Option Addr}{n c:Nat}(hf:Fe b w w2) (hr:RdF X b w2 o s) (hN:w.heap.size≤N) (hlo:N<lo) (hb:b<w.heap.size) (hv:RdN w2 (In lo w2.heap.size) A n c x.kids) (hs:r.2=s) (hx:∀ ts,s=.live ts→x=r.1) :
  PFQ X b w o r (.returned (.agg #[.int .i64 x.kind,.string x.name,.int .i64 x.low,.int .i64 x.high,.slice A n c])) (set5 w2 N (.int .i64 x.kind) (.string x.name) (.int .i64 x.low) (.int .i64 x.high) (.slice A n c)):=by
 subst hs
 obtain ⟨h,hr⟩:=hr
 refine ⟨_,x,rfl,⟨A,n,c,rfl,hv.keep (fun i hi=>⟨by have:=hi.1;omega,by rw[zq_];exact hi.2⟩) fun p hp=>?_⟩,hx,⟨h,hr.other5 (by omega) _ _ _ _ _⟩,hf.set5 (.inr hN) _ _ _ _ _⟩
 exact World.cell?_of_block (w:=w2) (set5_block _ _ _ _ _ _ _ (by have:=hp.1;omega))
end
theorem zv_ {B N:Nat}{a c:World}(h:Below B a c) (hN:B≤N) (a0 a1 a2 a3 a4:Value):Below B a (set5 c N a0 a1 a2 a3 a4) :=
 ((((h.setCell (p:=⟨N,0,none⟩) hN _).setCell (p:=⟨N,1,none⟩) hN _).setCell (p:=⟨N,2,none⟩) hN _).setCell (p:=⟨N,3,none⟩) hN _).setCell (p:=⟨N,4,none⟩) hN _
set_option maxHeartbeats 1000000 in
theorem dpart_of {L:Nat}(hset:DSet L):DPart L:=by
 intro X b w o l h H ho hl m hm
 obtain ⟨m,rfl⟩:∃ m', m=m' + 1:=⟨m - 1,by omega⟩
 have hlt:=H.lt
 have hres:memberP X.e (m+1) o (.live l)=if nextP [13] (.live l)=true then setP X.e m o (.live l) else (Y.single (takeP X.e [15,1] (.live l)).1,(takeP X.e [15,1] (.live l)).2):=by rw[memberP]
 have HRES:=hd_ hres
 clear hres
 generalize memberP X.e (m+1) o (.live l)=r at *
 have HW1:=hd_ (begN_below w)
 have HR1:=hd_ (H.below HW1.out)
 have HBX:=hd_ (begN_box w)
 have hs1:=begN_size w
 clear H
 cases l with
 | nil =>
  have HRES2:Hid (r=(Y.single noTok,.dead X.e 5)):=by show _=_;rw[HRES.out];rfl
  clear HRES
  go_enter Tryz.func143,Tryz.ntmps143
  go_wp2_with fail
  change Calls _ _ _ (begN w) _
  generalize begN w=W1 at *
  refine (qk_ HR1.out).mono ?_
  rintro e w2 ⟨rfl,q,rfl⟩
  rw[show kAt []=0 from rfl]
  go_wp2_with fail
  refine (podd_any (HR1.out.drewN q) (by omega)).mono ?_
  rintro e w3 ⟨rfl,hr3,hf3⟩
  have HF3:=hd_ ((Fe.of_below HW1.out).trans (((Fe.refl b W1).drewN q).trans hf3))
  have HBX3:=hd_ (HBX.out.fe (((Fe.refl b W1).drewN q).trans hf3) (by omega) (by omega))
  have hsz3:=hf3.size
  replace hsz3:W1.heap.size≤w3.heap.size:=hsz3
  have HE:Hid (PFQ X b w o r _ _):=pf_end (s:=.dead X.e 5) (x:=zeroN) (N:=w.heap.size) (lo:=w.heap.size+1) HF3.out hr3 (Nat.le_refl _) (by omega) hlt (RdN.nil _ _) (by rw[HRES2.out]) (fun ts h=>by cases h)
  have HQ:=hd_ (HBX3.out.set (.int .i64 0) (.string noName) (.int .i64 0) (.int .i64 0) (.slice none 0 0))
  obtain ⟨⟨x0,x1,x2,x3,x4,k0,k1,k2,k3,k4⟩,fN⟩:=HBX3.out.facts
  clear hr3 hf3 HF3 HBX3 HR1 HRES2
  go_wp2_with fail
  change bodyPost _ _ _ _ _ (set5 w3 w.heap.size (.int .i64 0) (.string noName) (.int .i64 0) (.int .i64 0) (.slice none 0 0))
  replace HE:Hid (PFQ X b w o r (.returned (.agg #[.int .i64 0,.string noName,.int .i64 0,.int .i64 0,.slice none 0 0])) (set5 w3 w.heap.size (.int .i64 0) (.string noName) (.int .i64 0) (.int .i64 0) (.slice none 0 0))):=HE
  generalize set5 w3 w.heap.size (.int .i64 0) (.string noName) (.int .i64 0) (.int .i64 0) (.slice none 0 0)=w4 at HE HQ ⊢
  obtain ⟨q0,q1,q2,q3,q4⟩:=ql_ HQ.out
  exact bodyPost_ret (v:=.agg #[.int .i64 0,.string noName,.int .i64 0,.int .i64 0,.slice none 0 0]) (by simp[results,Tryz.results143,go_sem,q0,q1,q2,q3,q4]) rfl HE.out
 | cons t u =>
  obtain ⟨g,off,hg,hh,hheld⟩:=HR1.out.held
  obtain ⟨tk,tt,tlo,thi,tp⟩:=t
  have HHD:Hid (∀ w', Below (begN w).heap.size (begN w) w' → HeldR X b g off h tk (strOfNums tt) tlo thi tp w'):=hheld
  clear hheld
  have hh0:(0:Int)≤(h:Int):=by omega
  have hhn:(h:Int)<(X.n:Int):=by omega
  have hf9:=HR1.out.few
  by_cases h15:tk=15
  ·subst h15
   have HRES2:Hid (r=(.mk 5 noName tlo thi [],.live u)):=by
    show _=_
    rw[HRES.out,Y.next_cons,if_neg (by simp),zn_ (by simp)]
    rfl
   clear HRES
   generalize htx:strOfNums tt=tx at *
   clear htx
   go_enter Tryz.func143,Tryz.ntmps143
   go_wp2_with fail
   change Calls _ _ _ (begN w) _
   generalize begN w=W1 at *
   refine (qk_ HR1.out).mono ?_
   rintro e w2 ⟨rfl,q,rfl⟩
   rw[show kAt (⟨15,tt,tlo,thi,tp⟩ :: u)=15 from rfl]
   go_wp2_with fail
   have HR2:=hd_ (HR1.out.drewN q)
   have HF2:Hid (Fe b w (W1.drewN q)):=(Fe.of_below HW1.out).trans ((Fe.refl b W1).drewN q)
   have HBX2:=hd_ (HBX.out.fe ((Fe.refl b W1).drewN q) (by omega) (by omega))
   have hz2:(W1.drewN q).heap.size=w.heap.size+1:=hs1
   have HS:Hid (∀ w', Below (W1.drewN q).heap.size (W1.drewN q) w' → HeldR X b g off h 15 tx tlo thi tp w'):=fun w' hb=>HHD.out w' ((qb_ (Below.refl _ W1) q).trans hb)
   generalize W1.drewN q=W2 at *
   have SS:HeldR X b g off h 15 tx tlo thi tp W2.drew:=HS.out _ (Below.refl _ _).drew
   clear HR1 HBX HW1 HHD
   refine qw_ (HeldR X b g off h 15 tx tlo thi tp) 11 12 (by kernel_rfl) rfl ?_
   refine qc_ 0 (v:=.pointer (some ⟨b,0,none⟩)) rfl (by kernel_rfl) (by kernel_rfl) (by kernel_rfl) (by kernel_rfl) (fun _ _ _ h=>h) SS rfl (fun w' hS=>?_) ?_
   ·obtain ⟨s0,s1,s2,s3,s4,s5,s6⟩:=hS;go_simp
   refine qc_ 1 (v:=.pointer (some ⟨b,0,none⟩)) rfl (by kernel_rfl) (by kernel_rfl) (by kernel_rfl) (by kernel_rfl) (fun _ _ _ h=>h) SS rfl (fun w' hS=>?_) ?_
   ·obtain ⟨s0,s1,s2,s3,s4,s5,s6⟩:=hS;go_simp
   refine qc_ 2 (v:=.pointer (some ⟨b,0,none⟩)) rfl (by kernel_rfl) (by kernel_rfl) (by kernel_rfl) (by kernel_rfl) (fun _ _ _ h=>h) SS rfl (fun w' hS=>?_) ?_
   ·obtain ⟨s0,s1,s2,s3,s4,s5,s6⟩:=hS;go_simp
   refine qc_ 3 (v:=.slice (some ⟨g,off,none⟩) X.n X.c) rfl (by kernel_rfl) (by kernel_rfl) (by kernel_rfl) (by kernel_rfl) (fun _ _ _ h=>h) SS rfl (fun w' hS=>?_) ?_
   ·obtain ⟨s0,s1,s2,s3,s4,s5,s6⟩:=hS;go_simp
   refine qc_ 4 (v:=.pointer (some ⟨b,0,none⟩)) rfl (by kernel_rfl) (by kernel_rfl) (by kernel_rfl) (by kernel_rfl) (fun _ _ _ h=>h) SS rfl (fun w' hS=>?_) ?_
   ·obtain ⟨s0,s1,s2,s3,s4,s5,s6⟩:=hS;go_simp
   refine qc_ 5 (v:=.pointer (some ⟨b,0,none⟩)) rfl (by kernel_rfl) (by kernel_rfl) (by kernel_rfl) (by kernel_rfl) (fun _ _ _ h=>h) SS rfl (fun w' hS=>?_) ?_
   ·obtain ⟨s0,s1,s2,s3,s4,s5,s6⟩:=hS;go_simp
   refine qc_ 6 (v:=.pointer (some ⟨b,4,none⟩)) rfl (by kernel_rfl) (by kernel_rfl) (by kernel_rfl) (by kernel_rfl) (fun _ _ _ h=>h) SS rfl (fun w' hS=>?_) ?_
   ·obtain ⟨s0,s1,s2,s3,s4,s5,s6⟩:=hS;go_simp
   refine qc_ 7 (v:=.int .i64 h) rfl (by kernel_rfl) (by kernel_rfl) (by kernel_rfl) (by kernel_rfl) (fun _ _ _ h=>h) SS rfl (fun w' hS=>?_) ?_
   ·obtain ⟨s0,s1,s2,s3,s4,s5,s6⟩:=hS;go_simp
   refine qc_ 8 (v:=.pointer (some ⟨g,off+h*5,none⟩)) rfl (by kernel_rfl) (by kernel_rfl) (by kernel_rfl) (by kernel_rfl) (fun _ _ _ h=>h) SS rfl (fun w' hS=>?_) ?_
   ·obtain ⟨s0,s1,s2,s3,s4,s5,s6⟩:=hS;go_simp
   refine qc_ 9 (v:=.agg #[.int .i64 15,.string tx,.int .i64 tlo,.int .i64 thi,.int .i64 tp]) rfl (by kernel_rfl) (by kernel_rfl) (by kernel_rfl) (by kernel_rfl) (fun _ _ _ h=>h) SS rfl (fun w' hS=>?_) ?_
   ·obtain ⟨s0,s1,s2,s3,s4,s5,s6⟩:=hS;go_simp
   refine zk_ 10 rfl (by kernel_rfl) rfl ?_
   go_simp
   have HBA:Hid (Below W2.heap.size W2 ((W2.alloc (.cells #[.int .i64 0,.string { data:=#[] },.int .i64 0,.int .i64 0,.int .i64 0] 129)).drew)):=(qa_ W2 _).drew
   have hNA:((W2.alloc (.cells #[.int .i64 0,.string { data:=#[] },.int .i64 0,.int .i64 0,.int .i64 0] 129)).drew).heap[w.heap.size+1]?=some (.cells #[.int .i64 0,.string { data:=#[] },.int .i64 0,.int .i64 0,.int .i64 0] 129 (0,0)):=by rw[← hz2];exact heap_alloc_new W2 _
   have SA:=HS.out _ HBA.out
   have hzA:((W2.alloc (.cells #[.int .i64 0,.string { data:=#[] },.int .i64 0,.int .i64 0,.int .i64 0] 129)).drew).heap.size=w.heap.size+2:=by rw[show ((W2.alloc (.cells #[.int .i64 0,.string { data:=#[] },.int .i64 0,.int .i64 0,.int .i64 0] 129)).drew).heap.size=W2.heap.size+1 by simp[World.drew]];omega
   generalize ((W2.alloc (.cells #[.int .i64 0,.string { data:=#[] },.int .i64 0,.int .i64 0,.int .i64 0] 129)).drew)=WA at *
   refine ⟨SA,?_⟩
   refine zk_ 11 rfl (by kernel_rfl) rfl ?_
   have HNA:=hd_ hNA
   obtain ⟨z0,z1,z2,z3,z4⟩:=ql_ hNA
   have fA:∀ j,WA.frozen? ⟨w.heap.size+1,j,none⟩=false:=fun j=>frozen_of_row _ _ _ _ _ hNA
   clear hNA SA SS
   go_simp
   refine Z_done (by kernel_rfl) ?_
   unfold OnlyN
   simp only[]
   change Exit.then _ _ .normal _ (set5 WA (w.heap.size+1) (.int .i64 15) (.string tx) (.int .i64 tlo) (.int .i64 thi) (.int .i64 tp))
   have HB3:Hid (Below W2.heap.size W2 (set5 WA (w.heap.size+1) (.int .i64 15) (.string tx) (.int .i64 tlo) (.int .i64 thi) (.int .i64 tp))):=zv_ HBA.out (by omega) _ _ _ _ _
   have HT3:=hd_ (set5_row HNA.out (.int .i64 15) (.string tx) (.int .i64 tlo) (.int .i64 thi) (.int .i64 tp))
   have hz3:(set5 WA (w.heap.size+1) (.int .i64 15) (.string tx) (.int .i64 tlo) (.int .i64 thi) (.int .i64 tp)).heap.size=w.heap.size+2:=by rw[zq_];exact hzA
   clear z0 z1 z2 z3 z4 fA HBA HNA hzA
   generalize set5 WA (w.heap.size+1) (.int .i64 15) (.string tx) (.int .i64 tlo) (.int .i64 thi) (.int .i64 tp)=W3 at *
   have HR3:=hd_ (HR2.out.below HB3.out)
   obtain ⟨_,_,_,_,c4⟩:=HR3.out.cells
   have f4:=HR3.out.fr 4
   obtain ⟨z0,z1,z2,z3,z4⟩:=ql_ HT3.out
   have HBX3:Hid (Box5 W3 w.heap.size 77):=HBX2.out.fe (b:=b) (Fe.of_below HB3.out) (by omega) (by omega)
   have HF4:Hid (Fe b w (W3.setCell ⟨b,4,none⟩ (.int .i64 ((h:Int)+1)))):=(HF2.out.trans (Fe.of_below HB3.out)).set (.inl rfl) _ _
   have HR4:=hd_ (HR3.out.next (x:=(h:Int)+1) rfl)
   have HBX4:Hid (Box5 (W3.setCell ⟨b,4,none⟩ (.int .i64 ((h:Int)+1))) w.heap.size 77):=HBX3.out.fe (b:=b) ((Fe.refl b W3).set (.inl rfl) _ _) (by omega) (by omega)
   have HE:Hid (PFQ X b w o r (.returned (.agg #[.int .i64 5,.string noName,.int .i64 tlo,.int .i64 thi,.slice none 0 0])) (set5 (W3.setCell ⟨b,4,none⟩ (.int .i64 ((h:Int)+1))) w.heap.size (.int .i64 5) (.string noName) (.int .i64 tlo) (.int .i64 thi) (.slice none 0 0))) :=
    pf_end (s:=.live u) (x:=.mk 5 noName tlo thi []) (N:=w.heap.size) (lo:=w.heap.size+1) HF4.out ⟨_,HR4.out⟩ (Nat.le_refl _) (by omega) hlt (RdN.nil _ _) (by rw[HRES2.out]) (fun ts _=>by rw[HRES2.out])
   have HQ:=hd_ (HBX4.out.set (.int .i64 5) (.string noName) (.int .i64 tlo) (.int .i64 thi) (.slice none 0 0))
   obtain ⟨⟨x0,x1,x2,x3,x4,k0,k1,k2,k3,k4⟩,fN⟩:=HBX3.out.facts
   have hne1:w.heap.size+1≠b:=by omega
   have hne2:w.heap.size≠b:=by omega
   clear HR2 HR3 HB3 HT3 HF2 HF4 HR4 HBX2 HBX3 HBX4 HRES2 HS
   go_wp2_with fail
   change bodyPost _ _ _ _ _ (set5 (W3.setCell ⟨b,4,none⟩ (.int .i64 ((h:Int)+1))) w.heap.size (.int .i64 5) (.string noName) (.int .i64 tlo) (.int .i64 thi) (.slice none 0 0))
   generalize set5 (W3.setCell ⟨b,4,none⟩ (.int .i64 ((h:Int)+1))) w.heap.size (.int .i64 5) (.string noName) (.int .i64 tlo) (.int .i64 thi) (.slice none 0 0)=w5 at HE HQ ⊢
   obtain ⟨q0,q1,q2,q3,q4⟩:=ql_ HQ.out
   exact bodyPost_ret (v:=.agg #[.int .i64 5,.string noName,.int .i64 tlo,.int .i64 thi,.slice none 0 0]) (by simp[results,Tryz.results143,go_sem,q0,q1,q2,q3,q4]) rfl HE.out
  ·have g15:(tk == 15)=false:=by simpa using h15
   by_cases h1:tk=1
   ·subst h1
    have HRES2:Hid (r=(.mk 2 (strOfNums tt) 0 0 [],.live u)):=by
     show _=_
     rw[HRES.out,Y.next_cons,if_neg (by simp),zn_ (by simp)]
     rfl
    clear HRES h15
    generalize htx:strOfNums tt=tx at *
    clear htx
    go_enter Tryz.func143,Tryz.ntmps143
    go_wp2_with fail
    change Calls _ _ _ (begN w) _
    generalize begN w=W1 at *
    refine (qk_ HR1.out).mono ?_
    rintro e w2 ⟨rfl,q,rfl⟩
    rw[show kAt (⟨1,tt,tlo,thi,tp⟩ :: u)=1 from rfl]
    go_wp2_with fail
    have HR2:=hd_ (HR1.out.drewN q)
    have HF2:Hid (Fe b w (W1.drewN q)):=(Fe.of_below HW1.out).trans ((Fe.refl b W1).drewN q)
    have HBX2:=hd_ (HBX.out.fe ((Fe.refl b W1).drewN q) (by omega) (by omega))
    have hz2:(W1.drewN q).heap.size=w.heap.size+1:=hs1
    have HS:Hid (∀ w', Below (W1.drewN q).heap.size (W1.drewN q) w' → HeldR X b g off h 1 tx tlo thi tp w'):=fun w' hb=>HHD.out w' ((qb_ (Below.refl _ W1) q).trans hb)
    generalize W1.drewN q=W2 at *
    have SS:HeldR X b g off h 1 tx tlo thi tp W2.drew:=HS.out _ (Below.refl _ _).drew
    clear HR1 HBX HW1 HHD
    refine qw_ (HeldR X b g off h 1 tx tlo thi tp) 11 12 (by kernel_rfl) rfl ?_
    refine qc_ 0 (v:=.pointer (some ⟨b,0,none⟩)) rfl (by kernel_rfl) (by kernel_rfl) (by kernel_rfl) (by kernel_rfl) (fun _ _ _ h=>h) SS rfl (fun w' hS=>?_) ?_
    ·obtain ⟨s0,s1,s2,s3,s4,s5,s6⟩:=hS;go_simp
    refine qc_ 1 (v:=.pointer (some ⟨b,0,none⟩)) rfl (by kernel_rfl) (by kernel_rfl) (by kernel_rfl) (by kernel_rfl) (fun _ _ _ h=>h) SS rfl (fun w' hS=>?_) ?_
    ·obtain ⟨s0,s1,s2,s3,s4,s5,s6⟩:=hS;go_simp
    refine qc_ 2 (v:=.pointer (some ⟨b,0,none⟩)) rfl (by kernel_rfl) (by kernel_rfl) (by kernel_rfl) (by kernel_rfl) (fun _ _ _ h=>h) SS rfl (fun w' hS=>?_) ?_
    ·obtain ⟨s0,s1,s2,s3,s4,s5,s6⟩:=hS;go_simp
    refine qc_ 3 (v:=.slice (some ⟨g,off,none⟩) X.n X.c) rfl (by kernel_rfl) (by kernel_rfl) (by kernel_rfl) (by kernel_rfl) (fun _ _ _ h=>h) SS rfl (fun w' hS=>?_) ?_
    ·obtain ⟨s0,s1,s2,s3,s4,s5,s6⟩:=hS;go_simp
    refine qc_ 4 (v:=.pointer (some ⟨b,0,none⟩)) rfl (by kernel_rfl) (by kernel_rfl) (by kernel_rfl) (by kernel_rfl) (fun _ _ _ h=>h) SS rfl (fun w' hS=>?_) ?_
    ·obtain ⟨s0,s1,s2,s3,s4,s5,s6⟩:=hS;go_simp
    refine qc_ 5 (v:=.pointer (some ⟨b,0,none⟩)) rfl (by kernel_rfl) (by kernel_rfl) (by kernel_rfl) (by kernel_rfl) (fun _ _ _ h=>h) SS rfl (fun w' hS=>?_) ?_
    ·obtain ⟨s0,s1,s2,s3,s4,s5,s6⟩:=hS;go_simp
    refine qc_ 6 (v:=.pointer (some ⟨b,4,none⟩)) rfl (by kernel_rfl) (by kernel_rfl) (by kernel_rfl) (by kernel_rfl) (fun _ _ _ h=>h) SS rfl (fun w' hS=>?_) ?_
    ·obtain ⟨s0,s1,s2,s3,s4,s5,s6⟩:=hS;go_simp
    refine qc_ 7 (v:=.int .i64 h) rfl (by kernel_rfl) (by kernel_rfl) (by kernel_rfl) (by kernel_rfl) (fun _ _ _ h=>h) SS rfl (fun w' hS=>?_) ?_
    ·obtain ⟨s0,s1,s2,s3,s4,s5,s6⟩:=hS;go_simp
    refine qc_ 8 (v:=.pointer (some ⟨g,off+h*5,none⟩)) rfl (by kernel_rfl) (by kernel_rfl) (by kernel_rfl) (by kernel_rfl) (fun _ _ _ h=>h) SS rfl (fun w' hS=>?_) ?_
    ·obtain ⟨s0,s1,s2,s3,s4,s5,s6⟩:=hS;go_simp
    refine qc_ 9 (v:=.agg #[.int .i64 1,.string tx,.int .i64 tlo,.int .i64 thi,.int .i64 tp]) rfl (by kernel_rfl) (by kernel_rfl) (by kernel_rfl) (by kernel_rfl) (fun _ _ _ h=>h) SS rfl (fun w' hS=>?_) ?_
    ·obtain ⟨s0,s1,s2,s3,s4,s5,s6⟩:=hS;go_simp
    refine zk_ 10 rfl (by kernel_rfl) rfl ?_
    go_simp
    have HBA:Hid (Below W2.heap.size W2 ((W2.alloc (.cells #[.int .i64 0,.string { data:=#[] },.int .i64 0,.int .i64 0,.int .i64 0] 129)).drew)):=(qa_ W2 _).drew
    have hNA:((W2.alloc (.cells #[.int .i64 0,.string { data:=#[] },.int .i64 0,.int .i64 0,.int .i64 0] 129)).drew).heap[w.heap.size+1]?=some (.cells #[.int .i64 0,.string { data:=#[] },.int .i64 0,.int .i64 0,.int .i64 0] 129 (0,0)):=by rw[← hz2];exact heap_alloc_new W2 _
    have SA:=HS.out _ HBA.out
    have hzA:((W2.alloc (.cells #[.int .i64 0,.string { data:=#[] },.int .i64 0,.int .i64 0,.int .i64 0] 129)).drew).heap.size=w.heap.size+2:=by rw[show ((W2.alloc (.cells #[.int .i64 0,.string { data:=#[] },.int .i64 0,.int .i64 0,.int .i64 0] 129)).drew).heap.size=W2.heap.size+1 by simp[World.drew]];omega
    generalize ((W2.alloc (.cells #[.int .i64 0,.string { data:=#[] },.int .i64 0,.int .i64 0,.int .i64 0] 129)).drew)=WA at *
    refine ⟨SA,?_⟩
    refine zk_ 11 rfl (by kernel_rfl) rfl ?_
    have HNA:=hd_ hNA
    obtain ⟨z0,z1,z2,z3,z4⟩:=ql_ hNA
    have fA:∀ j,WA.frozen? ⟨w.heap.size+1,j,none⟩=false:=fun j=>frozen_of_row _ _ _ _ _ hNA
    clear hNA SA SS
    go_simp
    refine Z_done (by kernel_rfl) ?_
    unfold OnlyN
    simp only[]
    change Exit.then _ _ .normal _ (set5 WA (w.heap.size+1) (.int .i64 1) (.string tx) (.int .i64 tlo) (.int .i64 thi) (.int .i64 tp))
    have HB3:Hid (Below W2.heap.size W2 (set5 WA (w.heap.size+1) (.int .i64 1) (.string tx) (.int .i64 tlo) (.int .i64 thi) (.int .i64 tp))):=zv_ HBA.out (by omega) _ _ _ _ _
    have HT3:=hd_ (set5_row HNA.out (.int .i64 1) (.string tx) (.int .i64 tlo) (.int .i64 thi) (.int .i64 tp))
    have hz3:(set5 WA (w.heap.size+1) (.int .i64 1) (.string tx) (.int .i64 tlo) (.int .i64 thi) (.int .i64 tp)).heap.size=w.heap.size+2:=by rw[zq_];exact hzA
    clear z0 z1 z2 z3 z4 fA HBA HNA hzA
    generalize set5 WA (w.heap.size+1) (.int .i64 1) (.string tx) (.int .i64 tlo) (.int .i64 thi) (.int .i64 tp)=W3 at *
    have HR3:=hd_ (HR2.out.below HB3.out)
    obtain ⟨_,_,_,_,c4⟩:=HR3.out.cells
    have f4:=HR3.out.fr 4
    obtain ⟨z0,z1,z2,z3,z4⟩:=ql_ HT3.out
    have HBX3:Hid (Box5 W3 w.heap.size 77):=HBX2.out.fe (b:=b) (Fe.of_below HB3.out) (by omega) (by omega)
    have HF4:Hid (Fe b w (W3.setCell ⟨b,4,none⟩ (.int .i64 ((h:Int)+1)))):=(HF2.out.trans (Fe.of_below HB3.out)).set (.inl rfl) _ _
    have HR4:=hd_ (HR3.out.next (x:=(h:Int)+1) rfl)
    have HBX4:Hid (Box5 (W3.setCell ⟨b,4,none⟩ (.int .i64 ((h:Int)+1))) w.heap.size 77):=HBX3.out.fe (b:=b) ((Fe.refl b W3).set (.inl rfl) _ _) (by omega) (by omega)
    have HE:Hid (PFQ X b w o r (.returned (.agg #[.int .i64 2,.string tx,.int .i64 0,.int .i64 0,.slice none 0 0])) (set5 (W3.setCell ⟨b,4,none⟩ (.int .i64 ((h:Int)+1))) w.heap.size (.int .i64 2) (.string tx) (.int .i64 0) (.int .i64 0) (.slice none 0 0))) :=
     pf_end (s:=.live u) (x:=.mk 2 tx 0 0 []) (N:=w.heap.size) (lo:=w.heap.size+1) HF4.out ⟨_,HR4.out⟩ (Nat.le_refl _) (by omega) hlt (RdN.nil _ _) (by rw[HRES2.out]) (fun ts _=>by rw[HRES2.out])
    have HQ:=hd_ (HBX4.out.set (.int .i64 2) (.string tx) (.int .i64 0) (.int .i64 0) (.slice none 0 0))
    obtain ⟨⟨x0,x1,x2,x3,x4,k0,k1,k2,k3,k4⟩,fN⟩:=HBX3.out.facts
    have hne1:w.heap.size+1≠b:=by omega
    have hne2:w.heap.size≠b:=by omega
    clear HR2 HR3 HB3 HT3 HF2 HF4 HR4 HBX2 HBX3 HBX4 HRES2 HS
    go_wp2_with fail
    change bodyPost _ _ _ _ _ (set5 (W3.setCell ⟨b,4,none⟩ (.int .i64 ((h:Int)+1))) w.heap.size (.int .i64 2) (.string tx) (.int .i64 0) (.int .i64 0) (.slice none 0 0))
    generalize set5 (W3.setCell ⟨b,4,none⟩ (.int .i64 ((h:Int)+1))) w.heap.size (.int .i64 2) (.string tx) (.int .i64 0) (.int .i64 0) (.slice none 0 0)=w5 at HE HQ ⊢
    obtain ⟨q0,q1,q2,q3,q4⟩:=ql_ HQ.out
    exact bodyPost_ret (v:=.agg #[.int .i64 2,.string tx,.int .i64 0,.int .i64 0,.slice none 0 0]) (by simp[results,Tryz.results143,go_sem,q0,q1,q2,q3,q4]) rfl HE.out
   ·have g1:(tk == 1)=false:=by simpa using h1
    by_cases h13:tk=13
    ·subst h13
     have hnx:nextP [13] (.live (⟨13,tt,tlo,thi,tp⟩ :: u))=true:=rfl
     have HRES2:Hid (r=setP X.e m o (.live (⟨13,tt,tlo,thi,tp⟩ :: u))):=by show _=_;rw[HRES.out,if_pos hnx]
     have HC:Hid (∀ q,_):=fun q=>hset X b ((begN w).drewN q) o _ h (HR1.out.drewN q) ho hnx hl m (by omega)
     clear HRES h15 h1 hnx
     go_enter Tryz.func143,Tryz.ntmps143
     go_wp2_with fail
     change Calls _ _ _ (begN w) _
     generalize begN w=W1 at *
     refine (qk_ HR1.out).mono ?_
     rintro e w2 ⟨rfl,q,rfl⟩
     rw[show kAt (⟨13,tt,tlo,thi,tp⟩ :: u)=13 from rfl]
     go_wp2_with fail
     refine (HC.out q).mono ?_
     rintro en w3 ⟨v,x,rfl,⟨A,n,c,rfl,hv⟩,hx,hr3,hf3⟩
     have HF03:Hid (Fe b W1 w3):=((Fe.refl b W1).drewN q).trans hf3
     have HF3:=hd_ ((Fe.of_below HW1.out).trans HF03.out)
     have HBX3:=hd_ (HBX.out.fe HF03.out (by omega) (by omega))
     have hv' : RdN w3 (In W1.heap.size w3.heap.size) A n c x.kids:=hv
     rw[← HRES2.out] at hx hr3
     have HE:Hid (PFQ X b w o r (.returned (.agg #[.int .i64 x.kind,.string x.name,.int .i64 x.low,.int .i64 x.high,.slice A n c])) (set5 w3 w.heap.size (.int .i64 x.kind) (.string x.name) (.int .i64 x.low) (.int .i64 x.high) (.slice A n c))) :=
      pf_end (s:=r.2) (x:=x) (N:=w.heap.size) (lo:=W1.heap.size) HF3.out hr3 (Nat.le_refl _) (by omega) hlt hv' rfl hx
     obtain ⟨⟨x0,x1,x2,x3,x4,k0,k1,k2,k3,k4⟩,fN⟩:=HBX3.out.facts
     have HQ:=hd_ (HBX3.out.set (.int .i64 x.kind) (.string x.name) (.int .i64 x.low) (.int .i64 x.high) (.slice A n c))
     clear hv hv' hx hr3 hf3 HC HF3 HF03 HBX3 HBX HR1 HRES2
     go_wp2_with fail
     change bodyPost _ _ _ _ _ (set5 w3 w.heap.size _ _ _ _ _)
     generalize set5 w3 w.heap.size (.int .i64 x.kind) (.string x.name) (.int .i64 x.low) (.int .i64 x.high) (.slice A n c)=w4 at HE HQ ⊢
     obtain ⟨q0,q1,q2,q3,q4⟩:=ql_ HQ.out
     exact bodyPost_ret (v:=.agg #[.int .i64 x.kind,.string x.name,.int .i64 x.low,.int .i64 x.high,.slice A n c]) (by simp[results,Tryz.results143,go_sem,q0,q1,q2,q3,q4]) rfl HE.out
    ·have g13:(tk == 13)=false:=by simpa using h13
     have HRES2:Hid (r.2=failP X.e 4 (.live (⟨tk,tt,tlo,thi,tp⟩ :: u))):=by
      show _=_
      rw[HRES.out,Y.next_cons,if_neg (by simp;exact h13),Y.take_cons,if_neg (by simp;exact ⟨h15,h1⟩)]
      rfl
     clear HRES h15 h1 h13
     go_enter Tryz.func143,Tryz.ntmps143
     go_wp2_with fail
     change Calls _ _ _ (begN w) _
     generalize begN w=W1 at *
     refine (qk_ HR1.out).mono ?_
     rintro e w2 ⟨rfl,q,rfl⟩
     rw[show kAt (⟨tk,tt,tlo,thi,tp⟩ :: u)=tk from rfl]
     go_wp2_with fail
     refine (podd_any (HR1.out.drewN q) (by omega)).mono ?_
     rintro e w3 ⟨rfl,hr3,hf3⟩
     have HF03:Hid (Fe b W1 w3):=((Fe.refl b W1).drewN q).trans hf3
     have HF3:=hd_ ((Fe.of_below HW1.out).trans HF03.out)
     have HBX3:=hd_ (HBX.out.fe HF03.out (by omega) (by omega))
     have HE:Hid (PFQ X b w o r (.returned (.agg #[.int .i64 0,.string noName,.int .i64 0,.int .i64 0,.slice none 0 0])) (set5 w3 w.heap.size (.int .i64 0) (.string noName) (.int .i64 0) (.int .i64 0) (.slice none 0 0))) :=
      pf_end (s:=failP X.e 4 (.live (⟨tk,tt,tlo,thi,tp⟩ :: u))) (x:=zeroN) (N:=w.heap.size) (lo:=w.heap.size+1) HF3.out hr3 (Nat.le_refl _) (by omega) hlt (RdN.nil _ _) HRES2.out (fun ts h=>by cases h)
     have HQ:=hd_ (HBX3.out.set (.int .i64 0) (.string noName) (.int .i64 0) (.int .i64 0) (.slice none 0 0))
     obtain ⟨⟨x0,x1,x2,x3,x4,k0,k1,k2,k3,k4⟩,fN⟩:=HBX3.out.facts
     clear hr3 hf3 HF3 HF03 HBX3 HR1 HRES2 HBX
     go_wp2_with fail
     change bodyPost _ _ _ _ _ (set5 w3 w.heap.size (.int .i64 0) (.string noName) (.int .i64 0) (.int .i64 0) (.slice none 0 0))
     generalize set5 w3 w.heap.size (.int .i64 0) (.string noName) (.int .i64 0) (.int .i64 0) (.slice none 0 0)=w4 at HE HQ ⊢
     obtain ⟨q0,q1,q2,q3,q4⟩:=ql_ HQ.out
     exact bodyPost_ret (v:=.agg #[.int .i64 0,.string noName,.int .i64 0,.int .i64 0,.slice none 0 0]) (by simp[results,Tryz.results143,go_sem,q0,q1,q2,q3,q4]) rfl HE.out

theorem RdF.below {X:Px}{b:Nat}{w w' : World}{o:Nat}{s:Ps}(H:RdF X b w o s) (hb:Below w.heap.size w w'):RdF X b w' o s:=by obtain ⟨h,H⟩:=H;exact ⟨h,H.below hb⟩
theorem RdF.drewN {X:Px}{b:Nat}{w:World}{o:Nat}{s:Ps}(H:RdF X b w o s) (q:Nat):RdF X b (w.drewN q) o s:=by obtain ⟨h,H⟩:=H;exact ⟨h,H.drewN q⟩
theorem RdF.dlen {X:Px}{b:Nat}{w:World}{o:Nat}{s:Ps}(H:RdF X b w o s):dlen b w=left_ s:=by obtain ⟨h,H⟩:=H;exact H.dlen
theorem RdF.grown {X:Px}{b:Nat}{w w' : World}{o:Nat}{s:Ps}{row:Option Nat}(H:RdF X b w o s) (hg:w.grownBy w' row) (hr:∀ i,row=some i→b<i):RdF X b w' o s:=by
  obtain ⟨h,H⟩:=H
  have hlt:=H.lt
  have hk:∀ i,i≤b→w'.heap[i]?=w.heap[i]? := fun i hi=>hg.block i (by omega) (fun e=>by have:=hr i e.symm;omega)
  exact ⟨h,(hk b (Nat.le_refl _)).trans H.blk,H.rd.keep fun p hp=>World.cell?_of_block (hk p.block (by omega)),H.st,H.few,H.good⟩
theorem RdF.left_ {X:Px}{b:Nat}{w:World}{o:Nat}{s:Ps}(H:RdF X b w o s):left_ s≤4001:=by
  obtain ⟨h,H⟩:=H
  cases s with
  | live l=>have:=H.live.2.2;have:=H.few;show l.length+1≤4001;omega
  | dead a y=>show 0≤4001;omega
structure ManyD {α:Type}(X:Px) (b:Nat) (w:World) (o L K:Nat) (f:Nat→List Nd→Ps→α × Ps) (r:α × Ps) (fin:Ps) (v:Value) (l:List Nd) (s:Ps) (m' : Nat) (wx:World):Prop where
  own:OwnN wx w.heap.size v l
  rd:RdF X b wx o s
  fe:Fe b w wx
  eq1:∀ ts,s=.live ts→r=f m' l (.live ts)
  eq2:∀ a y,s=.dead a y→fin=.dead a y
  fuel:∀ ts,s=.live ts→10*ts.length+K≤m'
  lim:∀ ts,s=.live ts→ts.length≤L
  len:l.length+left_ s≤9000
structure GotD (X:Px) (b:Nat) (w:World) (o:Nat) (v:Value) (l:List Nd) (x:Nd) (s:Ps) (A:Option Addr) (n c N:Nat) (W4:World):Prop where
  rd:RdF X b W4 o s
  fe:Fe b w W4
  own:OwnN W4 w.heap.size v l
  row:W4.heap[N]?=some (.cells #[.int .i64 x.kind,.string x.name,.int .i64 x.low,.int .i64 x.high,.slice A n c] 77 (0,0))
  nd:NdAt W4 (fun b=>w.heap.size≤b∧b<W4.heap.size∧v.ownBlock≠some b) [.int .i64 x.kind,.string x.name,.int .i64 x.low,.int .i64 x.high,.slice A n c] x
section
variable {X:Px}{b o:Nat}{w wr w3 w5:World}{v v5:Value}{l:List Nd}{x:Nd}{s:Ps}{A:Option Addr}{n c lo:Nat}
theorem got_d (hown:OwnN wr w.heap.size v l) (hfe:Fe b w wr) (hb:b<w.heap.size) (h2:Fe b wr w3) (hr3:RdF X b w3 o s) (hlo:wr.heap.size≤lo) (hv:RdN w3 (In lo w3.heap.size) A n c x.kids) :
    GotD X b w o v l x s A n c w3.heap.size (litN w3 (.int .i64 x.kind) (.string x.name) (.int .i64 x.low) (.int .i64 x.high) (.slice A n c)):=by
  have h4:=litN_below w3 (.int .i64 x.kind) (.string x.name) (.int .i64 x.low) (.int .i64 x.high) (.slice A n c)
  have hrow:=litN_row w3 (.int .i64 x.kind) (.string x.name) (.int .i64 x.low) (.int .i64 x.high) (.slice A n c) _ rfl
  generalize litN w3 (.int .i64 x.kind) (.string x.name) (.int .i64 x.low) (.int .i64 x.high) (.slice A n c)=W4 at *
  have hbl:=hown.block
  have s1:=hfe.size
  have s2:=h2.size
  have s4:=h4.size
  refine ⟨hr3.below h4,(hfe.trans h2).trans (Fe.of_below h4),(hown.fe h2 hb).keep s4 fun i _ hi=>h4.block i hi,hrow,?_⟩
  have h5:RdN W4 (fun b=>w.heap.size≤b∧b<W4.heap.size∧v.ownBlock≠some b) A n c x.kids:=hv.keep (fun i hi=>⟨by have:=hi.1;omega,by have:=hi.2;omega,fun e=>by have:=(hbl i e).2;have:=hi.1;omega⟩) (fun p hp=>h4.cell hp.2)
  have h6:=NdAt.of h5 x.kind x.low x.high x.name
  rwa [nd_eta] at h6
theorem GotD.done {N:Nat}{W4:World}(h:GotD X b w o v l x s A n c N W4) (hb:b<w.heap.size) (hg:W4.grownBy w5 v.ownBlock):RdF X b w5 o s∧Fe b w w5:=by
  have hbl:=h.own.block
  exact ⟨h.rd.grown hg (fun i hi=>by have:=(hbl i hi).1;omega),h.fe.grown hg (fun i hi=>(hbl i hi).1)⟩
end
def SevQ (lo:Nat) (kk:Int) (l:List Nd) (W2:World) (en:Ending) (w5:World):Prop:=∃ v,en=.returned v∧IsN w5 (In lo W2.heap.size) v (sevD kk l)∧Below W2.heap.size W2 w5
def EndD (X : Px) (b : Nat) (w : World) (o : Nat) (r : Nd × Ps) (en : Ending) (w5 : World) : Prop := ∃ (y : Nd) (A' : Option Addr) (n c : Nat), en = .returned (.agg #[.int .i64 y.kind, .string y.name, .int .i64 y.low, .int .i64 y.high, .slice A' n c]) ∧ Box5 w5 w.heap.size 77 ∧
      PFQ X b w o r (.returned (.agg #[.int .i64 y.kind,.string y.name,.int .i64 y.low,.int .i64 y.high,.slice A' n c])) (set5 w5 w.heap.size (.int .i64 y.kind) (.string y.name) (.int .i64 y.low) (.int .i64 y.high) (.slice A' n c))
theorem many_end {X:Px}{b o:Nat}{w W2 w5:World}{l:List Nd}{s:Ps}{kk:Int}{r:Nd × Ps}{lo:Nat}{en:Ending}(hBX:Box5 W2 w.heap.size 77) (hF:Fe b w W2) (hr2:RdF X b W2 o s) (he:r.2=s) (hx:∀ ts,s=.live ts→sevD kk l=r.1) (hlt:b<w.heap.size) (hlo:w.heap.size<lo)
    (hq:SevQ lo kk l W2 en w5):EndD X b w o r en w5:=by
  obtain ⟨v,rfl,⟨A', n,c,rfl,hv⟩,hb5⟩:=hq
  have hz5:=hb5.size
  have hw:w.heap.size<W2.heap.size:=by
    obtain ⟨_,_,_,_,_,h⟩:=hBX
    exact (Array.getElem?_eq_some_iff.1 h).1
  exact ⟨sevD kk l,A', n,c,rfl,hBX.fe (b:=b) (Fe.of_below hb5) (by omega) hw,pf_end (s:=s) (x:=sevD kk l) (N:=w.heap.size) (lo:=lo) (hF.trans (Fe.of_below hb5)) (hr2.below hb5) (Nat.le_refl _) hlo hlt (hv.keep (fun i hi=>⟨hi.1,by have:=hi.2;omega⟩) (fun _ _=>rfl)) he hx⟩
set_option maxHeartbeats 1500000 in
theorem dor_of {L:Nat}(hjoin:DJoin L):DOr L:=by
  intro X b w o l h H ho hl m hm
  obtain ⟨m,rfl⟩:∃ m', m=m' + 1:=⟨m - 1,by omega⟩
  have hlt:=H.lt
  have hres:formP X.e (m+1) o (.live l)=orsP X.e m o [(joinP X.e m o (.live l)).1] (joinP X.e m o (.live l)).2:=by rw[formP]
  have HRES:=hd_ hres
  clear hres
  generalize formP X.e (m+1) o (.live l)=r at *
  have HW1:=hd_ (begN_below w)
  have HR1:=hd_ (H.below HW1.out)
  have HBX:=hd_ (begN_box w)
  have hs1:=begN_size w
  have hfew:l.length≤4000:=by have:=H.live.2.2;have:=H.few;omega
  clear H
  go_enter Tryz.func65,Tryz.ntmps65
  go_wp2_with fail
  change Calls _ _ _ (begN w) _
  generalize begN w=W1 at *
  have hb1:b<W1.heap.size:=by omega
  have hlen0:(joinP X.e m o (.live l)).2.toks.length≤l.length:=(Y.len_all X.e m).join o (.live l)
  have hdead:=(Y.dead_all X.e m).ors o
  have HC:=hd_ (hjoin X b W1 o l h HR1.out ho hl m (by omega))
  generalize joinP X.e m o (.live l)=k at *
  refine HC.out.mono ?_
  rintro en w3 ⟨v,x,rfl,⟨A,n,c,rfl,hv⟩,hx1,hr3,hf3⟩
  have hx:=NdAt.of hv x.kind x.low x.high x.name
  rw[nd_eta] at hx
  have ho4:=OwnN.lit hf3.size hx
  have h4:=litN_below w3 (.int .i64 x.kind) (.string x.name) (.int .i64 x.low) (.int .i64 x.high) (.slice A n c)
  have HST:Hid (ManyD X b W1 o L 9 (fun m=>orsP X.e m o) r r.2 (.slice (some ⟨w3.heap.size,0,none⟩) 1 1) [x] k.2 m (litN w3 (.int .i64 x.kind) (.string x.name) (.int .i64 x.low) (.int .i64 x.high) (.slice A n c))):=by
    refine ⟨ho4,hr3.below h4,hf3.trans (Fe.of_below h4),fun ts e=>?_,fun a y e=>?_,fun ts e=>?_,fun ts e=>?_,?_⟩
    · rw[hx1 ts e,HRES.out,e]
    · rw[HRES.out,e];exact hdead _ a y
    · rw[e] at hlen0;have:ts.length≤l.length:=hlen0;omega
    · rw[e] at hlen0;have:ts.length≤l.length:=hlen0;omega
    · have:=hr3.left_;simp;omega
  clear hv hr3 hf3 hx ho4 h4 HC HRES HR1 hdead hx1
  go_wp2_with fail
  have HW:Hid (w3.alloc (.cells #[.int .i64 x.kind,.string x.name,.int .i64 x.low,.int .i64 x.high,.slice A n c] 77)=litN w3 (.int .i64 x.kind) (.string x.name) (.int .i64 x.low) (.int .i64 x.high) (.slice A n c)):=rfl
  rw[HW.out]
  clear HW
  generalize litN w3 (.int .i64 x.kind) (.string x.name) (.int .i64 x.low) (.int .i64 x.high) (.slice A n c)=W4 at *
  generalize k.2=k2 at *
  go_loopw [5] (fun v wx=>∃ (l:List Nd) (s' : Ps) (m' : Nat),l≠[]∧Hid (ManyD X b W1 o L 9 (fun m=>orsP X.e m o) r r.2 v l s' m' wx)) (fun _ wx=>dlen b wx)
  case atStart=>exact ⟨[x],k2,m,by simp,HST.out⟩
  case round =>
    obtain ⟨l', s', m', hne,HM⟩:=hrel
    clear HST hl hfew hm hlen0
    have hlen:=HM.out.len
    have hszr:=HM.out.fe.size
    have HLN:Hid (dlen b wr=left_ s'):=HM.out.rd.dlen
    have HBXr:Hid (Box5 wr w.heap.size 77):=HBX.out.fe HM.out.fe (by omega) (by omega)
    have HFr:Hid (Fe b w wr):=(Fe.of_below HW1.out).trans HM.out.fe
    have hsv:sevD 9 l' = Y.several 9 l' := by unfold sevD;rw[if_neg hne]
    have HSV:=hd_ hsv
    clear hsv hne
    obtain ⟨A,c,rfl,hv⟩:=HM.out.own.rd
    have HV:=hd_ hv
    clear hv
    obtain ⟨hh,hrd⟩:=HM.out.rd
    have HRD:=hd_ hrd
    obtain ⟨_,_,_,c3,_⟩:=hrd.cells
    clear hrd
    cases s' with
    | dead a y =>
      replace c3:wr.cell? ⟨b,3,none⟩=some (.int .i64 y):=c3
      have hy:y≠0:=by
        rcases HRD.out.st with ⟨h1,_⟩|⟨a', y', h1,h2,_⟩
        · cases h1
        · injection h1 with _ h1;subst h1;exact h2
      have g1:(y == 0)=false:=by simpa using hy
      have HK:Hid (r.2=.dead a y):=HM.out.eq2 a y rfl
      have HC2:=hd_ (psev_any 9 HV.out (fun _ h=>h.2))
      have HEND:Hid (∀ en w5,SevQ W1.heap.size 9 l' wr en w5→EndD X b w o r en w5):=fun en w5 hq=>many_end (kk:=9) (l:=l') HBXr.out HFr.out HM.out.rd HK.out (fun ts e=>by cases e) hlt (lo:=W1.heap.size) (by omega) hq
      clear HLN hy
      go_wp2_with fail
      refine HC2.out.mono ?_
      intro en w5 hq
      obtain ⟨y', A', n,c', rfl,hbx,HE⟩:=HEND.out en w5 hq
      have HE:=hd_ HE
      have HQ:=hd_ (hbx.set (.int .i64 y'.kind) (.string y'.name) (.int .i64 y'.low) (.int .i64 y'.high) (.slice A' n c'))
      obtain ⟨⟨x0,x1,x2,x3,x4,k0,k1,k2,k3,k4⟩,fN⟩:=hbx.facts
      clear hbx hq HEND HC2 c3
      go_wp2_with fail
      change bodyPost _ _ _ _ _ (set5 w5 w.heap.size _ _ _ _ _)
      generalize set5 w5 w.heap.size (.int .i64 y'.kind) (.string y'.name) (.int .i64 y'.low) (.int .i64 y'.high) (.slice A' n c')=w6 at HE HQ ⊢
      obtain ⟨q0,q1,q2,q3,q4⟩:=ql_ HQ.out
      exact bodyPost_ret (v:=.agg #[.int .i64 y'.kind,.string y'.name,.int .i64 y'.low,.int .i64 y'.high,.slice A' n c']) (by simp[results,Tryz.results65,go_sem,q0,q1,q2,q3,q4]) rfl HE.out
    | live ts =>
      replace c3:wr.cell? ⟨b,3,none⟩=some (.int .i64 0):=c3
      have hfu:=HM.out.fuel ts rfl
      have hlim:=HM.out.lim ts rfl
      obtain ⟨m', rfl⟩:∃ m1,m' = m1+1:=⟨m' - 1,by omega⟩
      have hpn:orsP X.e (m' + 1) o l' (.live ts)=if nextP [8] (.live ts)=true then orsP X.e m' o (l' ++ [(joinP X.e m' o (takeP X.e [8] (.live ts)).2).1]) (joinP X.e m' o (takeP X.e [8] (.live ts)).2).2 else (Y.several 9 l', .live ts):=by rw[orsP]
      have HEQ:Hid (r=orsP X.e (m' + 1) o l' (.live ts)):=HM.out.eq1 ts rfl
      have HPN:=hd_ hpn
      clear hpn
      have HKD:Hid (∀ q,_):=fun q=>qk_ (HRD.out.drewN q)
      have HKD0:=hd_ (qk_ HRD.out)
      by_cases h8:kAt ts=8
      · obtain ⟨t,u,rfl⟩:∃ t u,ts=t :: u:=by
          cases ts with
          | nil=>exact absurd h8 (by decide)
          | cons t u=>exact ⟨t,u,rfl⟩
        have hk8:t.kind=8:=h8
        have HK:Hid (r=orsP X.e m' o (l' ++ [(joinP X.e m' o (.live u)).1]) (joinP X.e m' o (.live u)).2):=by
          show _=_
          rw[HEQ.out,HPN.out,Y.next_cons,if_pos (by simp[hk8]),zn_ (by simp[hk8])]
        simp only[List.length_cons] at hfu hlim hlen
        have HLE:Hid (left_ (.live (t :: u))=u.length+2):=rfl
        rw[HLE.out] at hlen HLN
        have hkd:=qk_ HRD.out
        rw[h8] at hkd
        have HKD1:=hd_ hkd
        clear hkd
        have HD:Hid (∀ a y,(orsP X.e m' o (l' ++ [(joinP X.e m' o (.live u)).1]) (.dead a y)).2=.dead a y):=(Y.dead_all X.e m').ors o _
        have HLN1:Hid ((joinP X.e m' o (.live u)).2.toks.length≤u.length):=(Y.len_all X.e m').join o (.live u)
        have HR2:Hid (∀ q,Rdd X b ((wr.drewN q).setCell ⟨b,4,none⟩ (.int .i64 ((hh:Int)+1))) o (.live u) (hh+1)):=fun q=>(HRD.out.drewN q).next rfl
        have HC:Hid (∀ q,_):=fun q=>hjoin X b _ o u (hh+1) (HR2.out q) ho (by omega) m' (by omega)
        have HF2:Hid (∀ q,Fe b wr ((wr.drewN q).setCell ⟨b,4,none⟩ (.int .i64 ((hh:Int)+1)))):=fun q=>((Fe.refl b wr).drewN q).set (.inl rfl) _ _
        have hle:=HRD.out.le
        obtain ⟨_,_,_,_,c4⟩:=HRD.out.cells
        have f4:=HRD.out.fr 4
        clear HPN HEQ h8 hk8 HKD HKD0 HLE
        go_wp2_with fail
        refine HKD1.out.mono ?_
        rintro e w2 ⟨rfl,q,rfl⟩
        go_wp2_with fail
        refine (HC.out q).mono ?_
        rintro en w5 ⟨v,x', rfl,⟨A5,n5,c5,rfl,hv5⟩,hx5,hr5,hf5⟩
        have hz2:=(HF2.out q).size
        have HG:=hd_ (got_d HM.out.own HM.out.fe hb1 ((HF2.out q).trans hf5) hr5 hz2 hv5)
        have HX5:=hd_ hx5
        clear hv5 hr5 hf5 HC HF2 HR2 hx5 c3 c4 f4 HKD1
        go_wp2_with (at_builtin;change wpList _ _ _ _ _ (litN w5 (.int .i64 x'.kind) (.string x'.name) (.int .i64 x'.low) (.int .i64 x'.high) (.slice A5 n5 c5));refine app_n rfl _ _ rfl W1.heap.size _ l' rfl HG.out.own w5.heap.size x' _ _ _ _ _ rfl HG.out.row HG.out.nd (by omega) HG.out.fe.size ?_;intro v6 w6 ho6 hg6)
        obtain ⟨hr6,hf6⟩:=HG.out.done hb1 hg6
        have HDN:Hid (ManyD X b W1 o L 9 (fun m=>orsP X.e m o) r r.2 v6 (l' ++ [x']) (joinP X.e m' o (.live u)).2 m' w6):=by
          refine ⟨ho6,hr6,hf6,fun ts e=>?_,fun a y e=>?_,fun ts e=>?_,fun ts e=>?_,?_⟩
          · rw[HX5.out ts e,HK.out,e]
          · rw[HK.out,e];exact HD.out a y
          · have h1:=HLN1.out;rw[e] at h1;have:ts.length≤u.length:=h1;omega
          · have h1:=HLN1.out;rw[e] at h1;have:ts.length≤u.length:=h1;omega
          · have h1:=HLN1.out
            have:left_ (joinP X.e m' o (.live u)).2≤u.length+1:=by
              cases hk:(joinP X.e m' o (.live u)).2 with
              | live ts=>rw[hk] at h1;have:ts.length≤u.length:=h1;show ts.length+1≤_;omega
              | dead a y=>show 0≤_;omega
            simp;omega
        have HMS:Hid (dlen b w6<dlen b wr):=by
          show _<_
          rw[hr6.dlen,HLN.out]
          have h1:=HLN1.out
          cases hk:(joinP X.e m' o (.live u)).2 with
          | live ts=>rw[hk] at h1;have:ts.length≤u.length:=h1;show ts.length+1<_;omega
          | dead a y=>show 0<_;omega
        clear HG HK ho6 hg6 hr6 hf6 HD HLN1 HX5
        go_roundw
        case rel=>exact ⟨l' ++ [x'],_,m', by simp,HDN.out⟩
        case measure=>exact HMS.out
      · have g8:(kAt ts == 8)=false:=by simpa using h8
        have HK:Hid (r=(Y.several 9 l', .live ts)):=by
          show _=_
          rw[HEQ.out,HPN.out,if_neg ?_]
          cases ts with
          | nil=>simp
          | cons t u=>rw[Y.next_cons];simp;exact h8
        have HC2:Hid (∀ q,_):=fun q=>psev_any 9 (w:=wr.drewN q) (HV.out.keep (w' := wr.drewN q) (fun _ h=>h) (fun _ _=>rfl)) (fun _ h=>h.2)
        have HEND:Hid (∀ q en w5,SevQ W1.heap.size 9 l' (wr.drewN q) en w5→EndD X b w o r en w5):=fun q en w5 hq=>many_end (W2:=wr.drewN q) (kk:=9) (l:=l') (HBXr.out.fe ((Fe.refl b wr).drewN q) (by omega) (by omega)) (HFr.out.drewN q) (HM.out.rd.drewN q) (r:=r) (by rw[HK.out]) (fun ts _=>by rw[HK.out,HSV.out]) hlt (lo:=W1.heap.size) (by omega) hq
        clear HLN h8 HPN HEQ HKD
        go_wp2_with fail
        refine HKD0.out.mono ?_
        rintro e w2 ⟨rfl,q,rfl⟩
        go_wp2_with fail
        refine (HC2.out q).mono ?_
        intro en w5 hq
        obtain ⟨y', A', n,c', rfl,hbx,HE⟩:=HEND.out q en w5 hq
        have HE:=hd_ HE
        have HQ:=hd_ (hbx.set (.int .i64 y'.kind) (.string y'.name) (.int .i64 y'.low) (.int .i64 y'.high) (.slice A' n c'))
        obtain ⟨⟨x0,x1,x2,x3,x4,k0,k1,k2,k3,k4⟩,fN⟩:=hbx.facts
        clear hbx hq HEND HC2 c3
        go_wp2_with fail
        change bodyPost _ _ _ _ _ (set5 w5 w.heap.size _ _ _ _ _)
        generalize set5 w5 w.heap.size (.int .i64 y'.kind) (.string y'.name) (.int .i64 y'.low) (.int .i64 y'.high) (.slice A' n c')=w6 at HE HQ ⊢
        obtain ⟨q0,q1,q2,q3,q4⟩:=ql_ HQ.out
        exact bodyPost_ret (v:=.agg #[.int .i64 y'.kind,.string y'.name,.int .i64 y'.low,.int .i64 y'.high,.slice A' n c']) (by simp[results,Tryz.results65,go_sem,q0,q1,q2,q3,q4]) rfl HE.out

theorem ManyD.next {α:Type}{X:Px}{b o L K m' : Nat}{w wx w6 W5:World}{f:Nat→List Nd→Ps→α × Ps}{r:α × Ps}{fin s' : Ps}{v v6:Value}{l:List Nd}{ts:List Tok}{x' : Nd}{A:Option Addr}{n c N:Nat}(HM:ManyD X b w o L K f r fin v l (.live ts) (m' + 1) wx) (HG:GotD X b w o v l x' s' A n c N W5) (hb:b<w.heap.size)
  (ho6:OwnN w6 w.heap.size v6 (l++[x'])) (hg6:W5.grownBy w6 v.ownBlock) (he:∀ ts', s' = .live ts' → r=f m' (l++[x']) (.live ts')) (hd:∀ a y,s' = .dead a y→fin=.dead a y) (hless:s'.toks.length<ts.length) :
  ManyD X b w o L K f r fin v6 (l++[x']) s' m' w6∧dlen b w6<dlen b wx:=by
 obtain ⟨hr6,hf6⟩:=HG.done hb hg6
 have h1:=HM.fuel ts rfl
 have h2:=HM.lim ts rfl
 have h3:=HM.len
 have h4:left_ (.live ts)=ts.length+1:=rfl
 have h5:left_ s' ≤ ts.length:=by
  cases s' with
  | live u=>show u.length+1≤_;exact hless
  | dead a y=>show 0≤_;omega
 rw[h4] at h3
 refine ⟨⟨ho6,hr6,hf6,he,hd,fun u e=>?_,fun u e=>?_,by simp;omega⟩,by rw[hr6.dlen,HM.rd.dlen,h4];omega⟩
 ·rw[e] at hless;have:u.length<ts.length:=hless;omega
 ·rw[e] at hless;have:u.length<ts.length:=hless;omega
theorem one_kid {W:World}{LB lo:Nat}{x:Nd}{A:Option Addr}{n c:Nat}(hrow:W.heap[LB]?=some (.cells #[.int .i64 x.kind,.string x.name,.int .i64 x.low,.int .i64 x.high,.slice A n c] 77 (0,0))) (hlo:lo≤LB∧LB<W.heap.size) (hv:RdN W (In lo W.heap.size) A n c x.kids) :
  RdN W (In lo W.heap.size) (some ⟨LB,0,none⟩) 1 1 [x]:=by
 have hx:=NdAt.of hv x.kind x.low x.high x.name
 rw[nd_eta] at hx
 refine ⟨rfl,Nat.le_refl _,by unfold maxLen;omega,fun _=>[.int .i64 x.kind,.string x.name,.int .i64 x.low,.int .i64 x.high,.slice A n c],fun _=>⟨LB,0,rfl,hlo,fun i hi j u hu=>?_⟩,fun i y hy=>?_⟩
 ·obtain rfl:i=0:=by omega
  rw[cell_of_row _ _ _ _ _ _ hrow,Nat.zero_mul,Nat.zero_add,Nat.zero_add]
  simpa using hu
 ·have hi:i=0:=by
   have:=(List.getElem?_eq_some_iff.1 hy).1;simp at this;omega
  subst hi
  simp at hy
  subst hy
  exact hx
theorem kind_three {k:Int}(h1:9≤k) (h2:k≤11):Y.kindP k=10+k - 9:=by
 unfold Y.kindP
 split
 ·omega
 ·split
  ·omega
  ·split
   ·omega
   ·omega
theorem Rdd.dead_y {X:Px}{b o h:Nat}{w:World}{a y:Int}(H:Rdd X b w o (.dead a y) h):y≠0:=by
 rcases H.st with ⟨h1,_⟩|⟨a', y', h1,h2,_⟩
 ·cases h1
 ·injection h1 with _ h1;subst h1;exact h2
set_option maxHeartbeats 2000000 in
theorem djoin_of {L:Nat}(hpiece:DPiece L):DJoin L:=by
 intro X b w o l h H ho hl m hm
 obtain ⟨m,rfl⟩:∃ m', m=m' + 1:=⟨m - 1,by omega⟩
 have hlt:=H.lt
 obtain ⟨pr,hpr⟩:∃ pr,piecesP X.e m o [] (.live l)=pr:=⟨_,rfl⟩
 have hres:joinP X.e (m+1) o (.live l)=(sevD 8 pr.1,pr.2):=by rw[joinP,hpr];rfl
 rw[hres]
 have HW1:=hd_ (begN_below w)
 have HR1:=hd_ (H.below HW1.out)
 have HBX:=hd_ (begN_box w)
 have hs1:=begN_size w
 have hfew:l.length≤4000:=by have:=H.live.2.2;have:=H.few;omega
 have HST:Hid (ManyD X b (begN w) o L 7 (fun m=>piecesP X.e m o) pr pr.2 (.slice none 0 0) [] (.live l) m (begN w)) :=
  ⟨OwnN.nil _ _,⟨h,HR1.out⟩,Fe.refl _ _,fun ts e=>(by cases e;exact hpr.symm),fun a y e=>(by cases e),fun ts e=>(by cases e;omega),fun ts e=>(by cases e;exact hl),by show 0+(l.length+1)≤9000;omega⟩
 clear H hres hpr HR1
 go_enter Tryz.func89,Tryz.ntmps89
 go_wp2_with fail
 change Code.wp _ _ _ _ (begN w)
 generalize begN w=W1 at *
 have hb1:b<W1.heap.size:=by omega
 go_loopw [5] (fun v wx=>∃ (l:List Nd) (s' : Ps) (m' : Nat),Hid (ManyD X b W1 o L 7 (fun m=>piecesP X.e m o) pr pr.2 v l s' m' wx)) (fun _ wx=>dlen b wx)
 case atStart=>exact ⟨[],.live l,m,HST.out⟩
 case round =>
  obtain ⟨l', s', m', HM⟩:=hrel
  clear HST hl hfew hm
  have hlen:=HM.out.len
  have hszr:=HM.out.fe.size
  have HBXr:Hid (Box5 wr w.heap.size 77):=HBX.out.fe HM.out.fe (by omega) (by omega)
  have HFr:Hid (Fe b w wr):=(Fe.of_below HW1.out).trans HM.out.fe
  obtain ⟨A,c,rfl,hv⟩:=HM.out.own.rd
  have HV:=hd_ hv
  clear hv
  obtain ⟨hh,hrd⟩:=HM.out.rd
  have HRD:=hd_ hrd
  obtain ⟨_,_,_,c3,_⟩:=hrd.cells
  clear hrd
  cases s' with
  | dead a y =>
   replace c3:wr.cell? ⟨b,3,none⟩=some (.int .i64 y):=c3
   have hy:y≠0:=HRD.out.dead_y
   have g1:(y == 0)=false:=by simpa using hy
   have HK:Hid (pr.2=.dead a y):=HM.out.eq2 a y rfl
   have HC2:=hd_ (psev_any 8 HV.out (fun _ h=>h.2))
   have HEND:Hid (∀ en w5,SevQ W1.heap.size 8 l' wr en w5→EndD X b w o (sevD 8 pr.1,pr.2) en w5):=fun en w5 hq=>many_end (r:=(sevD 8 pr.1,pr.2)) (kk:=8) (l:=l') HBXr.out HFr.out HM.out.rd HK.out (fun ts e=>by cases e) hlt (lo:=W1.heap.size) (by omega) hq
   clear hy
   go_wp2_with fail
   refine HC2.out.mono ?_
   intro en w5 hq
   obtain ⟨y', A', n,c', rfl,hbx,HE⟩:=HEND.out en w5 hq
   have HE:=hd_ HE
   have HQ:=hd_ (hbx.set (.int .i64 y'.kind) (.string y'.name) (.int .i64 y'.low) (.int .i64 y'.high) (.slice A' n c'))
   obtain ⟨⟨x0,x1,x2,x3,x4,k0,k1,k2,k3,k4⟩,fN⟩:=hbx.facts
   clear hbx hq HEND HC2 c3
   go_wp2_with fail
   change bodyPost _ _ _ _ _ (set5 w5 w.heap.size _ _ _ _ _)
   generalize set5 w5 w.heap.size (.int .i64 y'.kind) (.string y'.name) (.int .i64 y'.low) (.int .i64 y'.high) (.slice A' n c')=w6 at HE HQ ⊢
   obtain ⟨q0,q1,q2,q3,q4⟩:=ql_ HQ.out
   exact bodyPost_ret (v:=.agg #[.int .i64 y'.kind,.string y'.name,.int .i64 y'.low,.int .i64 y'.high,.slice A' n c']) (by simp[results,Tryz.results89,go_sem,q0,q1,q2,q3,q4]) rfl HE.out
  | live ts =>
   replace c3:wr.cell? ⟨b,3,none⟩=some (.int .i64 0):=c3
   have hfu:=HM.out.fuel ts rfl
   have hlim:=HM.out.lim ts rfl
   obtain ⟨m', rfl⟩:∃ m1,m' = m1+2:=⟨m' - 2,by omega⟩
   have hpn:piecesP X.e (m' + 1+1) o l' (.live ts)=if nextP [1,12,6,13] (.live ts)=true then piecesP X.e (m' + 1) o (l' ++ [(pieceP X.e (m' + 1) o (.live ts)).1]) (pieceP X.e (m' + 1) o (.live ts)).2 else (l', .live ts):=by rw[piecesP]
   have HEQ:Hid (pr=piecesP X.e (m' + 1+1) o l' (.live ts)):=HM.out.eq1 ts rfl
   have HPN:=hd_ hpn
   clear hpn
   have HKD0:=hd_ (qk_ HRD.out)
   have hnb:nextP [1,12,6,13] (.live ts)=begB (kAt ts):=by cases ts <;> rfl
   cases hbg:begB (kAt ts) with
   | false =>
    have HK:Hid (pr=(l', .live ts)):=by show _=_;rw[HEQ.out,HPN.out,if_neg (by rw[hnb,hbg];decide)]
    have HC2:Hid (∀ q,_):=fun q=>psev_any 8 (w:=wr.drewN q) (HV.out.keep (w' := wr.drewN q) (fun _ h=>h) (fun _ _=>rfl)) (fun _ h=>h.2)
    have HEND:Hid (∀ q en w5,SevQ W1.heap.size 8 l' (wr.drewN q) en w5→EndD X b w o (sevD 8 pr.1,pr.2) en w5):=fun q en w5 hq=>many_end (W2:=wr.drewN q) (kk:=8) (l:=l') (HBXr.out.fe ((Fe.refl b wr).drewN q) (by omega) (by omega)) (HFr.out.drewN q) (HM.out.rd.drewN q) (r:=(sevD 8 pr.1,pr.2)) (by rw[HK.out]) (fun ts _=>by rw[HK.out]) hlt (lo:=W1.heap.size) (by omega) hq
    have HB:=begins_any (kAt ts)
    rw[hbg] at HB
    have HBG:=hd_ HB
    clear HB hbg hnb HPN HEQ
    generalize kAt ts=kk at *
    go_wp2_with fail
    refine HKD0.out.mono ?_
    rintro e w2 ⟨rfl,q,rfl⟩
    go_wp2_with fail
    refine (HBG.out _).mono ?_
    rintro e w2 ⟨rfl,rfl⟩
    go_wp2_with fail
    refine (HC2.out q).mono ?_
    intro en w5 hq
    obtain ⟨y', A', n,c', rfl,hbx,HE⟩:=HEND.out q en w5 hq
    have HE:=hd_ HE
    have HQ:=hd_ (hbx.set (.int .i64 y'.kind) (.string y'.name) (.int .i64 y'.low) (.int .i64 y'.high) (.slice A' n c'))
    obtain ⟨⟨x0,x1,x2,x3,x4,k0,k1,k2,k3,k4⟩,fN⟩:=hbx.facts
    clear hbx hq HEND HC2 c3
    go_wp2_with fail
    change bodyPost _ _ _ _ _ (set5 w5 w.heap.size _ _ _ _ _)
    generalize set5 w5 w.heap.size (.int .i64 y'.kind) (.string y'.name) (.int .i64 y'.low) (.int .i64 y'.high) (.slice A' n c')=w6 at HE HQ ⊢
    obtain ⟨q0,q1,q2,q3,q4⟩:=ql_ HQ.out
    exact bodyPost_ret (v:=.agg #[.int .i64 y'.kind,.string y'.name,.int .i64 y'.low,.int .i64 y'.high,.slice A' n c']) (by simp[results,Tryz.results89,go_sem,q0,q1,q2,q3,q4]) rfl HE.out
   | true =>
    have hnx:nextP [1,12,6,13] (.live ts)=true:=by rw[hnb,hbg]
    have HK:Hid (pr=piecesP X.e (m' + 1) o (l' ++ [(pieceP X.e (m' + 1) o (.live ts)).1]) (pieceP X.e (m' + 1) o (.live ts)).2):=by show _=_;rw[HEQ.out,HPN.out,if_pos hnx]
    have hpc:pieceP X.e (m' + 1) o (.live ts)=if nextP [9,10,11] (bareP X.e m' o (.live ts)).2=true then (.mk (Y.kindP (takeP X.e [9,10,11] (bareP X.e m' o (.live ts)).2).1.kind) noName 0 0 [(bareP X.e m' o (.live ts)).1],(takeP X.e [9,10,11] (bareP X.e m' o (.live ts)).2).2) else bareP X.e m' o (.live ts):=by rw[pieceP]
    have HPC:=hd_ hpc
    have hless:(bareP X.e m' o (.live ts)).2.toks.length<ts.length:=by
     obtain ⟨m2,rfl⟩:∃ m2,m' = m2+2:=⟨m' - 2,by omega⟩
     exact Y.bare_less X.e m2 o (.live ts) hnx
    have HLS:=hd_ hless
    have HDD:Hid (∀ l a y,(piecesP X.e (m' + 1) o l (.dead a y)).2=.dead a y):=(Y.dead_all X.e (m' + 1)).pieces o
    have HC:Hid (∀ q,_):=fun q=>hpiece X b (wr.drewN q) o ts hh (HRD.out.drewN q) ho hnx hlim m' (by omega)
    have HB:=begins_any (kAt ts)
    rw[hbg] at HB
    have HBG:=hd_ HB
    clear HB hbg hnb HPN HEQ hnx hpc hless
    generalize kAt ts=kk at *
    generalize bareP X.e m' o (.live ts)=k at *
    go_wp2_with fail
    refine HKD0.out.mono ?_
    rintro e w2 ⟨rfl,q,rfl⟩
    go_wp2_with fail
    refine (HBG.out _).mono ?_
    rintro e w2 ⟨rfl,rfl⟩
    go_wp2_with fail
    refine (HC.out q).mono ?_
    rintro en w3 ⟨v,x,rfl,⟨A3,n3,c3', rfl,hv3⟩,hx3,⟨h3,hr3⟩,hf3⟩
    have HX3:=hd_ hx3
    have HF3:Hid (Fe b wr w3):=((Fe.refl b wr).drewN q).trans hf3
    have HR3:=hd_ hr3
    have HV3:Hid (RdN w3 (In wr.heap.size w3.heap.size) A3 n3 c3' x.kids):=hv3
    have hz3:=HF3.out.size
    clear hx3 hr3 hf3 hv3 HC HBG HKD0 c3
    have HP4:=hd_ (litN_below w3 (.int .i64 x.kind) (.string x.name) (.int .i64 x.low) (.int .i64 x.high) (.slice A3 n3 c3'))
    have HN4:=hd_ (litN_row w3 (.int .i64 x.kind) (.string x.name) (.int .i64 x.low) (.int .i64 x.high) (.slice A3 n3 c3') w3.heap.size rfl)
    have hz4:=litN_size w3 (.int .i64 x.kind) (.string x.name) (.int .i64 x.low) (.int .i64 x.high) (.slice A3 n3 c3')
    go_wp2_with fail
    change Calls _ _ _ (litN w3 (.int .i64 x.kind) (.string x.name) (.int .i64 x.low) (.int .i64 x.high) (.slice A3 n3 c3')) _
    generalize litN w3 (.int .i64 x.kind) (.string x.name) (.int .i64 x.low) (.int .i64 x.high) (.slice A3 n3 c3')=W4 at *
    have HR4:=hd_ (HR3.out.below HP4.out)
    have HF4:Hid (Fe b wr W4):=HF3.out.trans (Fe.of_below HP4.out)
    have HV4:Hid (RdN W4 (In wr.heap.size w3.heap.size) A3 n3 c3' x.kids):=HV3.out.keep (fun _ h=>h) (fun p hp=>HP4.out.cell hp.2)
    refine (dkind_all HR4.out).mono ?_
    rintro e w5 ⟨rfl,q2,rfl⟩
    have HR5:=hd_ (HR4.out.drewN q2)
    have HF5:Hid (Fe b wr (W4.drewN q2)):=HF4.out.drewN q2
    have HV5:Hid (RdN (W4.drewN q2) (In wr.heap.size (W4.drewN q2).heap.size) A3 n3 c3' x.kids):=HV4.out.keep (fun i hi=>⟨hi.1,by have:=hi.2;show i<W4.heap.size;omega⟩) (fun _ _=>rfl)
    have HN5:Hid ((W4.drewN q2).heap[w3.heap.size]?=_):=HN4.out
    have HV5p:Hid (RdN (W4.drewN q2) (In wr.heap.size w3.heap.size) A3 n3 c3' x.kids):=HV4.out.keep (fun _ h=>h) (fun _ _=>rfl)
    have hz5:(W4.drewN q2).heap.size=w3.heap.size+1:=hz4
    clear HR3 HR4 HF3 HF4 HV3 HV4 HN4 HP4 hz4
    generalize W4.drewN q2=W5 at *
    have HZ5:=hd_ hz5
    clear hz5
    obtain ⟨l0,l1,l2,l3,l4⟩:=ql_ HN5.out
    obtain ⟨_,_,_,d3,d4⟩:=HR5.out.cells
    cases hk2:k.2 with
    | dead a y =>
     rw[hk2] at HR5 d3
     replace d3:W5.cell? ⟨b,3,none⟩=some (.int .i64 y):=d3
     have g1:(y == 0)=false:=by have:=HR5.out.dead_y;simpa using this
     have HPD:Hid (pieceP X.e (m' + 1) o (.live ts)=k):=by show _=_;rw[HPC.out,hk2,Y.next_dead,if_neg (by decide)]
     have HK2:=hd_ hk2
     have HG:=hd_ (got_d HM.out.own HM.out.fe hb1 HF5.out ⟨_,HR5.out⟩ (Nat.le_refl _) HV5.out)
     clear hk2 HV5 HPC HF5
     generalize kAt (X.T.drop h3)=kz at *
     go_wp2_with (at_builtin;change wpList _ _ _ _ _ (litN W5 (.int .i64 x.kind) (.string x.name) (.int .i64 x.low) (.int .i64 x.high) (.slice A3 n3 c3'));refine app_n rfl _ _ rfl W1.heap.size _ l' rfl HG.out.own W5.heap.size x _ _ _ _ _ rfl HG.out.row HG.out.nd (by omega) HG.out.fe.size ?_;intro v6 w6 ho6 hg6)
     have HDN:=hd_ (HM.out.next HG.out hb1 ho6 hg6 (fun ts e=>by cases e) (fun a' y' e=>by cases e;rw[HK.out,HPD.out,HK2.out];exact HDD.out _ _ _) (by have:=HLS.out;show 0<_;omega))
     clear HG ho6 hg6 HM HLS
     go_roundw
     case rel=>exact ⟨l' ++ [x],.dead a y,m' + 1,HDN.out.1⟩
     case measure=>exact HDN.out.2
    | live t2 =>
     rw[hk2] at HR5 d3
     replace d3:W5.cell? ⟨b,3,none⟩=some (.int .i64 0):=d3
     have hka:kAt (X.T.drop h3)=kAt t2:=by rw[HR5.out.live.1]
     have HK2:=hd_ hk2
     have HLS2:Hid (t2.length<ts.length):=by have h1:=HLS.out;rw[hk2] at h1;exact h1
     rw[hka]
     clear hka hk2
     by_cases h9:9≤kAt t2∧kAt t2≤11
     ·obtain ⟨t,u3,rfl⟩:∃ t u,t2=t :: u:=by
       cases t2 with
       | nil=>exact absurd h9.1 (by decide)
       | cons t u=>exact ⟨t,u,rfl⟩
      obtain ⟨h9,h11⟩:=h9
      have HKA:Hid (kAt (t :: u3)=t.kind):=rfl
      rw[HKA.out] at h9 h11
      rw[HKA.out]
      have hct:[9,10,11].contains t.kind=true:=by
       simp only[List.contains_cons,List.contains_nil,Bool.or_false,Bool.or_eq_true,beq_iff_eq];omega
      have HPD:Hid (pieceP X.e (m' + 1) o (.live ts)=(.mk (10+t.kind - 9) noName 0 0 [k.1],.live u3)):=by
       show _=_
       rw[HPC.out,HK2.out,Y.next_cons,if_pos hct,zn_ hct,kind_three h9 h11]
      have HX:Hid (x=k.1):=HX3.out _ HK2.out
      clear hct HPC HX3 HK2 HKA
      have hzz:=HZ5.out
      have f5:∀ j,W5.frozen? ⟨w3.heap.size,j,none⟩=false:=fun j=>frozen_of_row _ _ _ _ _ HN5.out
      have f4:=HR5.out.fr 4
      have hbn:b≠w3.heap.size:=by omega
      have hbn2:b≠w3.heap.size+1:=by omega
      have hs5:(set5 W5 w3.heap.size (.int .i64 (10+t.kind - 9)) (.string noName) (.int .i64 0) (.int .i64 0) (.slice (some ⟨w3.heap.size+1,0,none⟩) 1 1)).heap.size=w3.heap.size+1:=by rw[zq_];exact hzz
      have hp6:=litN_below (set5 W5 w3.heap.size (.int .i64 (10+t.kind - 9)) (.string noName) (.int .i64 0) (.int .i64 0) (.slice (some ⟨w3.heap.size+1,0,none⟩) 1 1)) (.int .i64 x.kind) (.string x.name) (.int .i64 x.low) (.int .i64 x.high) (.slice A3 n3 c3')
      have HR6:=hd_ ((HR5.out.other5 (g:=w3.heap.size) (by omega) (.int .i64 (10+t.kind - 9)) (.string noName) (.int .i64 0) (.int .i64 0) (.slice (some ⟨w3.heap.size+1,0,none⟩) 1 1)).below hp6)
      have HF6:Hid (Fe b wr (litN (set5 W5 w3.heap.size (.int .i64 (10+t.kind - 9)) (.string noName) (.int .i64 0) (.int .i64 0) (.slice (some ⟨w3.heap.size+1,0,none⟩) 1 1)) (.int .i64 x.kind) (.string x.name) (.int .i64 x.low) (.int .i64 x.high) (.slice A3 n3 c3'))):=(HF5.out.set5 (.inr hz3) (.int .i64 (10+t.kind - 9)) (.string noName) (.int .i64 0) (.int .i64 0) (.slice (some ⟨w3.heap.size+1,0,none⟩) 1 1)).trans (Fe.of_below hp6)
      have HN6:Hid ((litN (set5 W5 w3.heap.size (.int .i64 (10+t.kind - 9)) (.string noName) (.int .i64 0) (.int .i64 0) (.slice (some ⟨w3.heap.size+1,0,none⟩) 1 1)) (.int .i64 x.kind) (.string x.name) (.int .i64 x.low) (.int .i64 x.high) (.slice A3 n3 c3')).heap[w3.heap.size]?=_):=(hp6.block w3.heap.size (by omega)).trans (set5_row HN5.out (.int .i64 (10+t.kind - 9)) (.string noName) (.int .i64 0) (.int .i64 0) (.slice (some ⟨w3.heap.size+1,0,none⟩) 1 1))
      have hl6:=litN_row (set5 W5 w3.heap.size (.int .i64 (10+t.kind - 9)) (.string noName) (.int .i64 0) (.int .i64 0) (.slice (some ⟨w3.heap.size+1,0,none⟩) 1 1)) (.int .i64 x.kind) (.string x.name) (.int .i64 x.low) (.int .i64 x.high) (.slice A3 n3 c3') (w3.heap.size+1) hs5.symm
      have hz6:(litN (set5 W5 w3.heap.size (.int .i64 (10+t.kind - 9)) (.string noName) (.int .i64 0) (.int .i64 0) (.slice (some ⟨w3.heap.size+1,0,none⟩) 1 1)) (.int .i64 x.kind) (.string x.name) (.int .i64 x.low) (.int .i64 x.high) (.slice A3 n3 c3')).heap.size=w3.heap.size+2:=by rw[litN_size,hs5]
      have hv6:RdN (litN (set5 W5 w3.heap.size (.int .i64 (10+t.kind - 9)) (.string noName) (.int .i64 0) (.int .i64 0) (.slice (some ⟨w3.heap.size+1,0,none⟩) 1 1)) (.int .i64 x.kind) (.string x.name) (.int .i64 x.low) (.int .i64 x.high) (.slice A3 n3 c3')) (In wr.heap.size (litN (set5 W5 w3.heap.size (.int .i64 (10+t.kind - 9)) (.string noName) (.int .i64 0) (.int .i64 0) (.slice (some ⟨w3.heap.size+1,0,none⟩) 1 1)) (.int .i64 x.kind) (.string x.name) (.int .i64 x.low) (.int .i64 x.high) (.slice A3 n3 c3')).heap.size) A3 n3 c3' x.kids:=HV5p.out.keep (fun i hi=>⟨hi.1,by rw[hz6];have:=hi.2;omega⟩) (fun p hp=>(hp6.cell (by rw[hs5];have:=hp.2;omega)).trans (World.cell?_of_block (set5_block _ _ _ _ _ _ _ (by have:=hp.2;omega))))
      have HV6:=hd_ (one_kid hl6 (lo:=wr.heap.size) ⟨by omega,by rw[hz6];omega⟩ hv6)
      clear hv6 hl6 hp6 hs5 HV5 HV5p HN5 HR5 HF5 HZ5
      go_upto_region 7 with (fail)
      change Code.wp _ _ _ _ (litN (set5 W5 w3.heap.size (.int .i64 (10+t.kind - 9)) (.string noName) (.int .i64 0) (.int .i64 0) (.slice (some ⟨w3.heap.size+1,0,none⟩) 1 1)) (.int .i64 x.kind) (.string x.name) (.int .i64 x.low) (.int .i64 x.high) (.slice A3 n3 c3'))
      generalize (litN (set5 W5 w3.heap.size (.int .i64 (10+t.kind - 9)) (.string noName) (.int .i64 0) (.int .i64 0) (.slice (some ⟨w3.heap.size+1,0,none⟩) 1 1)) (.int .i64 x.kind) (.string x.name) (.int .i64 x.low) (.int .i64 x.high) (.slice A3 n3 c3'))=W6 at *
      clear hzz l0 l1 l2 l3 l4 d3 d4 f5 f4
      obtain ⟨l0,l1,l2,l3,l4⟩:=ql_ HN6.out
      obtain ⟨_,_,_,d3,d4⟩:=HR6.out.cells
      have f4:=HR6.out.fr 4
      have hle3:=HR6.out.le
      have HR7:=hd_ (HR6.out.next (x:=(h3:Int)+1) rfl)
      have HF7:Hid (Fe b wr (W6.setCell ⟨b,4,none⟩ (.int .i64 ((h3:Int)+1)))):=HF6.out.set (.inl rfl) _ _
      have hc7:∀ p:Addr,p.block≠b→(W6.setCell ⟨b,4,none⟩ (.int .i64 ((h3:Int)+1))).cell? p=W6.cell? p:=fun p hp=>World.cell?_of_block (w:=W6) (Below.heap_setCell _ _ _ _ (by show p.block≠b;exact hp))
      have HV7:Hid (RdN (W6.setCell ⟨b,4,none⟩ (.int .i64 ((h3:Int)+1))) (In wr.heap.size (W6.setCell ⟨b,4,none⟩ (.int .i64 ((h3:Int)+1))).heap.size) (some ⟨w3.heap.size+1,0,none⟩) 1 1 (Nd.mk (10+t.kind - 9) noName 0 0 [x]).kids):=HV6.out.keep (fun i hi=>⟨hi.1,by simp;exact hi.2⟩) (fun p hp=>hc7 p (by have:=hp.1;omega))
      have HZ7:Hid ((W6.setCell ⟨b,4,none⟩ (.int .i64 ((h3:Int)+1))).heap.size=w3.heap.size+2):=by show _=_;simp;exact hz6
      have HG:=hd_ (got_d (x:=Nd.mk (10+t.kind - 9) noName 0 0 [x]) HM.out.own HM.out.fe hb1 HF7.out ⟨_,HR7.out⟩ (Nat.le_refl _) HV7.out)
      have HN7:Hid ((W6.setCell ⟨b,4,none⟩ (.int .i64 ((h3:Int)+1))).heap[w3.heap.size]?=_):=(Below.heap_setCell _ _ _ _ (by show w3.heap.size≠b;omega)).trans HN6.out
      clear HV6 HV7 HR6 HF6 HN6 hc7
      go_upto_region 8 with (fail)
      generalize W6.setCell ⟨b,4,none⟩ (.int .i64 ((h3:Int)+1))=W7 at *
      clear l0 l1 l2 l3 l4 d3 d4 f4
      obtain ⟨l0,l1,l2,l3,l4⟩:=ql_ HN7.out
      clear HN7 hz6 HF7
      go_wp2_with (at_builtin;change wpList _ _ _ _ _ (litN W7 (.int .i64 (10+t.kind - 9)) (.string noName) (.int .i64 0) (.int .i64 0) (.slice (some ⟨w3.heap.size+1,0,none⟩) 1 1));refine app_n rfl _ _ rfl W1.heap.size _ l' rfl HG.out.own W7.heap.size (Nd.mk (10+t.kind - 9) noName 0 0 [x]) _ _ _ _ _ rfl HG.out.row HG.out.nd (by omega) HG.out.fe.size ?_;intro v6 w6 ho6 hg6)
      have HDN:=hd_ (HM.out.next HG.out hb1 ho6 hg6 (fun ts' e=>by cases e;rw[HK.out,HPD.out,HX.out]) (fun a' y' e=>by cases e) (by have h1:=HLS2.out;simp only[List.length_cons] at h1;show u3.length<_;omega))
      clear HG ho6 hg6 HM HLS
      go_roundw
      case rel=>exact ⟨l' ++ [(Nd.mk (10+t.kind - 9) noName 0 0 [x])],.live u3,m' + 1,HDN.out.1⟩
      case measure=>exact HDN.out.2
     ·have HPD:Hid (pieceP X.e (m' + 1) o (.live ts)=k):=by
       show _=_
       rw[HPC.out,HK2.out,if_neg ?_]
       cases t2 with
       | nil=>simp
       | cons t u =>
        rw[Y.next_cons]
        simp only[List.contains_cons,List.contains_nil,Bool.or_false,Bool.or_eq_true,beq_iff_eq]
        have h9' : ¬ (9≤t.kind∧t.kind≤11):=h9
        omega
      have HX:Hid (x=k.1):=HX3.out _ HK2.out
      have HG:=hd_ (got_d HM.out.own HM.out.fe hb1 HF5.out ⟨_,HR5.out⟩ (Nat.le_refl _) HV5.out)
      clear HV5 HV5p HPC HF5 HX3 HR5 HN5
      generalize kAt t2=kz at *
      by_cases hge:9≤kz
      ·have hgt:¬ kz≤11:=fun h=>h9 ⟨hge,h⟩
       clear h9
       go_wp2_with (at_builtin;change wpList _ _ _ _ _ (litN W5 (.int .i64 x.kind) (.string x.name) (.int .i64 x.low) (.int .i64 x.high) (.slice A3 n3 c3'));refine app_n rfl _ _ rfl W1.heap.size _ l' rfl HG.out.own W5.heap.size x _ _ _ _ _ rfl HG.out.row HG.out.nd (by omega) HG.out.fe.size ?_;intro v6 w6 ho6 hg6)
       have HDN:=hd_ (HM.out.next HG.out hb1 ho6 hg6 (fun ts' e=>by cases e;rw[HK.out,HPD.out,HX.out,HK2.out]) (fun a' y' e=>by cases e) HLS2.out)
       clear HG ho6 hg6 HM HLS
       go_roundw
       case rel=>exact ⟨l' ++ [x],.live t2,m' + 1,HDN.out.1⟩
       case measure=>exact HDN.out.2
      ·clear h9
       go_wp2_with (at_builtin;change wpList _ _ _ _ _ (litN W5 (.int .i64 x.kind) (.string x.name) (.int .i64 x.low) (.int .i64 x.high) (.slice A3 n3 c3'));refine app_n rfl _ _ rfl W1.heap.size _ l' rfl HG.out.own W5.heap.size x _ _ _ _ _ rfl HG.out.row HG.out.nd (by omega) HG.out.fe.size ?_;intro v6 w6 ho6 hg6)
       have HDN:=hd_ (HM.out.next HG.out hb1 ho6 hg6 (fun ts' e=>by cases e;rw[HK.out,HPD.out,HX.out,HK2.out]) (fun a' y' e=>by cases e) HLS2.out)
       clear HG ho6 hg6 HM HLS
       go_roundw
       case rel=>exact ⟨l' ++ [x],.live t2,m' + 1,HDN.out.1⟩
       case measure=>exact HDN.out.2

theorem piece_end {X:Px}{b o:Nat}{w W:World}{r:Nd × Ps}{x:Nd}{s:Ps}{A5:Option Addr}{n5 c5:Nat}{z:Value}(hF:Fe b w W) (hR:RdF X b (W.setCell ⟨b,4,none⟩ z) o s) (hB:Box5 W w.heap.size 77) (hlt:b<w.heap.size) (hv:RdN W (In (w.heap.size+1) W.heap.size) A5 n5 c5 x.kids) (he:r.2=s) (hx:∀ ts,s=.live ts→x=r.1) :
  PFQ X b w o r (.returned (.agg #[.int .i64 x.kind,.string x.name,.int .i64 x.low,.int .i64 x.high,.slice A5 n5 c5])) (set5 (W.setCell ⟨b,4,none⟩ z) w.heap.size (.int .i64 x.kind) (.string x.name) (.int .i64 x.low) (.int .i64 x.high) (.slice A5 n5 c5))∧(set5 (W.setCell ⟨b,4,none⟩ z) w.heap.size (.int .i64 x.kind) (.string x.name) (.int .i64 x.low) (.int .i64 x.high) (.slice A5 n5 c5)).heap[w.heap.size]?=some (.cells #[.int .i64 x.kind,.string x.name,.int .i64 x.low,.int .i64 x.high,.slice A5 n5 c5] 77 (0,0)):=by
 have hc:∀ p:Addr,p.block≠b→(W.setCell ⟨b,4,none⟩ z).cell? p=W.cell? p:=fun p hp=>World.cell?_of_block (w:=W) (Below.heap_setCell _ _ _ _ (by show p.block≠b;exact hp))
 refine ⟨pf_end (s:=s) (x:=x) (N:=w.heap.size) (lo:=w.heap.size+1) (hF.set (.inl rfl) _ _) hR (Nat.le_refl _) (by omega) hlt (hv.keep (fun i hi=>⟨hi.1,by simp;exact hi.2⟩) (fun p hp=>hc p (by have:=hp.1;omega))) he hx,?_⟩
 obtain ⟨y0,y1,y2,y3,y4,hN⟩:=hB
 exact set5_row ((Below.heap_setCell _ _ _ _ (by show w.heap.size≠b;omega)).trans hN) _ _ _ _ _
set_option maxHeartbeats 4000000 in
theorem dpiece_of {L:Nat}(hor:∀ L', L' + 1=L→DOr L') (hset:DSet L):DPiece L:=by
 intro X b w o l h H ho hnx hl m hm
 obtain ⟨m,rfl⟩:∃ m', m=m' + 1:=⟨m - 1,by omega⟩
 have hlt:=H.lt
 have hres:bareP X.e (m+1) o (.live l)=if nextP [6] (.live l)=true then ((formP X.e m (o+1) (takeP X.e [6] (deepP X.e o (.live l))).2).1,(takeP X.e [7] (formP X.e m (o+1) (takeP X.e [6] (deepP X.e o (.live l))).2).2).2) else if nextP [13] (.live l)=true then setP X.e m o (.live l) else (Y.single (takeP X.e [1,12] (.live l)).1,(takeP X.e [1,12] (.live l)).2):=by rw[bareP]
 have HRES:=hd_ hres
 clear hres
 generalize bareP X.e (m+1) o (.live l)=r at *
 have HW1:=hd_ (begN_below w)
 have HR2:=hd_ (H.below HW1.out)
 have HBX2:=hd_ (begN_box w)
 have hz2:=begN_size w
 have HF2:Hid (Fe b w (begN w)):=Fe.of_below HW1.out
 clear H
 obtain ⟨t,u,rfl⟩:∃ t u,l=t :: u:=by
  cases l with
  | nil=>simp at hnx
  | cons t u=>exact ⟨t,u,rfl⟩
 have hex9:t.kind≠6∧t.kind≠12∧t.kind≠16∧t.kind≠17:=X.ex t (by
  rcases HR2.out.st with ⟨e,_⟩|⟨a,y,e,_⟩
  ·injection e with e
   exact List.mem_of_mem_drop (e ▸ List.mem_cons_self)
  ·cases e)
 obtain ⟨g,off,hg,hh,hheld⟩:=HR2.out.held
 obtain ⟨tk,tt,tlo,thi,tp⟩:=t
 have HS:Hid (∀ w', Below (begN w).heap.size (begN w) w' → HeldR X b g off h tk (strOfNums tt) tlo thi tp w'):=hheld
 clear hheld HW1
 have hh0:(0:Int)≤(h:Int):=by omega
 have hhn:(h:Int)<(X.n:Int):=by omega
 have hf9:=HR2.out.few
 by_cases h1:tk=1
 ·subst h1
  have HRES2:Hid (r=(.mk 2 (strOfNums tt) 0 0 [],.live u)):=by
   show _=_
   rw[HRES.out,Y.next_cons,if_neg (by simp),Y.next_cons,if_neg (by simp),zn_ (by simp)]
   rfl
  clear HRES
  generalize htx:strOfNums tt=tx at *
  clear htx
  go_enter Tryz.func107,Tryz.ntmps107
  go_wp2_with fail
  change Code.wp _ _ _ _ (begN w)
  generalize begN w=W2 at *
  have SS:HeldR X b g off h 1 tx tlo thi tp W2.drew:=HS.out _ (Below.refl _ _).drew
  refine qw_ (HeldR X b g off h 1 tx tlo thi tp) 11 12 (by kernel_rfl) rfl ?_
  refine qc_ 0 (v:=.pointer (some ⟨b,0,none⟩)) rfl (by kernel_rfl) (by kernel_rfl) (by kernel_rfl) (by kernel_rfl) (fun _ _ _ h=>h) SS rfl (fun w' hS=>?_) ?_
  ·obtain ⟨s0,s1,s2,s3,s4,s5,s6⟩:=hS;go_simp
  refine qc_ 1 (v:=.pointer (some ⟨b,0,none⟩)) rfl (by kernel_rfl) (by kernel_rfl) (by kernel_rfl) (by kernel_rfl) (fun _ _ _ h=>h) SS rfl (fun w' hS=>?_) ?_
  ·obtain ⟨s0,s1,s2,s3,s4,s5,s6⟩:=hS;go_simp
  refine qc_ 2 (v:=.pointer (some ⟨b,0,none⟩)) rfl (by kernel_rfl) (by kernel_rfl) (by kernel_rfl) (by kernel_rfl) (fun _ _ _ h=>h) SS rfl (fun w' hS=>?_) ?_
  ·obtain ⟨s0,s1,s2,s3,s4,s5,s6⟩:=hS;go_simp
  refine qc_ 3 (v:=.slice (some ⟨g,off,none⟩) X.n X.c) rfl (by kernel_rfl) (by kernel_rfl) (by kernel_rfl) (by kernel_rfl) (fun _ _ _ h=>h) SS rfl (fun w' hS=>?_) ?_
  ·obtain ⟨s0,s1,s2,s3,s4,s5,s6⟩:=hS;go_simp
  refine qc_ 4 (v:=.pointer (some ⟨b,0,none⟩)) rfl (by kernel_rfl) (by kernel_rfl) (by kernel_rfl) (by kernel_rfl) (fun _ _ _ h=>h) SS rfl (fun w' hS=>?_) ?_
  ·obtain ⟨s0,s1,s2,s3,s4,s5,s6⟩:=hS;go_simp
  refine qc_ 5 (v:=.pointer (some ⟨b,0,none⟩)) rfl (by kernel_rfl) (by kernel_rfl) (by kernel_rfl) (by kernel_rfl) (fun _ _ _ h=>h) SS rfl (fun w' hS=>?_) ?_
  ·obtain ⟨s0,s1,s2,s3,s4,s5,s6⟩:=hS;go_simp
  refine qc_ 6 (v:=.pointer (some ⟨b,4,none⟩)) rfl (by kernel_rfl) (by kernel_rfl) (by kernel_rfl) (by kernel_rfl) (fun _ _ _ h=>h) SS rfl (fun w' hS=>?_) ?_
  ·obtain ⟨s0,s1,s2,s3,s4,s5,s6⟩:=hS;go_simp
  refine qc_ 7 (v:=.int .i64 h) rfl (by kernel_rfl) (by kernel_rfl) (by kernel_rfl) (by kernel_rfl) (fun _ _ _ h=>h) SS rfl (fun w' hS=>?_) ?_
  ·obtain ⟨s0,s1,s2,s3,s4,s5,s6⟩:=hS;go_simp
  refine qc_ 8 (v:=.pointer (some ⟨g,off+h*5,none⟩)) rfl (by kernel_rfl) (by kernel_rfl) (by kernel_rfl) (by kernel_rfl) (fun _ _ _ h=>h) SS rfl (fun w' hS=>?_) ?_
  ·obtain ⟨s0,s1,s2,s3,s4,s5,s6⟩:=hS;go_simp
  refine qc_ 9 (v:=.agg #[.int .i64 1,.string tx,.int .i64 tlo,.int .i64 thi,.int .i64 tp]) rfl (by kernel_rfl) (by kernel_rfl) (by kernel_rfl) (by kernel_rfl) (fun _ _ _ h=>h) SS rfl (fun w' hS=>?_) ?_
  ·obtain ⟨s0,s1,s2,s3,s4,s5,s6⟩:=hS;go_simp
  refine zk_ 10 rfl (by kernel_rfl) rfl ?_
  go_simp
  have HBA:Hid (Below W2.heap.size W2 ((W2.alloc (.cells #[.int .i64 0,.string { data:=#[] },.int .i64 0,.int .i64 0,.int .i64 0] 129)).drew)):=(qa_ W2 _).drew
  have hNA:((W2.alloc (.cells #[.int .i64 0,.string { data:=#[] },.int .i64 0,.int .i64 0,.int .i64 0] 129)).drew).heap[w.heap.size+1]?=some (.cells #[.int .i64 0,.string { data:=#[] },.int .i64 0,.int .i64 0,.int .i64 0] 129 (0,0)):=by rw[← hz2];exact heap_alloc_new W2 _
  have SA:=HS.out _ HBA.out
  have hzA:((W2.alloc (.cells #[.int .i64 0,.string { data:=#[] },.int .i64 0,.int .i64 0,.int .i64 0] 129)).drew).heap.size=w.heap.size+2:=by rw[show ((W2.alloc (.cells #[.int .i64 0,.string { data:=#[] },.int .i64 0,.int .i64 0,.int .i64 0] 129)).drew).heap.size=W2.heap.size+1 by simp[World.drew]];omega
  generalize ((W2.alloc (.cells #[.int .i64 0,.string { data:=#[] },.int .i64 0,.int .i64 0,.int .i64 0] 129)).drew)=WA at *
  refine ⟨SA,?_⟩
  refine zk_ 11 rfl (by kernel_rfl) rfl ?_
  have HNA:=hd_ hNA
  obtain ⟨z0,z1,z2,z3,z4⟩:=ql_ hNA
  have fA:∀ j,WA.frozen? ⟨w.heap.size+1,j,none⟩=false:=fun j=>frozen_of_row _ _ _ _ _ hNA
  clear hNA SA SS
  go_simp
  refine Z_done (by kernel_rfl) ?_
  unfold OnlyN
  simp only[]
  change Exit.then _ _ .normal _ (set5 WA (w.heap.size+1) (.int .i64 1) (.string tx) (.int .i64 tlo) (.int .i64 thi) (.int .i64 tp))
  have HB3:Hid (Below W2.heap.size W2 (set5 WA (w.heap.size+1) (.int .i64 1) (.string tx) (.int .i64 tlo) (.int .i64 thi) (.int .i64 tp))):=zv_ HBA.out (by omega) _ _ _ _ _
  have HT3:=hd_ (set5_row HNA.out (.int .i64 1) (.string tx) (.int .i64 tlo) (.int .i64 thi) (.int .i64 tp))
  have hz3:(set5 WA (w.heap.size+1) (.int .i64 1) (.string tx) (.int .i64 tlo) (.int .i64 thi) (.int .i64 tp)).heap.size=w.heap.size+2:=by rw[zq_];exact hzA
  clear z0 z1 z2 z3 z4 fA HBA HNA hzA
  generalize set5 WA (w.heap.size+1) (.int .i64 1) (.string tx) (.int .i64 tlo) (.int .i64 thi) (.int .i64 tp)=W3 at *
  have HR3:=hd_ (HR2.out.below HB3.out)
  obtain ⟨_,_,_,_,c4⟩:=HR3.out.cells
  have f4:=HR3.out.fr 4
  obtain ⟨z0,z1,z2,z3,z4⟩:=ql_ HT3.out
  have HBX3:Hid (Box5 W3 w.heap.size 77):=HBX2.out.fe (b:=b) (Fe.of_below HB3.out) (by omega) (by omega)
  have HF4:Hid (Fe b w (W3.setCell ⟨b,4,none⟩ (.int .i64 ((h:Int)+1)))):=(HF2.out.trans (Fe.of_below HB3.out)).set (.inl rfl) _ _
  have HR4:=hd_ (HR3.out.next (x:=(h:Int)+1) rfl)
  have HBX4:Hid (Box5 (W3.setCell ⟨b,4,none⟩ (.int .i64 ((h:Int)+1))) w.heap.size 77):=HBX3.out.fe (b:=b) ((Fe.refl b W3).set (.inl rfl) _ _) (by omega) (by omega)
  have HE:Hid (PFQ X b w o r (.returned (.agg #[.int .i64 2,.string tx,.int .i64 0,.int .i64 0,.slice none 0 0])) (set5 (W3.setCell ⟨b,4,none⟩ (.int .i64 ((h:Int)+1))) w.heap.size (.int .i64 2) (.string tx) (.int .i64 0) (.int .i64 0) (.slice none 0 0))) :=
   pf_end (s:=.live u) (x:=.mk 2 tx 0 0 []) (N:=w.heap.size) (lo:=w.heap.size+1) HF4.out ⟨_,HR4.out⟩ (Nat.le_refl _) (by omega) hlt (RdN.nil _ _) (by rw[HRES2.out]) (fun ts _=>by rw[HRES2.out])
  have HQ:=hd_ (HBX4.out.set (.int .i64 2) (.string tx) (.int .i64 0) (.int .i64 0) (.slice none 0 0))
  obtain ⟨⟨x0,x1,x2,x3,x4,k0,k1,k2,k3,k4⟩,fN⟩:=HBX3.out.facts
  have hne1:w.heap.size+1≠b:=by omega
  have hne2:w.heap.size≠b:=by omega
  clear HR2 HR3 HB3 HT3 HF2 HF4 HR4 HBX2 HBX3 HBX4 HRES2 HS
  go_wp2_with fail
  change bodyPost _ _ _ _ _ (set5 (W3.setCell ⟨b,4,none⟩ (.int .i64 ((h:Int)+1))) w.heap.size (.int .i64 2) (.string tx) (.int .i64 0) (.int .i64 0) (.slice none 0 0))
  generalize set5 (W3.setCell ⟨b,4,none⟩ (.int .i64 ((h:Int)+1))) w.heap.size (.int .i64 2) (.string tx) (.int .i64 0) (.int .i64 0) (.slice none 0 0)=w5 at HE HQ ⊢
  obtain ⟨q0,q1,q2,q3,q4⟩:=ql_ HQ.out
  exact bodyPost_ret (v:=.agg #[.int .i64 2,.string tx,.int .i64 0,.int .i64 0,.slice none 0 0]) (by simp[results,Tryz.results107,go_sem,q0,q1,q2,q3,q4]) rfl HE.out
 ·have g1:(tk == 1)=false:=by simpa using h1
  by_cases h12:tk=12
  ·exact absurd h12 hex9.2.1
  ·have g12:(tk == 12)=false:=by simpa using h12
   by_cases h13:tk=13
   ·subst h13
    have hn13:nextP [13] (.live (⟨13,tt,tlo,thi,tp⟩ :: u))=true:=rfl
    have HRES2:Hid (r=setP X.e m o (.live (⟨13,tt,tlo,thi,tp⟩ :: u))):=by
     show _=_
     rw[HRES.out,Y.next_cons,if_neg (by simp),if_pos hn13]
    have HC:Hid (∀ W,Rdd X b W o (.live (⟨13,tt,tlo,thi,tp⟩ :: u)) h→Calls Tryz.prog 124 #[.pointer (some ⟨b,0,none⟩),.int .i64 o] W (PFQ X b W o (setP X.e m o (.live (⟨13,tt,tlo,thi,tp⟩ :: u))))):=fun W hW=>hset X b W o _ h hW ho hn13 hl m (by omega)
    clear HRES h1 h12 hn13
    generalize htx:strOfNums tt=tx at *
    clear htx
    go_enter Tryz.func107,Tryz.ntmps107
    go_wp2_with fail
    change Code.wp _ _ _ _ (begN w)
    generalize begN w=W2 at *
    have SS:HeldR X b g off h 13 tx tlo thi tp W2.drew:=HS.out _ (Below.refl _ _).drew
    refine qw_ (HeldR X b g off h 13 tx tlo thi tp) 11 12 (by kernel_rfl) rfl ?_
    refine qc_ 0 (v:=.pointer (some ⟨b,0,none⟩)) rfl (by kernel_rfl) (by kernel_rfl) (by kernel_rfl) (by kernel_rfl) (fun _ _ _ h=>h) SS rfl (fun w' hS=>?_) ?_
    ·obtain ⟨s0,s1,s2,s3,s4,s5,s6⟩:=hS;go_simp
    refine qc_ 1 (v:=.pointer (some ⟨b,0,none⟩)) rfl (by kernel_rfl) (by kernel_rfl) (by kernel_rfl) (by kernel_rfl) (fun _ _ _ h=>h) SS rfl (fun w' hS=>?_) ?_
    ·obtain ⟨s0,s1,s2,s3,s4,s5,s6⟩:=hS;go_simp
    refine qc_ 2 (v:=.pointer (some ⟨b,0,none⟩)) rfl (by kernel_rfl) (by kernel_rfl) (by kernel_rfl) (by kernel_rfl) (fun _ _ _ h=>h) SS rfl (fun w' hS=>?_) ?_
    ·obtain ⟨s0,s1,s2,s3,s4,s5,s6⟩:=hS;go_simp
    refine qc_ 3 (v:=.slice (some ⟨g,off,none⟩) X.n X.c) rfl (by kernel_rfl) (by kernel_rfl) (by kernel_rfl) (by kernel_rfl) (fun _ _ _ h=>h) SS rfl (fun w' hS=>?_) ?_
    ·obtain ⟨s0,s1,s2,s3,s4,s5,s6⟩:=hS;go_simp
    refine qc_ 4 (v:=.pointer (some ⟨b,0,none⟩)) rfl (by kernel_rfl) (by kernel_rfl) (by kernel_rfl) (by kernel_rfl) (fun _ _ _ h=>h) SS rfl (fun w' hS=>?_) ?_
    ·obtain ⟨s0,s1,s2,s3,s4,s5,s6⟩:=hS;go_simp
    refine qc_ 5 (v:=.pointer (some ⟨b,0,none⟩)) rfl (by kernel_rfl) (by kernel_rfl) (by kernel_rfl) (by kernel_rfl) (fun _ _ _ h=>h) SS rfl (fun w' hS=>?_) ?_
    ·obtain ⟨s0,s1,s2,s3,s4,s5,s6⟩:=hS;go_simp
    refine qc_ 6 (v:=.pointer (some ⟨b,4,none⟩)) rfl (by kernel_rfl) (by kernel_rfl) (by kernel_rfl) (by kernel_rfl) (fun _ _ _ h=>h) SS rfl (fun w' hS=>?_) ?_
    ·obtain ⟨s0,s1,s2,s3,s4,s5,s6⟩:=hS;go_simp
    refine qc_ 7 (v:=.int .i64 h) rfl (by kernel_rfl) (by kernel_rfl) (by kernel_rfl) (by kernel_rfl) (fun _ _ _ h=>h) SS rfl (fun w' hS=>?_) ?_
    ·obtain ⟨s0,s1,s2,s3,s4,s5,s6⟩:=hS;go_simp
    refine qc_ 8 (v:=.pointer (some ⟨g,off+h*5,none⟩)) rfl (by kernel_rfl) (by kernel_rfl) (by kernel_rfl) (by kernel_rfl) (fun _ _ _ h=>h) SS rfl (fun w' hS=>?_) ?_
    ·obtain ⟨s0,s1,s2,s3,s4,s5,s6⟩:=hS;go_simp
    refine qc_ 9 (v:=.agg #[.int .i64 13,.string tx,.int .i64 tlo,.int .i64 thi,.int .i64 tp]) rfl (by kernel_rfl) (by kernel_rfl) (by kernel_rfl) (by kernel_rfl) (fun _ _ _ h=>h) SS rfl (fun w' hS=>?_) ?_
    ·obtain ⟨s0,s1,s2,s3,s4,s5,s6⟩:=hS;go_simp
    refine zk_ 10 rfl (by kernel_rfl) rfl ?_
    go_simp
    have HBA:Hid (Below W2.heap.size W2 ((W2.alloc (.cells #[.int .i64 0,.string { data:=#[] },.int .i64 0,.int .i64 0,.int .i64 0] 129)).drew)):=(qa_ W2 _).drew
    have hNA:((W2.alloc (.cells #[.int .i64 0,.string { data:=#[] },.int .i64 0,.int .i64 0,.int .i64 0] 129)).drew).heap[w.heap.size+1]?=some (.cells #[.int .i64 0,.string { data:=#[] },.int .i64 0,.int .i64 0,.int .i64 0] 129 (0,0)):=by rw[← hz2];exact heap_alloc_new W2 _
    have SA:=HS.out _ HBA.out
    have hzA:((W2.alloc (.cells #[.int .i64 0,.string { data:=#[] },.int .i64 0,.int .i64 0,.int .i64 0] 129)).drew).heap.size=w.heap.size+2:=by rw[show ((W2.alloc (.cells #[.int .i64 0,.string { data:=#[] },.int .i64 0,.int .i64 0,.int .i64 0] 129)).drew).heap.size=W2.heap.size+1 by simp[World.drew]];omega
    generalize ((W2.alloc (.cells #[.int .i64 0,.string { data:=#[] },.int .i64 0,.int .i64 0,.int .i64 0] 129)).drew)=WA at *
    refine ⟨SA,?_⟩
    refine zk_ 11 rfl (by kernel_rfl) rfl ?_
    have HNA:=hd_ hNA
    obtain ⟨z0,z1,z2,z3,z4⟩:=ql_ hNA
    have fA:∀ j,WA.frozen? ⟨w.heap.size+1,j,none⟩=false:=fun j=>frozen_of_row _ _ _ _ _ hNA
    clear hNA SA SS
    go_simp
    refine Z_done (by kernel_rfl) ?_
    unfold OnlyN
    simp only[]
    change Exit.then _ _ .normal _ (set5 WA (w.heap.size+1) (.int .i64 13) (.string tx) (.int .i64 tlo) (.int .i64 thi) (.int .i64 tp))
    have HB3:Hid (Below W2.heap.size W2 (set5 WA (w.heap.size+1) (.int .i64 13) (.string tx) (.int .i64 tlo) (.int .i64 thi) (.int .i64 tp))):=zv_ HBA.out (by omega) _ _ _ _ _
    have HT3:=hd_ (set5_row HNA.out (.int .i64 13) (.string tx) (.int .i64 tlo) (.int .i64 thi) (.int .i64 tp))
    have hz3:(set5 WA (w.heap.size+1) (.int .i64 13) (.string tx) (.int .i64 tlo) (.int .i64 thi) (.int .i64 tp)).heap.size=w.heap.size+2:=by rw[zq_];exact hzA
    clear z0 z1 z2 z3 z4 fA HBA HNA hzA
    generalize set5 WA (w.heap.size+1) (.int .i64 13) (.string tx) (.int .i64 tlo) (.int .i64 thi) (.int .i64 tp)=W3 at *
    have HR3:=hd_ (HR2.out.below HB3.out)
    obtain ⟨z0,z1,z2,z3,z4⟩:=ql_ HT3.out
    have HF3:Hid (Fe b w W3):=HF2.out.trans (Fe.of_below HB3.out)
    have HBX3:Hid (Box5 W3 w.heap.size 77):=HBX2.out.fe (b:=b) (Fe.of_below HB3.out) (by omega) (by omega)
    have HC3:=hd_ (HC.out W3 HR3.out)
    clear HC HR2 HR3 HB3 HT3 HF2 HBX2 HS
    go_wp2_with fail
    refine HC3.out.mono ?_
    rintro en w5 ⟨v,x,rfl,⟨A5,n5,c5,rfl,hv⟩,hx,hr5,hf5⟩
    have HF5:=hd_ (HF3.out.trans hf5)
    have HBX5:=hd_ (HBX3.out.fe hf5 (by omega) (by omega))
    rw[← HRES2.out] at hx hr5
    have HE:Hid (PFQ X b w o r (.returned (.agg #[.int .i64 x.kind,.string x.name,.int .i64 x.low,.int .i64 x.high,.slice A5 n5 c5])) (set5 w5 w.heap.size (.int .i64 x.kind) (.string x.name) (.int .i64 x.low) (.int .i64 x.high) (.slice A5 n5 c5))) :=
     pf_end (s:=r.2) (x:=x) (N:=w.heap.size) (lo:=W3.heap.size) HF5.out hr5 (Nat.le_refl _) (by omega) hlt hv rfl hx
    obtain ⟨⟨x0,x1,x2,x3,x4,k0,k1,k2,k3,k4⟩,fN⟩:=HBX5.out.facts
    have HQ:=hd_ (HBX5.out.set (.int .i64 x.kind) (.string x.name) (.int .i64 x.low) (.int .i64 x.high) (.slice A5 n5 c5))
    clear hv hx hr5 hf5 HC3 HF3 HF5 HBX3 HBX5 HRES2 z0 z1 z2 z3 z4
    go_wp2_with fail
    change bodyPost _ _ _ _ _ (set5 w5 w.heap.size _ _ _ _ _)
    generalize set5 w5 w.heap.size (.int .i64 x.kind) (.string x.name) (.int .i64 x.low) (.int .i64 x.high) (.slice A5 n5 c5)=w9 at HE HQ ⊢
    obtain ⟨q0,q1,q2,q3,q4⟩:=ql_ HQ.out
    exact bodyPost_ret (v:=.agg #[.int .i64 x.kind,.string x.name,.int .i64 x.low,.int .i64 x.high,.slice A5 n5 c5]) (by simp[results,Tryz.results107,go_sem,q0,q1,q2,q3,q4]) rfl HE.out
   ·have g13:(tk == 13)=false:=by simpa using h13
    obtain rfl:tk=6:=by
     simp only[Y.next_cons,List.contains_cons,List.contains_nil,Bool.or_false,Bool.or_eq_true,beq_iff_eq] at hnx
     omega
    exact absurd rfl hex9.1

def ButD (lo P hi:Nat) (i:Nat):Prop:=lo≤i∧i<hi∧i≠P
structure HeldD (X:Px) (b:Nat) (w:World) (o L:Nat) (r:Nd × Ps) (PB:Nat) (x:Nd) (s:Ps) (m' : Nat) (wx:World):Prop where
 rd:RdF X b wx o s
 fe:Fe b w wx
 row:∃ A n c,wx.heap[PB]?=some (.cells #[.int .i64 x.kind,.string x.name,.int .i64 x.low,.int .i64 x.high,.slice A n c] 77 (0,0))∧RdN wx (ButD w.heap.size PB wx.heap.size) A n c x.kids
 eq1:∀ ts,s=.live ts→r=heldP X.e m' o x (.live ts)
 eq2:∀ a y,s=.dead a y→r.2=.dead a y
 fuel:∀ ts,s=.live ts→10*ts.length+7≤m'
 lim:∀ ts,s=.live ts→ts.length≤L
 lo:w.heap.size≤PB
 hi:PB<wx.heap.size
structure SetD (X:Px) (b:Nat) (w:World) (o L:Nat) (q:List Nd × Ps) (fin:Ps) (NB:Nat) (tlo:Int) (v:Value) (l:List Nd) (s:Ps) (m' : Nat) (wx:World):Prop where
 own:OwnN wx (NB+1) v l
 rd:RdF X b wx o s
 fe:Fe b w wx
 row:wx.heap[NB]?=some (.cells #[.int .i64 4,.string noName,.int .i64 tlo,.int .i64 0,v] 77 (0,0))
 eq1:∀ ts,s=.live ts→q=partsP X.e m' o l (.live ts)
 eq2:∀ a y,s=.dead a y→fin=.dead a y
 fuel:∀ ts,s=.live ts→10*ts.length+9≤m'
 lim:∀ ts,s=.live ts→ts.length≤L
 len:l.length+left_ s≤9000
theorem parts_round {e:Int}{m o:Nat}{l:List Nd}{ts:List Tok}{q:List Nd × Ps}{fin:Ps}{hp:Nd × Ps}(hq:q=partsP e (m+4) o l (.live ts)) (hf:fin=(takeP e [14] q.2).2) (h14:kAt ts≠14)
  (hh:hp=heldP e (m+2) o (memberP e (m+2) o (.live ts)).1 (memberP e (m+2) o (.live ts)).2) :
  (∀ ts', hp.2=.live ts' → q=partsP e (m+3) o (l++[hp.1]) (.live ts'))∧(∀ a y,hp.2=.dead a y→fin=.dead a y)∧left_ hp.2≤ts.length:=by
 have hpt:partP e (m+3) o (.live ts)=hp:=by rw[partP,hh]
 have hpn:partsP e (m+4) o l (.live ts)=if nextP [15,1,13] (.live ts)=true then partsP e (m+3) o (l++[hp.1]) hp.2 else (l,.live ts):=by rw[← hpt,partsP]
 cases hx:nextP [15,1,13] (.live ts) with
 | true =>
  rw[hpn,if_pos hx] at hq
  refine ⟨fun ts' h=>by rw[hq,h],fun a y h=>?_,?_⟩
  ·rw[hf,hq,h,(Y.dead_all e (m+3)).parts,Y.take_dead]
  ·have hl:=Y.part_less e m o (.live ts) hx
   rw[hpt] at hl
   cases h2:hp.2 with
   | live u=>rw[h2] at hl;have h3:u.length<ts.length:=hl;show u.length+1≤_;omega
   | dead a y=>show 0≤_;omega
 | false =>
  rw[hpn,if_neg (by rw[hx];decide)] at hq
  have h13:nextP [13] (.live ts)=false:=by
   cases ts with
   | nil=>rfl
   | cons t u =>
    rw[Y.next_cons] at hx ⊢
    simp only[List.contains_cons,List.contains_nil,Bool.or_false,Bool.or_eq_false_iff,beq_eq_false_iff_ne] at hx ⊢
    exact hx.2.2
  have h151:nextP [15,1] (.live ts)=false:=by
   cases ts with
   | nil=>rfl
   | cons t u =>
    rw[Y.next_cons] at hx ⊢
    simp only[List.contains_cons,List.contains_nil,Bool.or_false,Bool.or_eq_false_iff,beq_eq_false_iff_ne] at hx ⊢
    exact ⟨hx.1,hx.2.1⟩
  have h14' : nextP [14] (.live ts)=false:=by
   cases ts with
   | nil=>rfl
   | cons t u =>
    rw[Y.next_cons]
    simp only[List.contains_cons,List.contains_nil,Bool.or_false,beq_eq_false_iff_ne]
    exact h14
  have hmem:memberP e (m+2) o (.live ts)=(Y.single noTok,failP e 4 (.live ts)):=by
   rw[memberP,if_neg (by rw[h13];decide),take_no h151]
  obtain ⟨a,y,hfp⟩:∃ a y,failP e 4 (.live ts)=.dead a y:=by
   cases ts with
   | nil=>exact ⟨_,_,rfl⟩
   | cons t u=>exact ⟨_,_,rfl⟩
  rw[hmem,hfp] at hh
  have hp2:hp.2=.dead a y:=by rw[hh];exact (Y.dead_all e (m+2)).held _ _ _ _
  have hfin:fin=.dead a y:=by rw[hf,hq];show (takeP e [14] (.live ts)).2=_;rw[take_no h14', hfp]
  refine ⟨fun ts' h=>?_,fun a' y' h=>?_,?_⟩
  ·rw[hp2] at h;cases h
  ·rw[hp2] at h;rw[hfin,h]
  ·rw[hp2];show 0≤_;omega
theorem held_out {e:Int}{m o:Nat}{x:Nd}{ts:List Tok}(h16:kAt ts≠16) (h17:kAt ts≠17):heldP e (m+1) o x (.live ts)=(x,.live ts):=by
 rw[heldP,if_neg]
 cases ts with
 | nil=>decide
 | cons t u =>
  rw[Y.next_cons]
  simp only[List.contains_cons,List.contains_nil,Bool.or_false,Bool.or_eq_true,beq_iff_eq]
  rintro (h|h)
  ·exact h16 h
  ·exact h17 h
section
variable {X:Px}{b o L NB m' : Nat}{w wr W3 W4 w5 w6:World}{q:List Nd × Ps}{fin s s' : Ps}{tlo:Int}{v v6:Value}{l:List Nd}{x:Nd}{A:Option Addr}{n c:Nat}
theorem SetD.nb (h:SetD X b w o L q fin NB tlo v l s m' wr):NB<wr.heap.size:=(Array.getElem?_eq_some_iff.1 h.row).1
structure GotS (X:Px) (b:Nat) (w:World) (o NB:Nat) (tlo:Int) (v:Value) (l:List Nd) (x:Nd) (s:Ps) (A:Option Addr) (n c N:Nat) (W4:World):Prop where
 rd:RdF X b W4 o s
 fe:Fe b w W4
 own:OwnN W4 (NB+1) v l
 nbrow:W4.heap[NB]?=some (.cells #[.int .i64 4,.string noName,.int .i64 tlo,.int .i64 0,v] 77 (0,0))
 row:W4.heap[N]?=some (.cells #[.int .i64 x.kind,.string x.name,.int .i64 x.low,.int .i64 x.high,.slice A n c] 77 (0,0))
 nd:NdAt W4 (fun b=>NB+1≤b∧b<W4.heap.size∧v.ownBlock≠some b) [.int .i64 x.kind,.string x.name,.int .i64 x.low,.int .i64 x.high,.slice A n c] x
theorem got_s {S:Nat→Prop}(h:SetD X b w o L q fin NB tlo v l s m' wr) (hbN:b<NB) (hf:Fe b wr W3) (hr:RdF X b W3 o s') (hS:∀ i,S i→wr.heap.size≤i∧i<W3.heap.size) (hv:RdN W3 S A n c x.kids) :
  GotS X b w o NB tlo v l x s' A n c W3.heap.size (litN W3 (.int .i64 x.kind) (.string x.name) (.int .i64 x.low) (.int .i64 x.high) (.slice A n c)):=by
 have h4:=litN_below W3 (.int .i64 x.kind) (.string x.name) (.int .i64 x.low) (.int .i64 x.high) (.slice A n c)
 have hrow:=litN_row W3 (.int .i64 x.kind) (.string x.name) (.int .i64 x.low) (.int .i64 x.high) (.slice A n c) _ rfl
 generalize litN W3 (.int .i64 x.kind) (.string x.name) (.int .i64 x.low) (.int .i64 x.high) (.slice A n c)=W4 at *
 have hbl:=h.own.block
 have hnb:=h.nb
 have s2:=hf.size
 have s4:=h4.size
 refine ⟨hr.below h4,(h.fe.trans hf).trans (Fe.of_below h4),(h.own.fe hf (by omega)).keep s4 fun i _ hi=>h4.block i hi,(h4.block NB (by omega)).trans ((hf.block NB hnb (by omega)).trans h.row),hrow,?_⟩
 have h5:RdN W4 (fun b=>NB+1≤b∧b<W4.heap.size∧v.ownBlock≠some b) A n c x.kids:=hv.keep (fun i hi=>⟨by have:=(hS i hi).1;omega,by have:=(hS i hi).2;omega,fun e=>by have:=(hbl i e).2;have:=(hS i hi).1;omega⟩) (fun p hp=>h4.cell (hS _ hp).2)
 have h6:=NdAt.of h5 x.kind x.low x.high x.name
 rwa [nd_eta] at h6
theorem RdF.other {g:Nat}(H:RdF X b w o s) (hg:b<g) (j:Nat) (v:Value):RdF X b (w.setCell ⟨g,j,none⟩ v) o s:=by obtain ⟨h,H⟩:=H;exact ⟨h,H.other hg j v⟩
theorem SetD.next {N:Nat}{ts:List Tok}(h:SetD X b w o L q fin NB tlo v l (.live ts) (m' + 1) wr) (hG:GotS X b w o NB tlo v l x s' A n c N W4) (hbN:b<NB) (hwN:w.heap.size≤NB) (ho6:OwnN w6 (NB+1) v6 (l++[x])) (hg6:W4.grownBy w6 v.ownBlock)
  (he:∀ ts', s' = .live ts' → q=partsP X.e m' o (l++[x]) (.live ts')) (hd:∀ a y,s' = .dead a y→fin=.dead a y) (hless:left_ s' ≤ ts.length) :
  SetD X b w o L q fin NB tlo v6 (l++[x]) s' m' (w6.setCell ⟨NB,4,none⟩ v6)∧dlen b (w6.setCell ⟨NB,4,none⟩ v6)<dlen b wr:=by
 have hbl:=hG.own.block
 have hr6:RdF X b w6 o s' := hG.rd.grown hg6 (fun i hi=>by have:=(hbl i hi).1;omega)
 have hf6:Fe b w w6:=hG.fe.grown hg6 (fun i hi=>by have:=(hbl i hi).1;omega)
 have hnb4:NB<W4.heap.size:=(Array.getElem?_eq_some_iff.1 hG.nbrow).1
 have hrow6:=(hg6.block NB hnb4 (fun e=>by have:=(hbl NB e.symm).1;omega)).trans hG.nbrow
 have h1:=h.fuel ts rfl
 have h2:=h.lim ts rfl
 have h3:=h.len
 have h4:left_ (.live ts)=ts.length+1:=rfl
 rw[h4] at h3
 have hr7:=hr6.other hbN 4 v6
 refine ⟨⟨ho6.keep (by simp) (fun i hi _=>Below.heap_setCell _ _ _ _ (by show i≠NB;omega)),hr7,hf6.set (.inr hwN) _ _,by rw[heap_setCell_same _ _ _ _ _ _ hrow6];rfl,he,hd,fun u e=>?_,fun u e=>?_,by simp;omega⟩,by rw[hr7.dlen,h.rd.dlen,h4];omega⟩
 ·rw[e] at hless;have:u.length+1≤ts.length:=hless;omega
 ·rw[e] at hless;have:u.length+1≤ts.length:=hless;omega
end

set_option maxHeartbeats 1000000 in
theorem dset_of {L:Nat}(hpart:DPart L):DSet (L+1):=by
 intro X b w o l h H ho hnx hl m hm
 obtain ⟨m,rfl⟩:∃ m', m=m' + 1:=⟨m - 1,by omega⟩
 have hlt:=H.lt
 have hres:setP X.e (m+1) o (.live l)=(.mk 4 noName (takeP X.e [13] (deepP X.e o (.live l))).1.low 0 (partsP X.e m (o+1) [] (takeP X.e [13] (deepP X.e o (.live l))).2).1,(takeP X.e [14] (partsP X.e m (o+1) [] (takeP X.e [13] (deepP X.e o (.live l))).2).2).2):=by rw[setP]
 have HRES:=hd_ hres
 clear hres
 generalize setP X.e (m+1) o (.live l)=r at *
 have HW1:=hd_ (begN_below w)
 have HR2:=hd_ (H.below HW1.out)
 have HBX2:=hd_ (begN_box w)
 have hz2:=begN_size w
 have HF2:Hid (Fe b w (begN w)):=Fe.of_below HW1.out
 clear H
 obtain ⟨t,u,rfl⟩:∃ t u,l=t :: u:=by
  cases l with
  | nil=>simp at hnx
  | cons t u=>exact ⟨t,u,rfl⟩
 obtain ⟨g,off,hg,hh,hheld⟩:=HR2.out.held
 obtain ⟨tk,tt,tlo,thi,tp⟩:=t
 obtain rfl:tk=13:=by
  simp only[Y.next_cons,List.contains_cons,List.contains_nil,Bool.or_false,beq_iff_eq] at hnx
  exact hnx
 have HS:Hid (∀ w', Below (begN w).heap.size (begN w) w' → HeldR X b g off h 13 (strOfNums tt) tlo thi tp w'):=hheld
 clear hheld
 have hh0:(0:Int)≤(h:Int):=by omega
 have hhn:(h:Int)<(X.n:Int):=by omega
 have hf9:=HR2.out.few
 generalize htx:strOfNums tt=tx at *
 clear htx hnx
 simp only[List.length_cons] at hl hm
 by_cases ho12:o=12
 ·subst ho12
  have HRES2:Hid (r.2=.dead tp 8):=by
   show _=_
   rw[HRES.out]
   show (takeP X.e [14] (partsP X.e m 13 [] (takeP X.e [13] (.dead tp 8)).2).2).2=.dead tp 8
   rw[Y.take_dead,(Y.dead_all X.e m).parts,Y.take_dead]
  clear HRES
  go_enter Tryz.func124,Tryz.ntmps124
  go_wp2_with fail
  change Calls _ _ _ (begN w) _
  generalize begN w=W3 at *
  have HC3:=hd_ (pfail_any HR2.out (y:=8) (by decide) (by omega) (fun h=>by cases h))
  refine HC3.out.mono ?_
  rintro en w5 ⟨rfl,hr5,hf5⟩
  have HF5:=hd_ (HF2.out.trans hf5)
  have HBX5:=hd_ (HBX2.out.fe hf5 (by omega) (by omega))
  have HE:Hid (PFQ X b w 12 r (.returned (.agg #[.int .i64 0,.string noName,.int .i64 0,.int .i64 0,.slice none 0 0])) (set5 w5 w.heap.size (.int .i64 0) (.string noName) (.int .i64 0) (.int .i64 0) (.slice none 0 0))) :=
   pf_end (s:=.dead tp 8) (x:=zeroN) (N:=w.heap.size) (lo:=w.heap.size+1) HF5.out hr5 (Nat.le_refl _) (by omega) hlt (RdN.nil _ _) HRES2.out (fun ts h=>by cases h)
  have HQ:=hd_ (HBX5.out.set (.int .i64 0) (.string noName) (.int .i64 0) (.int .i64 0) (.slice none 0 0))
  obtain ⟨⟨x0,x1,x2,x3,x4,k0,k1,k2,k3,k4⟩,fN⟩:=HBX5.out.facts
  clear hr5 hf5 HC3 HF5 HBX2 HBX5 HRES2 HS HR2 HF2 HW1
  go_wp2_with fail
  change bodyPost _ _ _ _ _ (set5 w5 w.heap.size (.int .i64 0) (.string noName) (.int .i64 0) (.int .i64 0) (.slice none 0 0))
  generalize set5 w5 w.heap.size (.int .i64 0) (.string noName) (.int .i64 0) (.int .i64 0) (.slice none 0 0)=w9 at HE HQ ⊢
  obtain ⟨q0,q1,q2,q3,q4⟩:=ql_ HQ.out
  exact bodyPost_ret (v:=.agg #[.int .i64 0,.string noName,.int .i64 0,.int .i64 0,.slice none 0 0]) (by simp[results,Tryz.results124,go_sem,q0,q1,q2,q3,q4]) rfl HE.out
 ·have ho11:o≤11:=by omega
  have hoi:¬ (12:Int)≤(o:Int):=by omega
  have hwo:IntKind.i64.wrap ((o:Int)+1)=(o:Int)+1:=IntWalk.i64_in _ (by omega)
  obtain ⟨q,hq⟩:∃ q,partsP X.e m (o+1) [] (.live u)=q:=⟨_,rfl⟩
  obtain ⟨fin,hfin⟩:∃ fin,(takeP X.e [14] q.2).2=fin:=⟨_,rfl⟩
  have HRES2:Hid (r=(.mk 4 noName tlo 0 q.1,fin)):=by
   show _=_
   have hd:deepP X.e o (.live (⟨13,tt,tlo,thi,tp⟩ :: u))=.live (⟨13,tt,tlo,thi,tp⟩ :: u):=by unfold Y.deepP;rw[if_neg ho12]
   rw[HRES.out,hd,zn_ (by simp),hq,hfin]
  have HQ0:=hd_ hq
  have HFIN:=hd_ hfin
  have hfew:u.length≤4000:=by have:=HR2.out.live.2.2;simp only[List.length_cons] at this;omega
  clear HRES hq hfin ho12
  go_enter Tryz.func124,Tryz.ntmps124
  go_wp2_with fail
  change Code.wp _ _ _ _ (begN w)
  generalize begN w=W2 at *
  have SS:HeldR X b g off h 13 tx tlo thi tp W2.drew:=HS.out _ (Below.refl _ _).drew
  refine qw_ (HeldR X b g off h 13 tx tlo thi tp) 13 14 (by kernel_rfl) rfl ?_
  refine qc_ 0 (v:=.pointer (some ⟨b,0,none⟩)) rfl (by kernel_rfl) (by kernel_rfl) (by kernel_rfl) (by kernel_rfl) (fun _ _ _ h=>h) SS rfl (fun w' hS=>?_) ?_
  ·obtain ⟨s0,s1,s2,s3,s4,s5,s6⟩:=hS;go_simp
  refine qc_ 1 (v:=.pointer (some ⟨b,0,none⟩)) rfl (by kernel_rfl) (by kernel_rfl) (by kernel_rfl) (by kernel_rfl) (fun _ _ _ h=>h) SS rfl (fun w' hS=>?_) ?_
  ·obtain ⟨s0,s1,s2,s3,s4,s5,s6⟩:=hS;go_simp
  refine qc_ 2 (v:=.pointer (some ⟨b,0,none⟩)) rfl (by kernel_rfl) (by kernel_rfl) (by kernel_rfl) (by kernel_rfl) (fun _ _ _ h=>h) SS rfl (fun w' hS=>?_) ?_
  ·obtain ⟨s0,s1,s2,s3,s4,s5,s6⟩:=hS;go_simp
  refine qc_ 3 (v:=.slice (some ⟨g,off,none⟩) X.n X.c) rfl (by kernel_rfl) (by kernel_rfl) (by kernel_rfl) (by kernel_rfl) (fun _ _ _ h=>h) SS rfl (fun w' hS=>?_) ?_
  ·obtain ⟨s0,s1,s2,s3,s4,s5,s6⟩:=hS;go_simp
  refine qc_ 4 (v:=.pointer (some ⟨b,0,none⟩)) rfl (by kernel_rfl) (by kernel_rfl) (by kernel_rfl) (by kernel_rfl) (fun _ _ _ h=>h) SS rfl (fun w' hS=>?_) ?_
  ·obtain ⟨s0,s1,s2,s3,s4,s5,s6⟩:=hS;go_simp
  refine qc_ 5 (v:=.pointer (some ⟨b,0,none⟩)) rfl (by kernel_rfl) (by kernel_rfl) (by kernel_rfl) (by kernel_rfl) (fun _ _ _ h=>h) SS rfl (fun w' hS=>?_) ?_
  ·obtain ⟨s0,s1,s2,s3,s4,s5,s6⟩:=hS;go_simp
  refine qc_ 6 (v:=.pointer (some ⟨b,4,none⟩)) rfl (by kernel_rfl) (by kernel_rfl) (by kernel_rfl) (by kernel_rfl) (fun _ _ _ h=>h) SS rfl (fun w' hS=>?_) ?_
  ·obtain ⟨s0,s1,s2,s3,s4,s5,s6⟩:=hS;go_simp
  refine qc_ 7 (v:=.int .i64 h) rfl (by kernel_rfl) (by kernel_rfl) (by kernel_rfl) (by kernel_rfl) (fun _ _ _ h=>h) SS rfl (fun w' hS=>?_) ?_
  ·obtain ⟨s0,s1,s2,s3,s4,s5,s6⟩:=hS;go_simp
  refine qc_ 8 (v:=.pointer (some ⟨g,off+h*5,none⟩)) rfl (by kernel_rfl) (by kernel_rfl) (by kernel_rfl) (by kernel_rfl) (fun _ _ _ h=>h) SS rfl (fun w' hS=>?_) ?_
  ·obtain ⟨s0,s1,s2,s3,s4,s5,s6⟩:=hS;go_simp
  refine qc_ 9 (v:=.pointer (some ⟨g,off+h*5+2,none⟩)) rfl (by kernel_rfl) (by kernel_rfl) (by kernel_rfl) (by kernel_rfl) (fun _ _ _ h=>h) SS rfl (fun w' hS=>?_) ?_
  ·obtain ⟨s0,s1,s2,s3,s4,s5,s6⟩:=hS;go_simp
  refine qc_ 10 (v:=.int .i64 tlo) rfl (by kernel_rfl) (by kernel_rfl) (by kernel_rfl) (by kernel_rfl) (fun _ _ _ h=>h) SS rfl (fun w' hS=>?_) ?_
  ·obtain ⟨s0,s1,s2,s3,s4,s5,s6⟩:=hS;go_simp
  refine qc_ 11 (v:=.agg #[.int .i64 4,.string { data:=#[] },.int .i64 tlo,.int .i64 0,.slice none 0 0]) rfl (by kernel_rfl) (by kernel_rfl) (by kernel_rfl) (by kernel_rfl) (fun _ _ _ h=>h) SS rfl (fun w' hS=>?_) ?_
  ·obtain ⟨s0,s1,s2,s3,s4,s5,s6⟩:=hS;go_simp
  refine zk_ 12 rfl (by kernel_rfl) rfl ?_
  go_simp
  have HBA:Hid (Below W2.heap.size W2 ((W2.alloc (.cells #[.int .i64 0,.string { data:=#[] },.int .i64 0,.int .i64 0,.slice none 0 0] 77)).drew)):=(qa_ W2 _).drew
  have hNA:((W2.alloc (.cells #[.int .i64 0,.string { data:=#[] },.int .i64 0,.int .i64 0,.slice none 0 0] 77)).drew).heap[w.heap.size+1]?=some (.cells #[.int .i64 0,.string { data:=#[] },.int .i64 0,.int .i64 0,.slice none 0 0] 77 (0,0)):=by rw[← hz2];exact heap_alloc_new W2 _
  have SA:=HS.out _ HBA.out
  have hzA:((W2.alloc (.cells #[.int .i64 0,.string { data:=#[] },.int .i64 0,.int .i64 0,.slice none 0 0] 77)).drew).heap.size=w.heap.size+2:=by rw[show ((W2.alloc (.cells #[.int .i64 0,.string { data:=#[] },.int .i64 0,.int .i64 0,.slice none 0 0] 77)).drew).heap.size=W2.heap.size+1 by simp[World.drew]];omega
  generalize ((W2.alloc (.cells #[.int .i64 0,.string { data:=#[] },.int .i64 0,.int .i64 0,.slice none 0 0] 77)).drew)=WA at *
  refine ⟨SA,?_⟩
  refine zk_ 13 rfl (by kernel_rfl) rfl ?_
  have HNA:=hd_ hNA
  obtain ⟨z0,z1,z2,z3,z4⟩:=ql_ hNA
  have fA:∀ j,WA.frozen? ⟨w.heap.size+1,j,none⟩=false:=fun j=>frozen_of_row _ _ _ _ _ hNA
  clear hNA SA SS
  go_simp
  refine Z_done (by kernel_rfl) ?_
  unfold OnlyN
  simp only[]
  change Exit.then _ _ .normal _ (set5 WA (w.heap.size+1) (.int .i64 4) (.string { data:=#[] }) (.int .i64 tlo) (.int .i64 0) (.slice none 0 0))
  have HB3:Hid (Below W2.heap.size W2 (set5 WA (w.heap.size+1) (.int .i64 4) (.string { data:=#[] }) (.int .i64 tlo) (.int .i64 0) (.slice none 0 0))):=zv_ HBA.out (by omega) _ _ _ _ _
  have HT3:=hd_ (set5_row HNA.out (.int .i64 4) (.string { data:=#[] }) (.int .i64 tlo) (.int .i64 0) (.slice none 0 0))
  have hz3:(set5 WA (w.heap.size+1) (.int .i64 4) (.string { data:=#[] }) (.int .i64 tlo) (.int .i64 0) (.slice none 0 0)).heap.size=w.heap.size+2:=by rw[zq_];exact hzA
  clear z0 z1 z2 z3 z4 fA HBA HNA hzA
  generalize set5 WA (w.heap.size+1) (.int .i64 4) (.string { data:=#[] }) (.int .i64 tlo) (.int .i64 0) (.slice none 0 0)=W3 at *
  have HR3:=hd_ (HR2.out.below HB3.out)
  obtain ⟨_,_,_,_,c4⟩:=HR3.out.cells
  have f4:=HR3.out.fr 4
  obtain ⟨NB,hNB⟩:∃ NB,NB=w.heap.size+1:=⟨_,rfl⟩
  have HST:Hid (SetD X b W2 (o+1) L q fin NB tlo (.slice none 0 0) [] (.live u) m (W3.setCell ⟨b,4,none⟩ (.int .i64 ((h:Int)+1)))):=by
   have h5:=HR3.out.next (x:=(h:Int)+1) rfl
   refine ⟨OwnN.nil _ _,⟨h+1,h5.blk,h5.rd,?_,h5.few,h5.good⟩,(Fe.of_below HB3.out).set (.inl rfl) _ _,?_,fun ts e=>?_,fun a y e=>(by cases e),fun ts e=>?_,fun ts e=>?_,?_⟩
   ·rcases h5.st with h6|⟨a,y,h6,_⟩
    ·exact .inl h6
    ·cases h6
   ·rw[hNB];exact (Below.heap_setCell _ _ _ _ (by show w.heap.size+1≠b;omega)).trans HT3.out
   ·cases e;exact HQ0.out.symm
   ·cases e;omega
   ·cases e;omega
   ·show 0+(u.length+1)≤9000;omega
  have HZ4:Hid ((W3.setCell ⟨b,4,none⟩ (.int .i64 ((h:Int)+1))).heap.size=w.heap.size+2):=by show _=_;simp;exact hz3
  have hle:=HR3.out.le
  clear HR2 HB3 HT3 HS HQ0 HR3
  go_wp2_with fail
  change Code.wp _ _ _ _ (W3.setCell ⟨b,4,none⟩ (.int .i64 ((h:Int)+1)))
  generalize W3.setCell ⟨b,4,none⟩ (.int .i64 ((h:Int)+1))=W4 at *
  rw[← hNB]
  have hbN:b<NB:=by omega
  have hwN:W2.heap.size≤NB:=by omega
  have hwN1:w.heap.size<NB:=by omega
  have hwW2:w.heap.size<W2.heap.size:=by omega
  clear hNB hz2 HZ4
  clear c4 f4 hz3 hh0 hhn hle hfew
  go_loopw [] (fun wx=>∃ (v:Value) (l:List Nd) (s' : Ps) (m' : Nat),Hid (SetD X b W2 (o+1) L q fin NB tlo v l s' m' wx)) (fun wx=>dlen b wx)
  case atStart=>exact ⟨_,[],.live u,m,HST.out⟩
  case round =>
   obtain ⟨v,l', s', m', HM⟩:=hrel
   obtain ⟨WO,hWO⟩:∃ W,W=wr:=⟨_,rfl⟩
   subst hWO
   clear HST hl hm
   have hlen:=HM.out.len
   have hszr:=HM.out.fe.size
   have hNBlt:=HM.out.nb
   have HBXr:Hid (Box5 WO w.heap.size 77):=HBX2.out.fe HM.out.fe (by omega) (by omega)
   have HFr:Hid (Fe b w WO):=HF2.out.trans HM.out.fe
   obtain ⟨A,c,rfl,hv⟩:=HM.out.own.rd
   have HVr0:Hid (RdN WO (In (w.heap.size+1) WO.heap.size) A l'.length c l'):=hv.keep (fun i hi=>⟨by have:=hi.1;omega,hi.2⟩) (fun _ _=>rfl)
   have HNB:Hid (WO.heap[NB]?=_):=HM.out.row
   obtain ⟨hh,hrd⟩:=HM.out.rd
   have HRD:=hd_ hrd
   obtain ⟨_,_,_,d3,d4⟩:=hrd.cells
   have f4:=hrd.fr 4
   have hle:=hrd.le
   obtain ⟨n0,n1,n2,n3,n4⟩:=ql_ HNB.out
   clear hrd hv
   cases s' with
   | dead a y =>
    replace d3:WO.cell? ⟨b,3,none⟩=some (.int .i64 y):=d3
    have hy:y≠0:=HRD.out.dead_y
    have g1:(y == 0)=false:=by simpa using hy
    have HEz:Hid (r.2=.dead a y):=by show _=_;rw[HRES2.out];exact HM.out.eq2 a y rfl
    have HRz:Hid (RdF X b (WO.setCell ⟨b,4,none⟩ (.int .i64 ((hh:Int)+1))) o (.dead a y)):=⟨_,HRD.out.past rfl⟩
    have HXz:Hid (∀ ts,Ps.dead a y=.live ts→Nd.mk 4 noName tlo 0 l' = r.1):=fun ts e=>by cases e
    have HFz:=HFr
    have HBz:=HBXr
    have HVz:=HVr0
    clear HFr HBXr HVr0 HRD hy HNB
    have HE:Hid (PFQ X b w o r (.returned (.agg #[.int .i64 4,.string noName,.int .i64 tlo,.int .i64 0,.slice A l'.length c])) (set5 (WO.setCell ⟨b,4,none⟩ (.int .i64 ((hh:Int)+1))) w.heap.size (.int .i64 4) (.string noName) (.int .i64 tlo) (.int .i64 0) (.slice A l'.length c))):=(piece_end (x:=.mk 4 noName tlo 0 l') HFz.out HRz.out HBz.out hlt HVz.out HEz.out HXz.out).1
    have HQ:Hid ((set5 (WO.setCell ⟨b,4,none⟩ (.int .i64 ((hh:Int)+1))) w.heap.size (.int .i64 4) (.string noName) (.int .i64 tlo) (.int .i64 0) (.slice A l'.length c)).heap[w.heap.size]?=some (.cells #[.int .i64 4,.string noName,.int .i64 tlo,.int .i64 0,.slice A l'.length c] 77 (0,0))):=(piece_end (x:=.mk 4 noName tlo 0 l') HFz.out HRz.out HBz.out hlt HVz.out HEz.out HXz.out).2
    obtain ⟨⟨x0,x1,x2,x3,x4,k0,k1,k2,k3,k4⟩,fN⟩:=HBz.out.facts
    clear HFz HRz HBz HVz HEz HXz HM
    go_wp2_with fail
    change bodyPost _ _ _ _ _ (set5 (WO.setCell ⟨b,4,none⟩ (.int .i64 ((hh:Int)+1))) w.heap.size (.int .i64 4) (.string noName) (.int .i64 tlo) (.int .i64 0) (.slice A l'.length c))
    generalize set5 (WO.setCell ⟨b,4,none⟩ (.int .i64 ((hh:Int)+1))) w.heap.size (.int .i64 4) (.string noName) (.int .i64 tlo) (.int .i64 0) (.slice A l'.length c)=w9 at HE HQ ⊢
    obtain ⟨q0,q1,q2,q3,q4⟩:=ql_ HQ.out
    exact bodyPost_ret (v:=.agg #[.int .i64 4,.string noName,.int .i64 tlo,.int .i64 0,.slice A l'.length c]) (by simp[results,Tryz.results124,go_sem,q0,q1,q2,q3,q4]) rfl HE.out
   | live ts =>
    replace d3:WO.cell? ⟨b,3,none⟩=some (.int .i64 0):=d3
    have hfu:=HM.out.fuel _ rfl
    have hlim:=HM.out.lim _ rfl
    have HKD:=hd_ (qk_ HRD.out)
    by_cases h14:kAt ts=14
    ·obtain ⟨t4,lr,rfl⟩:∃ t u,ts=t :: u:=by
      cases ts with
      | nil=>exact absurd h14 (by decide)
      | cons t u=>exact ⟨t,u,rfl⟩
     have hk:t4.kind=14:=h14
     obtain ⟨m1,rfl⟩:∃ m1,m' = m1+1:=⟨m' - 1,by omega⟩
     have hq' : q=(l', .live (t4 :: lr)):=by rw[HM.out.eq1 _ rfl,partsP,if_neg (by simp[hk])]
     have hf' : fin=.live lr:=by rw[← HFIN.out,hq'];show (takeP X.e [14] (.live (t4 :: lr))).2=_;rw[zn_ (by simp[hk])]
     have hkd:=HKD.out
     rw[h14] at hkd
     have HKD4:=hd_ hkd
     have HEz:Hid (r.2=.live lr):=by show _=_;rw[HRES2.out,hf']
     have HXz:Hid (∀ ts,Ps.live lr=.live ts→Nd.mk 4 noName tlo 0 l' = r.1):=fun ts _=>by rw[HRES2.out,hq']
     clear hkd HKD hk h14 hq' hf' hfu hlim d4 f4 n0 n1 n2 n3 n4
     go_wp2_with fail
     refine HKD4.out.mono ?_
     rintro e w7 ⟨rfl,q9,rfl⟩
     have HR7:=hd_ (HRD.out.drewN q9)
     have HFz:Hid (Fe b w (WO.drewN q9)):=HFr.out.drewN q9
     have HBz:Hid (Box5 (WO.drewN q9) w.heap.size 77):=HBXr.out
     have HVz:Hid (RdN (WO.drewN q9) (In (w.heap.size+1) (WO.drewN q9).heap.size) A l'.length c l'):=HVr0.out.keep (fun _ h=>h) (fun _ _=>rfl)
     have HN7:Hid ((WO.drewN q9).heap[NB]?=_):=HNB.out
     clear HKD4 HFr HBXr HVr0 HNB HRD d3
     generalize WO.drewN q9=W7 at *
     obtain ⟨n0,n1,n2,n3,n4⟩:=ql_ HN7.out
     obtain ⟨_,_,_,_,d4⟩:=HR7.out.cells
     have f4:=HR7.out.fr 4
     have HRz:Hid (RdF X b (W7.setCell ⟨b,4,none⟩ (.int .i64 ((hh:Int)+1))) o (.live lr)):=⟨_,(HR7.out.next rfl).less (by omega)⟩
     clear HR7 HN7
     have HE:Hid (PFQ X b w o r (.returned (.agg #[.int .i64 4,.string noName,.int .i64 tlo,.int .i64 0,.slice A l'.length c])) (set5 (W7.setCell ⟨b,4,none⟩ (.int .i64 ((hh:Int)+1))) w.heap.size (.int .i64 4) (.string noName) (.int .i64 tlo) (.int .i64 0) (.slice A l'.length c))):=(piece_end (x:=.mk 4 noName tlo 0 l') HFz.out HRz.out HBz.out hlt HVz.out HEz.out HXz.out).1
     have HQ:Hid ((set5 (W7.setCell ⟨b,4,none⟩ (.int .i64 ((hh:Int)+1))) w.heap.size (.int .i64 4) (.string noName) (.int .i64 tlo) (.int .i64 0) (.slice A l'.length c)).heap[w.heap.size]?=some (.cells #[.int .i64 4,.string noName,.int .i64 tlo,.int .i64 0,.slice A l'.length c] 77 (0,0))):=(piece_end (x:=.mk 4 noName tlo 0 l') HFz.out HRz.out HBz.out hlt HVz.out HEz.out HXz.out).2
     obtain ⟨⟨x0,x1,x2,x3,x4,k0,k1,k2,k3,k4⟩,fN⟩:=HBz.out.facts
     clear HFz HRz HBz HVz HEz HXz HM
     go_wp2_with fail
     change bodyPost _ _ _ _ _ (set5 (W7.setCell ⟨b,4,none⟩ (.int .i64 ((hh:Int)+1))) w.heap.size (.int .i64 4) (.string noName) (.int .i64 tlo) (.int .i64 0) (.slice A l'.length c))
     generalize set5 (W7.setCell ⟨b,4,none⟩ (.int .i64 ((hh:Int)+1))) w.heap.size (.int .i64 4) (.string noName) (.int .i64 tlo) (.int .i64 0) (.slice A l'.length c)=w9 at HE HQ ⊢
     obtain ⟨q0,q1,q2,q3,q4⟩:=ql_ HQ.out
     exact bodyPost_ret (v:=.agg #[.int .i64 4,.string noName,.int .i64 tlo,.int .i64 0,.slice A l'.length c]) (by simp[results,Tryz.results124,go_sem,q0,q1,q2,q3,q4]) rfl HE.out
    ·obtain ⟨m2,rfl⟩:∃ m2,m' = m2+4:=⟨m' - 4,by omega⟩
     obtain ⟨k,hk⟩:∃ k,memberP X.e (m2+2) (o+1) (.live ts)=k:=⟨_,rfl⟩
     obtain ⟨hp,hhp⟩:∃ hp,heldP X.e (m2+2) (o+1) k.1 k.2=hp:=⟨_,rfl⟩
     have HPR:=hd_ (parts_round (HM.out.eq1 _ rfl) HFIN.out.symm h14 (hp:=hp) (by rw[hk,hhp]))
     have HC:Hid (∀ W,Rdd X b W (o+1) (.live ts) hh→Calls Tryz.prog 143 #[.pointer (some ⟨b,0,none⟩),.int .i64 ((o:Int)+1)] W (PFQ X b W (o+1) k)):=fun W hW=>by
      have:=hpart X b W (o+1) ts hh hW (by omega) hlim (m2+2) (by omega)
      rw[hk] at this
      exact this
     have hklen:k.2.toks.length≤ts.length:=by rw[← hk];exact (Y.len_all X.e (m2+2)).member (o+1) (.live ts)
     have g14:(kAt ts == 14)=false:=by simpa using h14
     have g14' : (kAt ts != 14)=true:=by simpa using h14
     clear hk h14 n0 n1 n2 n3 n4 d4 f4 HFr HBXr HVr0
     generalize kAt ts=kz at *
     go_wp2_with fail
     refine HKD.out.mono ?_
     rintro e w2 ⟨rfl,q9,rfl⟩
     go_wp2_with fail
     refine (HC.out _ (HRD.out.drewN q9)).mono ?_
     rintro en w3 ⟨vv,x,rfl,⟨A3,n3,c3,rfl,hv3⟩,hx3,⟨h3,hr3⟩,hf3⟩
     have hf30:Fe b WO w3:=((Fe.refl b WO).drewN q9).trans hf3
     have hz3:=hf30.size
     replace hv3:RdN w3 (In WO.heap.size w3.heap.size) A3 n3 c3 x.kids:=hv3
     have hp4:=litN_below w3 (.int .i64 x.kind) (.string x.name) (.int .i64 x.low) (.int .i64 x.high) (.slice A3 n3 c3)
     have hrow4:=litN_row w3 (.int .i64 x.kind) (.string x.name) (.int .i64 x.low) (.int .i64 x.high) (.slice A3 n3 c3) w3.heap.size rfl
     have hz4:=litN_size w3 (.int .i64 x.kind) (.string x.name) (.int .i64 x.low) (.int .i64 x.high) (.slice A3 n3 c3)
     have HSTI:Hid (HeldD X b WO (o+1) L hp w3.heap.size x k.2 (m2+2) (litN w3 (.int .i64 x.kind) (.string x.name) (.int .i64 x.low) (.int .i64 x.high) (.slice A3 n3 c3))):=by
      refine ⟨⟨h3,hr3.below hp4⟩,hf30.trans (Fe.of_below hp4),⟨A3,n3,c3,hrow4,hv3.keep (fun i hi=>⟨hi.1,by have:=hi.2;omega,by have:=hi.2;omega⟩) (fun p hp=>hp4.cell hp.2)⟩,fun ts' e=>?_,fun a y e=>?_,fun ts' e=>?_,fun ts' e=>?_,hz3,by omega⟩
      ·rw[hx3 ts' e,← e,hhp]
      ·rw[← hhp,e];exact (Y.dead_all X.e (m2+2)).held _ _ _ _
      ·rw[e] at hklen;have:ts'.length≤ts.length:=hklen;omega
      ·rw[e] at hklen;have:ts'.length≤ts.length:=hklen;omega
     clear hv3 hx3 hr3 hf3 hf30 hp4 hrow4 HC HKD hhp hklen d3 g14 g14'
     go_wp2_with fail
     change Code.wp _ _ _ _ (litN w3 (.int .i64 x.kind) (.string x.name) (.int .i64 x.low) (.int .i64 x.high) (.slice A3 n3 c3))
     generalize litN w3 (.int .i64 x.kind) (.string x.name) (.int .i64 x.low) (.int .i64 x.high) (.slice A3 n3 c3)=W5 at *
     generalize w3.heap.size=PB at *
     have hb1:b<WO.heap.size:=by omega
     clear hz3 hz4
     go_loopw [] (fun wx=>∃ (x:Nd) (s' : Ps) (m' : Nat),Hid (HeldD X b WO (o+1) L hp PB x s' m' wx)) (fun wx=>dlen b wx)
     case atStart=>exact ⟨x,k.2,m2+2,HSTI.out⟩
     case round =>
      obtain ⟨x,si,mi,HI⟩:=hrel
      clear HSTI
      obtain ⟨A3,n3,c3,hrowi,hvi⟩:=HI.out.row
      obtain ⟨hi5,hri⟩:=HI.out.rd
      obtain ⟨_,_,_,d3,_⟩:=hri.cells
      have HRI:=hd_ hri
      have hloi:=HI.out.lo
      have hhii:=HI.out.hi
      have HFi:Hid (Fe b WO wr):=HI.out.fe
      have hszi:=HFi.out.size
      have HNBi:Hid (wr.heap[NB]?=_):=(HI.out.fe.block NB hNBlt (by omega)).trans HNB.out
      have HROWi:=hd_ hrowi
      have HVr:Hid (RdN wr (ButD WO.heap.size PB wr.heap.size) A3 n3 c3 x.kids):=hvi
      clear hrowi hvi hri
      cases si with
      | dead a y =>
       replace d3:wr.cell? ⟨b,3,none⟩=some (.int .i64 y):=d3
       have hy:y≠0:=HRI.out.dead_y
       have g1:(y == 0)=false:=by simpa using hy
       have HX2:Hid (hp.2=.dead a y):=HI.out.eq2 a y rfl
       have HX1:Hid (∀ ts', (Ps.dead a y)=.live ts' → hp.1=x):=fun ts' e=>by cases e
       have HRi:Hid (RdF X b wr (o+1) (.dead a y)):=⟨_,HRI.out⟩
       have HVi:=HVr
       clear HVr HI HRI hy
       have HG:=hd_ (got_s HM.out hbN HFi.out HRi.out (S:=ButD WO.heap.size PB wr.heap.size) (fun i hi=>⟨hi.1,hi.2.1⟩) HVi.out)
       obtain ⟨y0,y1,y2,y3,y4⟩:=ql_ HROWi.out
       obtain ⟨z0,z1,z2,z3,z4⟩:=ql_ HNBi.out
       have hNBW:NB+1≤(litN wr (.int .i64 x.kind) (.string x.name) (.int .i64 x.low) (.int .i64 x.high) (.slice A3 n3 c3)).heap.size:=by rw[litN_size];omega
       go_wp2_with (at_builtin;change wpList _ _ _ _ _ (litN wr (.int .i64 x.kind) (.string x.name) (.int .i64 x.low) (.int .i64 x.high) (.slice A3 n3 c3));refine app_n rfl _ _ rfl (NB+1) (.slice A l'.length c) l' rfl HG.out.own wr.heap.size x _ _ _ _ _ rfl HG.out.row HG.out.nd (by omega) hNBW ?_;intro v6 w6 ho6 hg6;obtain ⟨A6,c6,hv6,_⟩:=ho6.rd;obtain ⟨N6,hN6⟩:∃ N6,N6=(l' ++ [x]).length:=⟨_,rfl⟩;rw[← hN6] at hv6;subst hv6;clear hN6;have hrow6:=(hg6.block NB (by omega) (fun e=>by have:=(HG.out.own.block NB e.symm).1;omega)).trans HG.out.nbrow;have HDN:=hd_ (HM.out.next HG.out hbN hwN ho6 hg6 (m' := m2+3) (fun ts' e=>by rw[← (HX1.out ts' e)];exact HPR.out.1 ts' (HX2.out.trans e)) (fun a y e=>HPR.out.2.1 a y (HX2.out.trans e)) (by rw[← HX2.out];exact HPR.out.2.2));have fN6:∀ j,w6.frozen? ⟨NB,j,none⟩=false:=fun j=>frozen_of_row _ _ _ _ _ hrow6;obtain ⟨_,_,_,_,n4⟩:=ql_ hrow6;clear HG ho6 hg6 hrow6 HM HVi HRi HFi HROWi HNBi y0 y1 y2 y3 y4 z0 z1 z2 z3 z4)
       go_roundw
       case rel=>exact ⟨_,l' ++ [x],.dead a y,m2+3,HDN.out.1⟩
       case measure=>exact HDN.out.2
      | live ti =>
       replace d3:wr.cell? ⟨b,3,none⟩=some (.int .i64 0):=d3
       have HRi:Hid (RdF X b wr (o+1) (.live ti)):=⟨_,HRI.out⟩
       have HKI:=hd_ (qk_ HRI.out)
       by_cases h67:kAt ti=16∨kAt ti=17
       ·obtain ⟨t6,ui,rfl⟩:∃ t u,ti=t :: u:=by
         cases ti with
         | nil=>rcases h67 with h|h <;> exact absurd h (by decide)
         | cons t u=>exact ⟨t,u,rfl⟩
        have hex9:=X.ex t6 (by
         rcases HRI.out.st with ⟨e,_⟩|⟨a,y,e,_⟩
         ·injection e with e
          exact List.mem_of_mem_drop (e ▸ List.mem_cons_self)
         ·cases e)
        rcases h67 with h|h
        ·exact absurd h hex9.2.2.1
        ·exact absurd h hex9.2.2.2
       ·have h16:kAt ti≠16:=fun h=>h67 (.inl h)
        have h17:kAt ti≠17:=fun h=>h67 (.inr h)
        have g16:(kAt ti == 16)=false:=by simpa using h16
        have g17:(kAt ti == 17)=false:=by simpa using h17
        obtain ⟨mi,rfl⟩:∃ m1,mi=m1+1:=⟨mi - 1,by have:=HI.out.fuel _ rfl;omega⟩
        have hho:hp=(x,.live ti):=by rw[HI.out.eq1 _ rfl,held_out h16 h17]
        have HX2:Hid (hp.2=.live ti):=by show _=_;rw[hho]
        have HX1:Hid (∀ ts', (Ps.live ti)=.live ts' → hp.1=x):=fun ts' _=>by rw[hho]
        have HKI2:Hid (∀ q,Calls Tryz.prog 40 #[.pointer (some ⟨b,0,none⟩)] (wr.drewN q) (KindD (wr.drewN q) (kAt ti))):=fun q=>qk_ (HRI.out.drewN q)
        clear h16 h17 h67 hho HI
        generalize kAt ti=kz at *
        go_wp2_with fail
        refine HKI.out.mono ?_
        rintro e w2 ⟨rfl,q8,rfl⟩
        go_wp2_with fail
        refine (HKI2.out q8).mono ?_
        rintro e w2 ⟨rfl,q7,rfl⟩
        have HR5:Hid (RdF X b ((wr.drewN q8).drewN q7) (o+1) (.live ti)):=(HRi.out.drewN q8).drewN q7
        have HF5:Hid (Fe b WO ((wr.drewN q8).drewN q7)):=(HFi.out.drewN q8).drewN q7
        have HV5:Hid (RdN ((wr.drewN q8).drewN q7) (ButD WO.heap.size PB ((wr.drewN q8).drewN q7).heap.size) A3 n3 c3 x.kids):=HVr.out.keep (fun _ h=>h) (fun _ _=>rfl)
        have HP5:Hid (((wr.drewN q8).drewN q7).heap[PB]?=_):=HROWi.out
        have HB5:Hid (((wr.drewN q8).drewN q7).heap[NB]?=_):=HNBi.out
        have hz5:WO.heap.size≤((wr.drewN q8).drewN q7).heap.size:=hszi
        clear HRi HFi HVr HROWi HNBi HKI HKI2 HRI d3
        generalize (wr.drewN q8).drewN q7=W5 at *
        have HRi:=HR5
        have HFi:=HF5
        have HVi:=HV5
        have HROWi:=HP5
        have HNBi:=HB5
        clear HR5 HF5 HV5 HP5 HB5
        have HG:=hd_ (got_s HM.out hbN HFi.out HRi.out (S:=ButD WO.heap.size PB W5.heap.size) (fun i hi=>⟨hi.1,hi.2.1⟩) HVi.out)
        obtain ⟨y0,y1,y2,y3,y4⟩:=ql_ HROWi.out
        obtain ⟨z0,z1,z2,z3,z4⟩:=ql_ HNBi.out
        have hNBW:NB+1≤(litN W5 (.int .i64 x.kind) (.string x.name) (.int .i64 x.low) (.int .i64 x.high) (.slice A3 n3 c3)).heap.size:=by rw[litN_size];omega
        go_wp2_with (at_builtin;change wpList _ _ _ _ _ (litN W5 (.int .i64 x.kind) (.string x.name) (.int .i64 x.low) (.int .i64 x.high) (.slice A3 n3 c3));refine app_n rfl _ _ rfl (NB+1) (.slice A l'.length c) l' rfl HG.out.own W5.heap.size x _ _ _ _ _ rfl HG.out.row HG.out.nd (by omega) hNBW ?_;intro v6 w6 ho6 hg6;obtain ⟨A6,c6,hv6,_⟩:=ho6.rd;obtain ⟨N6,hN6⟩:∃ N6,N6=(l' ++ [x]).length:=⟨_,rfl⟩;rw[← hN6] at hv6;subst hv6;clear hN6;have hrow6:=(hg6.block NB (by omega) (fun e=>by have:=(HG.out.own.block NB e.symm).1;omega)).trans HG.out.nbrow;have HDN:=hd_ (HM.out.next HG.out hbN hwN ho6 hg6 (m' := m2+3) (fun ts' e=>by rw[← (HX1.out ts' e)];exact HPR.out.1 ts' (HX2.out.trans e)) (fun a y e=>HPR.out.2.1 a y (HX2.out.trans e)) (by rw[← HX2.out];exact HPR.out.2.2));have fN6:∀ j,w6.frozen? ⟨NB,j,none⟩=false:=fun j=>frozen_of_row _ _ _ _ _ hrow6;obtain ⟨_,_,_,_,n4⟩:=ql_ hrow6;clear HG ho6 hg6 hrow6 HM HVi HRi HFi HROWi HNBi y0 y1 y2 y3 y4 z0 z1 z2 z3 z4)
        go_roundw
        case rel=>exact ⟨_,l' ++ [x],.live ti,m2+3,HDN.out.1⟩
        case measure=>exact HDN.out.2
end Go.Proofs.YtbbmjdddemahfaaGreat
