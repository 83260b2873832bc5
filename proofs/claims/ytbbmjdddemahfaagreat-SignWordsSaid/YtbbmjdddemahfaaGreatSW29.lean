/- Part of the proof. -/
import Derived.Test.YtbbmjdddemahfaaGreatSW28
import Derived.StillTailTactics
import Derived.Test.YtbbmjdddemahfaaGreatSW05
import Derived.Deep.RegionHeldLaw
import Derived.Test.YtbbmjdddemahfaaGreatSW09
import Derived.Test.YtbbmjdddemahfaaGreatSW26
import Derived.BigQuiet
set_option maxRecDepth 100000
namespace Go.Proofs.YtbbmjdddemahfaaGreat
open Go.RowKit
open W (Tk lexS)

theorem info_tok:(Tryz.prog.info? 129).map (fun i=>(i.zero,i.size,i.bytes))=some (some (.agg #[.int .i64 0,.string { data:=#[] },.int .i64 0,.int .i64 0,.int .i64 0]),5,48):=by kernel_rfl
def HeldT (b N:Nat) (tv:Value) (k:Int) (s:ByteArray) (lo hi pl:Int) (w:World):Prop :=
 w.cell? ⟨b,5,none⟩=some tv∧w.cell? ⟨N,0,none⟩=some (.int .i64 k)∧w.cell? ⟨N,1,none⟩=some (.string s)∧w.cell? ⟨N,2,none⟩=some (.int .i64 lo)∧w.cell? ⟨N,3,none⟩=some (.int .i64 hi)∧w.cell? ⟨N,4,none⟩=some (.int .i64 pl)
section
variable {X:Cx}{b:Nat}{w:World}{p o:Nat}{tv:Value}{ts:List Tk}
end
open W (Tk St lexS opn setS numT numB nameS many nmB ltB)

section
variable {X:Cx}{b:Nat}{w:World}{p o:Nat}{tv:Value}{ts:List Tk}
end
open W (Tk St lexS opn nameS many nmB ltB)

section
variable {X:Cx}{b:Nat}{w:World}{p o:Nat}{tv:Value}{ts:List Tk}
end
open W (Tk St C lexS opn chS hiS charsS markB)
open Q (R readS numS uS escS)

def shR (d:Nat):R→R
 | .ok c n=>.ok c (n+d)
 | .bad e=>.bad e
theorem num_sh (d:Nat):∀ (l:List Int) (k:Nat) (v:Int) (p:Nat),numS l k v (p+d)=shR d (numS l k v p)
 | [],_,_,_=>rfl
 | c :: t,k,v,p=>by
  rw[numS,numS]
  split
  ·simp[shR];omega
  ·split
   ·rfl
   ·rw[show p+d+1=p+1+d by omega,num_sh d t]
theorem read_sh (d:Nat) (l:List Int) (p:Nat):readS l (p+d)=shR d (readS l p):=by
 cases l with
 | nil=>rfl
 | cons x t =>
  rw[readS,readS]
  split
  ·cases t with
   | nil=>rfl
   | cons y u =>
    rw[escS,escS]
    split
    ·cases u with
     | nil=>rfl
     | cons z o =>
      rw[uS,uS]
      split
      ·rw[show p+d+1+1+1=p+1+1+1+d by omega,num_sh]
      ·rfl
    ·split
     ·simp[shR];omega
     ·split
      ·simp[shR];omega
      ·split
       ·simp[shR];omega
       ·rfl
  ·split
   ·simp[shR];omega
   ·rfl
section
variable {X:Cx}{b:Nat}{w:World}{p o:Nat}{tv:Value}{ts:List Tk}
end

section
variable {X:Cx}{b:Nat}{w:World}{p o:Nat}{tv:Value}{ts:List Tk}
end
open W (Tk)

structure Rdx (X:Cx) (b:Nat) (w:World) (p o:Nat) (tv:Value) (ts:List Tk) (wr er:Int):Prop where
 ok:X.Ok
 size:b<w.heap.size
 chars:RdK .i64 w b X.Ac X.nc X.cc X.L
 places:RdK .i64 w b X.Ap X.np X.cp X.P
 le:p≤X.nc
 blk:w.heap[b]?=some (.cells #[.slice X.Ac X.nc X.cc,.slice X.Ap X.np X.cp,.int .i64 p,.int .i64 o,tv,.int .i64 wr,.int .i64 er] 126 (0,0))
 row:OwnT w (b+1) tv (ts.map X.put)
section
variable {X:Cx}{b:Nat}{w w' : World}{p o:Nat}{tv:Value}{ts:List Tk}{wr er:Int}
theorem Rdx.drewN (h:Rdx X b w p o tv ts wr er) (q:Nat):Rdx X b (w.drewN q) p o tv ts wr er:=⟨h.ok,h.size,h.chars.drewN q,h.places.drewN q,h.le,h.blk,h.row⟩
theorem Rdx.below (h:Rdx X b w p o tv ts wr er) (hb:Below w.heap.size w w'):Rdx X b w' p o tv ts wr er:=by
 have hk:∀ q:Addr,q.block<b→w'.cell? q=w.cell? q:=fun q hq=>hb.cell (by have:=h.size;omega)
 exact ⟨h.ok,Nat.lt_of_lt_of_le h.size hb.size,h.chars.keep hk,h.places.keep hk,h.le,(hb.block b h.size).trans h.blk,h.row.below hb⟩
theorem Rdx.cells (h:Rdx X b w p o tv ts wr er):w.cell? ⟨b,0,none⟩=some (.slice X.Ac X.nc X.cc)∧w.cell? ⟨b,1,none⟩=some (.slice X.Ap X.np X.cp)∧w.cell? ⟨b,2,none⟩=some (.int .i64 p)∧w.cell? ⟨b,3,none⟩=some (.int .i64 o)∧w.cell? ⟨b,4,none⟩=some tv∧w.cell? ⟨b,5,none⟩=some (.int .i64 wr)∧w.cell? ⟨b,6,none⟩=some (.int .i64 er):=by
 refine ⟨?_,?_,?_,?_,?_,?_,?_⟩ <;> (rw[cell_of_row _ _ _ _ _ _ h.blk];rfl)
theorem Rdx.fr (h:Rdx X b w p o tv ts wr er) (j:Nat):w.frozen? ⟨b,j,none⟩=false:=frozen_of_row _ _ _ _ _ h.blk
theorem Rdx.nc (h:Rdx X b w p o tv ts wr er):X.L.length=X.nc∧X.nc≤3000∧X.np=X.nc+1:=by
 have h1:=h.chars.len
 have h2:=W.flat_len h.ok.ok
 have h3:=h.ok.few
 rw[h.ok.flat] at h3
 have h4:=h.places.len
 rw[h.ok.pl,List.length_append,E.offs_len] at h4
 simp at h4
 exact ⟨h1,by omega,by omega⟩
theorem Rdx.place (h:Rdx X b w p o tv ts wr er){i:Nat}(hi:i≤X.nc):∃ b2 off,X.Ap=some ⟨b2,off,none⟩∧b2<b∧w.cell? ⟨b2,off+i,none⟩=some (.int .i64 (plc X.L i:Nat)):=by
 obtain ⟨n1,_,n3⟩:=h.nc
 obtain ⟨b2,off,e,hb,hc⟩:=h.places.at_ (by omega)
 exact ⟨b2,off,e,hb,hc _ _ (h.ok.at_ (by omega))⟩
theorem Rdx.pbd (h:Rdx X b w p o tv ts wr er) (i:Nat):plc X.L i≤3000:=by
 have h1:=plc_le X.L i
 have h3:=h.ok.few
 rw[h.ok.flat] at h3
 omega
theorem Rdx.far (w:World) (b j:Nat) (v:Value):∀ a:Addr,a.block<b→(w.setCell ⟨b,j,none⟩ v).cell? a=w.cell? a:=fun a ha=>World.cell?_of_block (w:=w) (Below.heap_setCell _ _ _ _ (by show a.block≠b;omega))
theorem Rdx.at_ (h:Rdx X b w p o tv ts wr er){q:Nat}(hq:q≤X.nc):Rdx X b (w.setCell ⟨b,2,none⟩ (.int .i64 q)) q o tv ts wr er:=by
 refine ⟨h.ok,by simp;exact h.size,h.chars.keep (Rdx.far _ _ _ _),h.places.keep (Rdx.far _ _ _ _),hq,?_,h.row.set (by omega) _⟩
 rw[heap_setCell_same _ _ _ _ _ _ h.blk];rfl
theorem Rdx.open_ (h:Rdx X b w p o tv ts wr er) (o' : Nat):Rdx X b (w.setCell ⟨b,3,none⟩ (.int .i64 o')) p o' tv ts wr er:=by
 refine ⟨h.ok,by simp;exact h.size,h.chars.keep (Rdx.far _ _ _ _),h.places.keep (Rdx.far _ _ _ _),h.le,?_,h.row.set (by omega) _⟩
 rw[heap_setCell_same _ _ _ _ _ _ h.blk];rfl
theorem Rdx.err (h:Rdx X b w p o tv ts wr er) (x y:Int):Rdx X b ((w.setCell ⟨b,5,none⟩ (.int .i64 x)).setCell ⟨b,6,none⟩ (.int .i64 y)) p o tv ts x y:=by
 refine ⟨h.ok,by simp;exact h.size,(h.chars.keep (Rdx.far _ _ _ _)).keep (Rdx.far _ _ _ _),(h.places.keep (Rdx.far _ _ _ _)).keep (Rdx.far _ _ _ _),h.le,?_,(h.row.set (by omega) _).set (by omega) _⟩
 rw[heap_setCell_same _ _ _ _ _ _ (heap_setCell_same _ _ _ _ _ _ h.blk)];rfl
def FailP (X:Cx) (b:Nat) (w:World) (p o:Nat) (tv:Value) (ts:List Tk) (wr er:Int) (i:Nat) (x:Int) (e:Ending) (w' : World):Prop :=
 e=.returned (.tuple #[])∧Rdx X b w' p o tv ts (if er=0 then (plc X.L i:Nat) else wr) (if er=0 then x else er)∧Below b w w'
set_option maxHeartbeats 1000000 in
theorem qp_ (h:Rdx X b w p o tv ts wr er){i:Nat}(hi:i≤X.nc) (x:Int) :
  Calls Tryz.prog 64 #[.pointer (some ⟨b,0,none⟩),.int .i64 i,.int .i64 x] w (FailP X b w p o tv ts wr er i x):=by
 obtain ⟨c0,c1,c2,c3,c4,c5,c6⟩:=h.cells
 obtain ⟨b2,off,hA,hb2,hc⟩:=h.place hi
 obtain ⟨n1,n2,n3⟩:=h.nc
 have f5:=h.fr 5
 have f6:=h.fr 6
 rw[hA] at c1
 have hnp:(i:Int)<(X.np:Int):=by omega
 have hi0:(0:Int)≤(i:Int):=by omega
 have HH:=hc_ h
 by_cases h0:er=0
 ·subst h0
  have HE:Hid (FailP X b w p o tv ts wr 0 i x (.returned (.tuple #[])) ((w.setCell ⟨b,5,none⟩ (.int .i64 (plc X.L i:Nat))).setCell ⟨b,6,none⟩ (.int .i64 x))) :=
   ⟨rfl,by rw[if_pos rfl,if_pos rfl];exact HH.out.err _ x,((Below.refl b w).setCell (p:=⟨b,5,none⟩) (Nat.le_refl _) _).setCell (p:=⟨b,6,none⟩) (Nat.le_refl _) _⟩
  clear h hA n1 n3
  go_enter Tryz.func64,Tryz.ntmps64
  go_wp2_with fail
  exact bodyPost_ret (v:=.tuple #[]) (by simp[results,Tryz.results64,go_sem]) rfl HE.out
 ·have HE:Hid (FailP X b w p o tv ts wr er i x (.returned (.tuple #[])) w):=⟨rfl,by rw[if_neg h0,if_neg h0];exact HH.out,Below.refl _ _⟩
  have g0:(er == 0)=false:=by simpa using h0
  clear h hA n1 n3 h0
  go_enter Tryz.func64,Tryz.ntmps64
  go_wp2_with fail
  exact bodyPost_ret (v:=.tuple #[]) (by simp[results,Tryz.results64,go_sem]) rfl HE.out
set_option maxHeartbeats 1000000 in
theorem dis_any (h:Rdx X b w p o tv ts wr er) (i:Nat) (hi:i≤100000) (x:Int) :
  Calls Tryz.prog 85 #[.pointer (some ⟨b,0,none⟩),.int .i64 i,.int .i64 x] w fun e w' => e=.returned (.bool (decide (X.L[i]?=some x)))∧w=w' := by
 obtain ⟨c0,c1,c2,c3,c4,c5,c6⟩:=h.cells
 obtain ⟨n1,n2,n3⟩:=h.nc
 have hi0:(0:Int)≤(i:Int):=by omega
 rcases Nat.lt_or_ge i X.nc with hlt|hge
 ·obtain ⟨b2,off,y,hA,hb2,hy,hc⟩:=h.chars.got hlt
  rw[hA] at c0
  have HX:Hid (decide (X.L[i]?=some x)=(y == x)):=by show _=_;rw[hy,Bool.eq_iff_iff];simp
  have hi1:(i:Int)<(X.nc:Int):=by omega
  clear h hy hA n1 n3
  go_enter Tryz.func85,Tryz.ntmps85
  go_wp2_with fail
  go_ret
  exact ⟨ret_bool HX.out.symm,rfl⟩
 ·have HX:Hid (decide (X.L[i]?=some x)=false):=by show _=_;rw[List.getElem?_eq_none (by omega)];rfl
  have hi1:¬ (i:Int)<(X.nc:Int):=by omega
  clear h n1 n3
  go_enter Tryz.func85,Tryz.ntmps85
  go_wp2_with fail
  go_ret
  exact ⟨ret_bool HX.out.symm,rfl⟩
end

def HeldU (b N:Nat) (tv:Value) (k:Int) (s:ByteArray) (lo hi pl:Int) (w:World):Prop :=
 w.cell? ⟨b,4,none⟩=some tv∧w.cell? ⟨N,0,none⟩=some (.int .i64 k)∧w.cell? ⟨N,1,none⟩=some (.string s)∧w.cell? ⟨N,2,none⟩=some (.int .i64 lo)∧w.cell? ⟨N,3,none⟩=some (.int .i64 hi)∧w.cell? ⟨N,4,none⟩=some (.int .i64 pl)
theorem HeldU.keep {b N:Nat}{tv:Value}{k lo hi pl:Int}{s:ByteArray}{w w' : World}(h:HeldU b N tv k s lo hi pl w) (hb:w'.heap[b]?=w.heap[b]?) (hN:w'.heap[N]?=w.heap[N]?):HeldU b N tv k s lo hi pl w' := by
 obtain ⟨h0,h1,h2,h3,h4,h5⟩:=h
 exact ⟨(World.cell?_of_block (a:=⟨b,4,none⟩) hb).trans h0,(World.cell?_of_block (a:=⟨N,0,none⟩) hN).trans h1,(World.cell?_of_block (a:=⟨N,1,none⟩) hN).trans h2,(World.cell?_of_block (a:=⟨N,2,none⟩) hN).trans h3,(World.cell?_of_block (a:=⟨N,3,none⟩) hN).trans h4,(World.cell?_of_block (a:=⟨N,4,none⟩) hN).trans h5⟩
section
variable {X:Cx}{b:Nat}{w:World}{p o:Nat}{tv:Value}{ts:List Tk}{wr er:Int}
theorem Rdx.grow {W W' : World}{v' : Value}{t:Tk}(h:Rdx X b W p o tv ts wr er) (hg:W.grownBy W' tv.ownBlock) (ho:OwnT W' (b+1) v' ((ts++[t]).map X.put)):Rdx X b (W'.setCell ⟨b,4,none⟩ v') p o v' (ts++[t]) wr er∧Below b W (W'.setCell ⟨b,4,none⟩ v'):=by
 have hsz:=h.size
 have hrow:∀ i,i<b+1→W'.heap[i]?=W.heap[i]? := fun i hi=>hg.block i (by omega) (fun e=>by have:=(h.row.block i e.symm).1;omega)
 have hk:∀ a:Addr,a.block<b→(W'.setCell ⟨b,4,none⟩ v').cell? a=W.cell? a:=fun a ha =>
  World.cell?_of_block (w:=W) ((Below.heap_setCell _ _ _ _ (by show a.block≠b;omega)).trans (hrow _ (by omega)))
 have hb:W'.heap[b]?=_:=(hrow b (by omega)).trans h.blk
 refine ⟨⟨h.ok,by have:=hg.size;simp;omega,h.chars.keep hk,h.places.keep hk,h.le,?_,ho.set (by omega) _⟩,⟨hg.os,hg.tape,hg.output,by have:=hg.size;simp;omega,fun i hi=>(Below.heap_setCell _ _ _ _ (by show i≠b;omega)).trans (hrow i (by omega))⟩⟩
 rw[heap_setCell_same _ _ _ _ _ _ hb];rfl
def DPutP (X:Cx) (b:Nat) (w:World) (p o:Nat) (ts:List Tk) (wr er:Int) (e:Ending) (w' : World):Prop:=e=.returned (.tuple #[])∧(∃ tv,Rdx X b w' p o tv ts wr er)∧Below b w w'
set_option maxHeartbeats 2000000 in
theorem zr_ (h:Rdx X b w p o tv ts wr er) (k lo hi pos0:Int) (x:List Int){i:Nat}(hi' : i≤X.nc) (hts:ts.length≤3000) :
  Calls Tryz.prog 82 #[.pointer (some ⟨b,0,none⟩),tokV k (strOfNums x) lo hi pos0,.int .i64 i] w (DPutP X b w p o (ts++[⟨k,x,lo,hi,i⟩]) wr er):=by
 have HH:=hc_ h
 obtain ⟨n1,n2,n3⟩:=h.nc
 have hsz:=h.size
 generalize hs:strOfNums x=s
 have HS:=hc_ hs
 clear h hs
 unfold tokV
 have HB1:=hc_ (qa_ w (.cells #[.int .i64 k,.string s,.int .i64 lo,.int .i64 hi,.int .i64 pos0] 129))
 have hN:=heap_alloc_new w (.cells #[.int .i64 k,.string s,.int .i64 lo,.int .i64 hi,.int .i64 pos0] 129)
 have HR1:=hc_ (HH.out.below HB1.out)
 have hz:(w.alloc (.cells #[.int .i64 k,.string s,.int .i64 lo,.int .i64 hi,.int .i64 pos0] 129)).heap.size=w.heap.size+1:=by simp
 obtain ⟨c0,c1,c2,c3,c4,c5,c6⟩:=HR1.out.cells
 obtain ⟨b2,off,hA,hb2,hc⟩:=HR1.out.place hi'
 rw[hA] at c1
 have f4:(w.alloc (.cells #[.int .i64 k,.string s,.int .i64 lo,.int .i64 hi,.int .i64 pos0] 129)).frozen? ⟨w.heap.size,4,none⟩=false:=frozen_of_row _ _ _ _ _ hN
 have k4:(w.alloc (.cells #[.int .i64 k,.string s,.int .i64 lo,.int .i64 hi,.int .i64 pos0] 129)).cell? ⟨w.heap.size,4,none⟩=some (.int .i64 pos0):=by rw[cell_of_row _ _ _ _ _ _ hN];rfl
 have hnp:(i:Int)<(X.np:Int):=by omega
 have hp0:(0:Int)≤(i:Int):=by omega
 have hpb:=HR1.out.pbd i
 generalize hpl:plc X.L i=pl at *
 have HPL:=hc_ hpl
 have HN0:=hc_ hN
 clear hA hpl n3 n1 hN
 go_enter Tryz.func82,Tryz.ntmps82
 go_wp2_with fail
 clear c0 c1 c2 c3 c4 c5 c6 hc f4 k4 hnp hp0 HR1 HB1 hz HN0
 have HB2:=hc_ (qa_ w (.cells #[.int .i64 k,.string s,.int .i64 lo,.int .i64 hi,.int .i64 pl] 129))
 have hN2:=heap_alloc_new w (.cells #[.int .i64 k,.string s,.int .i64 lo,.int .i64 hi,.int .i64 pl] 129)
 have hz2:(w.alloc (.cells #[.int .i64 k,.string s,.int .i64 lo,.int .i64 hi,.int .i64 pl] 129)).heap.size=w.heap.size+1:=by simp
 generalize hW2:w.alloc (.cells #[.int .i64 k,.string s,.int .i64 lo,.int .i64 hi,.int .i64 pl] 129)=W2 at *
 generalize hNN:w.heap.size=N at *
 have HNN:=hc_ hNN
 clear hW2 hNN
 have hR2:=HH.out.below (by rw[HNN.out];exact HB2.out)
 have c4:=hR2.cells.2.2.2.2.1
 have k0:W2.cell? ⟨N,0,none⟩=some (.int .i64 k):=by rw[cell_of_row _ _ _ _ _ _ hN2];rfl
 have k1:W2.cell? ⟨N,1,none⟩=some (.string s):=by rw[cell_of_row _ _ _ _ _ _ hN2];rfl
 have k2:W2.cell? ⟨N,2,none⟩=some (.int .i64 lo):=by rw[cell_of_row _ _ _ _ _ _ hN2];rfl
 have k3:W2.cell? ⟨N,3,none⟩=some (.int .i64 hi):=by rw[cell_of_row _ _ _ _ _ _ hN2];rfl
 have k4:W2.cell? ⟨N,4,none⟩=some (.int .i64 pl):=by rw[cell_of_row _ _ _ _ _ _ hN2];rfl
 have HR2:=hc_ hR2
 have hz2' := hz2
 clear hN2 hR2 hz2
 obtain ⟨i0,hi0,hz0,hz1,hz2⟩:=info_k info_tok
 have SS:HeldU b N tv k s lo hi pl W2.drew:=⟨c4,k0,k1,k2,k3,k4⟩
 have HSS:=hc_ SS
 refine qw_ (HeldU b N tv k s lo hi pl) 10 11 (by kernel_rfl) rfl ?_
 refine qc_ 0 (v:=.pointer (some ⟨b,0,none⟩)) rfl (by kernel_rfl) (by kernel_rfl) (by kernel_rfl) (by kernel_rfl) (fun _ _ _ h=>h) SS rfl (fun w' hS=>?_) ?_
 ·obtain ⟨s0,s1,s2,s3,s4,s5⟩:=hS;go_simp
 refine qc_ 1 (v:=.pointer (some ⟨b,0,none⟩)) rfl (by kernel_rfl) (by kernel_rfl) (by kernel_rfl) (by kernel_rfl) (fun _ _ _ h=>h) SS rfl (fun w' hS=>?_) ?_
 ·obtain ⟨s0,s1,s2,s3,s4,s5⟩:=hS;go_simp
 refine qc_ 2 (v:=.pointer (some ⟨b,0,none⟩)) rfl (by kernel_rfl) (by kernel_rfl) (by kernel_rfl) (by kernel_rfl) (fun _ _ _ h=>h) SS rfl (fun w' hS=>?_) ?_
 ·obtain ⟨s0,s1,s2,s3,s4,s5⟩:=hS;go_simp
 refine qc_ 3 (v:=.pointer (some ⟨b,4,none⟩)) rfl (by kernel_rfl) (by kernel_rfl) (by kernel_rfl) (by kernel_rfl) (fun _ _ _ h=>h) SS rfl (fun w' hS=>?_) ?_
 ·obtain ⟨s0,s1,s2,s3,s4,s5⟩:=hS;go_simp
 refine qc_ 4 (v:=tv) rfl (by kernel_rfl) (by kernel_rfl) (by kernel_rfl) (by kernel_rfl) (fun _ _ _ h=>h) SS rfl (fun w' hS=>?_) ?_
 ·obtain ⟨s0,s1,s2,s3,s4,s5⟩:=hS;go_simp
 refine qc_ 5 (v:=.agg #[.int .i64 k,.string s,.int .i64 lo,.int .i64 hi,.int .i64 pl]) rfl (by kernel_rfl) (by kernel_rfl) (by kernel_rfl) (by kernel_rfl) (fun _ _ _ h=>h) SS rfl (fun w' hS=>?_) ?_
 ·obtain ⟨s0,s1,s2,s3,s4,s5⟩:=hS;go_simp
 refine zk_ 6 rfl (by kernel_rfl) rfl ?_
 go_simp
 generalize hW3:(W2.alloc (.cells #[.int .i64 k,.string s,.int .i64 lo,.int .i64 hi,.int .i64 pl] 129)).drew=W3
 have hB3:Below W2.heap.size W2 W3:=by rw[← hW3];exact (qa_ W2 _).drew
 have hN3:W3.heap[N+1]?=some (.cells #[.int .i64 k,.string s,.int .i64 lo,.int .i64 hi,.int .i64 pl] 129 (0,0)):=by
  rw[← hW3,← hz2'];exact heap_alloc_new W2 _
 have HR3:=hc_ (HR2.out.below hB3)
 have HS3:Hid (HeldU b N tv k s lo hi pl W3):=HSS.out.keep (hB3.block b (by omega)) (hB3.block N (by omega))
 have HB3:=hc_ (HB2.out.trans (hB3.mono (by omega)))
 clear hW3
 refine ⟨HS3.out,?_⟩
 refine zk_ 7 rfl (by kernel_rfl) rfl ?_
 refine app_wp (.tmp 18) (.tmp 20) 86 rfl (b+1) 129 i0 _ 5 48 Tryz.underlying86 hi0 hz0 hz1 hz2 rfl (by decide) tv (ts.map X.put).length (cellsP (ts.map X.put)) rfl HR3.out.row ⟨N+1,0,none⟩ 1 1 (Tok.cells ⟨k,x,lo,hi,pl⟩) (by rw[← hz2'];rfl) rfl ?_ ?_ (by rw[List.length_map];unfold maxLen;omega) (by rw[List.length_map];omega) (by have:=HR3.out.size;omega) ?_
 ·intro j u hu
  rw[qo_,cell_of_row _ _ _ _ _ _ hN3,Nat.zero_add]
  simp only[Tok.cells,HS.out] at hu
  simpa using hu
 ·exact fun u hu=>cellsP_one [(⟨k,x,lo,hi,pl⟩:Tok)] u (by simpa [cellsP] using hu)
 intro v' w4 hown hgr _
 have ho4:OwnT w4 (b+1) v' ((ts++[(⟨k,x,lo,hi,i⟩:Tk)]).map X.put):=by
  unfold OwnT
  have e:(ts++[(⟨k,x,lo,hi,i⟩:Tk)]).map X.put=ts.map X.put++[⟨k,x,lo,hi,pl⟩]:=by rw[List.map_append,← HPL.out];rfl
  rw[e,cellsP_app,List.length_append,show cellsP [(⟨k,x,lo,hi,pl⟩:Tok)]=Tok.cells ⟨k,x,lo,hi,pl⟩ by simp[cellsP]]
  exact hown
 obtain ⟨A4,c4', hv4,_⟩:=ho4.rd
 subst hv4
 have hlen4:((ts++[(⟨k,x,lo,hi,i⟩:Tk)]).map X.put).length=ts.length+1:=by simp
 rw[hlen4] at ho4
 have HG:=hc_ (HR3.out.grow hgr ho4)
 have hrow:∀ j,j<b+1→w4.heap[j]?=W3.heap[j]? := fun j hj=>hgr.block j (by have:=HR3.out.size;omega) (fun e=>by have:=(HR3.out.row.block j e.symm).1;omega)
 have hb4:=(hrow b (by omega)).trans HR3.out.blk
 have c54:w4.cell? ⟨b,4,none⟩=some tv:=by rw[cell_of_row _ _ _ _ _ _ hb4];rfl
 have f54:w4.frozen? ⟨b,4,none⟩=false:=frozen_of_row _ _ _ _ _ hb4
 have hN4:w4.heap[N]?=W3.heap[N]? := hgr.block N (by have:=hB3.size;omega) (fun e=>by have:=(HH.out.row.block N e.symm).2;have:=HNN.out;omega)
 have HS4:Hid (HeldU b N tv k s lo hi pl w4):=HS3.out.keep (hrow b (by omega)) hN4
 clear hown hgr ho4 hrow hb4 hN3 hN4
 refine ⟨fun _=>HS4.out,?_⟩
 refine zk_ 8 rfl (by kernel_rfl) rfl ?_
 go_simp
 refine ⟨HS4.out,?_⟩
 refine zk_ 9 rfl (by kernel_rfl) rfl ?_
 go_simp
 refine ⟨HS4.out,?_⟩
 refine zk_ 10 rfl (by kernel_rfl) rfl ?_
 go_simp
 refine Z_done (by kernel_rfl) ?_
 unfold OnlyN
 simp only[]
 have HE:Hid (DPutP X b w p o (ts++[⟨k,x,lo,hi,i⟩]) wr er (.returned (.tuple #[])) (w4.setCell ⟨b,4,none⟩ (.slice A4 (ts.length+1) c4'))):=⟨rfl,⟨_,HG.out.1⟩,(HB3.out.mono (by omega)).trans HG.out.2⟩
 go_wp2_with fail
 exact bodyPost_ret (v:=.tuple #[]) (by simp[results,Tryz.results82,go_sem]) rfl HE.out
end
open W (Tk St dgB ltB opn)

theorem dletter_any (c:Int) (w:World):Calls Tryz.prog 101 #[.int .i64 c] w fun e w' => e=.returned (.bool (ltB c))∧w=w' := by
 go_enter Tryz.func101,Tryz.ntmps101
 go_wp2
 all_goals
  go_ret
  refine ⟨ret_bool ?_,rfl⟩
  rw[Bool.eq_iff_iff]
  simp[ltB]
  try omega
theorem zd_ (c:Int) (w:World):Calls Tryz.prog 87 #[.int .i64 c] w fun e w' => e=.returned (.bool (dgB c))∧w=w' := by
 go_enter Tryz.func87,Tryz.ntmps87
 go_wp2
 all_goals
  go_ret
  refine ⟨ret_bool ?_,rfl⟩
  rw[Bool.eq_iff_iff]
  simp[dgB]
  try omega
def StepD (X:Cx) (b:Nat) (w:World) (p o:Nat) (ts:List Tk) (wr:Int) (r:St) (e:Ending) (w' : World):Prop :=
 e=.returned (.tuple #[])∧Below b w w' ∧ match r with
 | .tok k x lo hi m=>∃ tv,Rdx X b w' (p+m+1) (opn k o) tv (ts++[⟨k,x,lo,hi,p⟩]) wr 0
 | .skip m=>∃ tv,Rdx X b w' (p+m+1) o tv ts wr 0
 | .bad k er=>∃ p' o' tv ts', Rdx X b w' p' o' tv ts' (plc X.L (p+k):Nat) er
namespace W

theorem valN_nil:∀ (k:Nat) (n:Int),valN [] k (n*10)=valN [] k n*10
 | 0,n=>rfl
 | k+1,n=>by rw[valN,valN,valN_nil k (n*10)]
theorem valN_snoc:∀ (l:List Int) (c n:Int),valN (l++[c]) (l.length+1) n=valN l l.length n*10+(c - 48)
 | [],c,n=>rfl
 | d :: t,c,n=>by rw[List.cons_append,List.length_cons,valN,valN];exact valN_snoc t c _
theorem valN_more:∀ (l:List Int) (k:Nat) (n:Int),l.length≤k→valN l (k+1) n=valN l k n*10
 | [],k,n,_=>by rw[valN];exact valN_nil k n
 | c :: t,0,n,h=>by simp at h
 | c :: t,k+1,n,h=>by rw[valN,valN];exact valN_more t k _ (by simpa using h)
def Dg (l:List Int) (k:Nat) (v:Int):Prop:=0≤v∧v≤100000∧(k=0→v=0)∧(k≤1→v≤9)∧(k≤2→v≤99)∧(k≤3→v=valN (l.take k) k 0)
theorem Dg.zero (l:List Int):Dg l 0 0:=⟨by decide,by decide,fun _=>rfl,fun _=>by decide,fun _=>by decide,fun _=>rfl⟩
theorem Dg.step {l:List Int}{k:Nat}{v c:Int}(h:Dg l k v) (hc:l[k]?=some c) (hd:dgB c=true):Dg l (k+1) (min 100000 (v*10+c - 48)):=by
 obtain ⟨h0,h1,h2,h3,h4,h5⟩:=h
 unfold dgB at hd
 rw[decide_eq_true_eq] at hd
 refine ⟨by omega,by omega,fun h=>by omega,fun h=>by have:=h2 (by omega);omega,fun h=>by have:=h3 (by omega);omega,fun h=>?_⟩
 have hk:(l.take k).length=k:=by rw[List.length_take];have:=(List.getElem?_eq_some_iff.1 hc).1;omega
 have e:=valN_snoc (l.take k) c 0
 rw[hk] at e
 rw[List.take_add_one,hc]
 show _=valN (l.take k++[c]) (k+1) 0
 rw[e,← h5 (by omega)]
 have:=h4 (by omega)
 omega
theorem num_is {d:List Int}{m p:Nat}{v r:Int}(hm:many dgB d=m) (h1:1≤m) (h0:¬ (1<m∧d[0]?=some 48)) (hp:partN d=p) (hv:m≤3→v=valN (d.take m) m 0) (hr:p≤3→r=valN ((d.drop (m+1)).take p) 3 0) :
  numB d=if 3<m∨3<p then (0,0,2) else (v*1000+r,if 0<p then m+1+p else m,0):=by
 unfold numB
 rw[hm,hp,if_neg (by rintro (h|h);omega;exact h0 h)]
 by_cases hl:3<m∨3<p
 ·rw[if_pos hl,if_pos hl]
 ·rw[if_neg hl,if_neg hl,hv (by omega),hr (by omega)]
theorem num_nought {d:List Int}{m:Nat}(hm:many dgB d=m) (h0:1<m∧d[0]?=some 48):numB d=(0,0,4):=by
 unfold numB
 rw[hm,if_pos (.inr h0)]
theorem part_none {d:List Int}{m:Nat}(hm:many dgB d=m) (h:d[m]?≠some 46∨many dgB (d.drop (m+1))=0):partN d=0:=by
 unfold partN
 rw[hm]
 split
 ·rcases h with h|h
  ·contradiction
  ·exact h
 ·rfl
theorem part_is {d:List Int}{m:Nat}(hm:many dgB d=m) (h:d[m]?=some 46):partN d=many dgB (d.drop (m+1)):=by
 unfold partN
 rw[hm,if_pos h]
end W
open Go.RowKit
open W (Tk St dgB ltB opn many numB partN valN Dg)

theorem dtext_any {w:World}{B:Nat}{A:Option Addr}{n c:Nat}{L:List Int}(h:RdK .i64 w B A n c L) (hB:B≤w.heap.size) (hn:n≤4000) (hs:∀ x∈L,0≤x∧x<128) :
  Calls Tryz.prog 102 #[.slice A n c] w fun e w' => e=.returned (.string (strOfNums L))∧Below w.heap.size w w' := by
 have HH:=hc_ h
 have HS:=hc_ hs
 have HL:=hc_ h.len
 clear h hs
 go_enter Tryz.func102,Tryz.ntmps102
 go_wp2_with fail
 go_loopw [3,4] (fun sv iv wx=>∃ i:Nat,i≤n∧sv=.string (strOfNums (L.take i))∧iv=.int .i64 i∧Hid (Below w.heap.size w wx)) (fun _ iv _=>n - (intOf iv).toNat)
 case atStart=>exact ⟨0,by omega,by rw[List.take_zero];rfl,rfl,Below.refl _ _⟩
 case round =>
  obtain ⟨i,hi,rfl,rfl,HB⟩:=hrel
  by_cases hlt:i<n
  ·have HR:=hc_ (HH.out.keep (fun p hp=>HB.out.cell (p:=p) (by omega)))
   obtain ⟨b,off,x,rfl,hbl,hx,hc⟩:=HR.out.got hlt
   have hx0:=(HS.out x (List.mem_of_getElem? hx)).1
   have hx1:=(HS.out x (List.mem_of_getElem? hx)).2
   have q1:(convert 39 9 (.slice (some ⟨wr.heap.size,0,none⟩) 1 1)).run Tryz.prog (wr.alloc (.cells #[.int .u8 x] 5))=.ok (.string (strOfNums [x])) (wr.alloc (.cells #[.int .u8 x] 5)) :=
    conv_any (rd_lit_k wr wr.heap.size rfl .u8 [x] 5 _ rfl (by simp)) _ 5 _ Tryz.underlying39 Tryz.underlying5 Tryz.underlying9
   have hlt4:(L.take i).length=i:=by rw[List.length_take,HL.out];omega
   have q2:=run_str_add (P:=Tryz.prog) (L.take i) [x] (wr.alloc (.cells #[.int .u8 x] 5)) (by rw[hlt4];simp;omega)
   have HT:Hid (L.take (i+1)=L.take i++[x]):=by show _=_;rw[List.take_add_one,hx];rfl
   have HB2:=hc_ (HB.out.trans ((qa_ wr (.cells #[.int .u8 x] 5)).mono HB.out.size))
   clear hx HR HB hlt4
   go_wp2_with fail
   go_roundw
   case rel=>exact ⟨i+1,by omega,by rw[HT.out],by go_num,HB2.out⟩
   case measure=>simp[intOf];omega
  ·obtain rfl:i=n:=by omega
   have HE:Hid (L.take i=L):=List.take_of_length_le (by rw[HL.out];exact Nat.le_refl _)
   go_wp2_with fail
   go_ret
   exact ⟨congrArg (fun s=>Ending.returned (.string (strOfNums s))) HE.out,HB.out⟩
def DNumP (w:World) (n f:Nat) (r:Int × Nat × Int) (e:Ending) (w' : World):Prop :=
 w=w' ∧ ∃ (x:Int) (t:Nat),e=.returned (.tuple #[.int .i64 x,.int .i64 t,.int .i64 r.2.2])∧t≤n∧(r.2.2=0→x=r.1∧t=f+r.2.1)
def Run (L:List Int) (f t:Nat):Prop:=∀ j y,f≤j→j<t→L[j]?=some y→dgB y=true
theorem Run.zero (L:List Int) (f:Nat):Run L f f:=fun j y h1 h2=>by omega
theorem Run.step {L:List Int}{f t:Nat}{x:Int}(h:Run L f t) (hx:L[t]?=some x) (hd:dgB x=true):Run L f (t+1):=fun j y h1 h2 hy=>by
 rcases Nat.lt_or_ge j t with h3|h3
 ·exact h j y h1 h3 hy
 ·obtain rfl:j=t:=by omega
  rw[hx] at hy;injection hy with hy;subst hy;exact hd
theorem Run.many {L:List Int}{f t:Nat}(h:Run L f t) (hft:f≤t) (ht:t≤L.length) (he:∀ x,L[t]?=some x→dgB x=false):many dgB (L.drop f)=t - f:=by
 refine W.many_at (fun j y hj hy=>h (f+j) y (by omega) (by omega) (by rwa [List.getElem?_drop] at hy)) (by rw[List.length_drop];omega) fun x hx=>he x ?_
 rw[List.getElem?_drop] at hx
 rwa [show f+(t - f)=t by omega] at hx
theorem zs_ {w:World}{n f:Nat}{r:Int × Nat × Int}{L:List Int}{t p t' : Nat}{v rr:Int}(hr:numB (L.drop f)=r) (hm:many dgB (L.drop f)=t - f) (h1:f+1≤t) (hn:¬ (1<t - f∧(L.drop f)[0]?=some 48)) (hp:partN (L.drop f)=p) (hv:Dg (L.drop f) (t - f) v)
  (hrr:p≤3→rr=valN ((L.drop (t+1)).take p) 3 0) (ht' : t' = if 0<p then t+1+p else t) (htn:t' ≤ n) :
  (3<t - f∨3<p→DNumP w n f r (.returned (.tuple #[.int .i64 0,.int .i64 t', .int .i64 2])) w)∧(¬ (3<t - f∨3<p)→DNumP w n f r (.returned (.tuple #[.int .i64 (v*1000+rr),.int .i64 t', .int .i64 0])) w):=by
 have hdd:(L.drop f).drop (t - f+1)=L.drop (t+1):=by rw[List.drop_drop,show f+(t - f+1)=t+1 by omega]
 have e:=W.num_is hm (by omega) hn hp (fun h=>hv.2.2.2.2.2 h) (r:=rr) (fun h=>by rw[hdd];exact hrr h)
 rw[hr] at e
 constructor
 ·intro hl
  rw[if_pos hl] at e
  subst e
  exact ⟨rfl,0,t', rfl,htn,fun h=>by cases h⟩
 ·intro hl
  rw[if_neg hl] at e
  subst e
  refine ⟨rfl,_,t', rfl,htn,fun _=>⟨rfl,?_⟩⟩
  rw[ht']
  show (if 0<p then t+1+p else t)=f+(if 0<p then t - f+1+p else t - f)
  split <;> omega
theorem part_dot {L:List Int}{f t p:Nat}(hft:f≤t) (hm:many dgB (L.drop f)=t - f) (h46:L[t]?=some 46) (hp:many dgB (L.drop (t+1))=p):partN (L.drop f)=p:=by
 have:=W.part_is hm (by rw[List.getElem?_drop,show f+(t - f)=t by omega];exact h46)
 rw[this,List.drop_drop,show f+(t - f+1)=t+1 by omega,hp]
theorem part_no {L:List Int}{f t:Nat}(hft:f≤t) (hm:many dgB (L.drop f)=t - f) (h:L[t]?≠some 46∨many dgB (L.drop (t+1))=0):partN (L.drop f)=0:=by
 refine W.part_none hm ?_
 rw[List.getElem?_drop,show f+(t - f)=t by omega,List.drop_drop,show f+(t - f+1)=t+1 by omega]
 exact h
theorem digit_bd {x:Int}(h:dgB x=true):48≤x∧x≤57:=by unfold W.dgB at h;exact of_decide_eq_true h
set_option maxHeartbeats 4000000 in
theorem dnumber_any {w:World}{B:Nat}{A:Option Addr}{n c:Nat}{L:List Int}(h:RdK .i64 w B A n c L) (hn:n≤4000){f:Nat}{c0:Int}(hf:L[f]?=some c0) (hd0:dgB c0=true) :
  Calls Tryz.prog 88 #[.slice A n c,.int .i64 f] w (DNumP w n f (numB (L.drop f))):=by
 have HH:=hc_ h
 have HL:=hc_ h.len
 have hfn:f<n:=by have:=(List.getElem?_eq_some_iff.1 hf).1;have:=h.len;omega
 have HF:=hc_ hf
 have HD0:=hc_ hd0
 obtain ⟨bA,oA,y0,hA,hbA,hy0,hc0⟩:=h.got hfn
 subst hA
 obtain rfl:c0=y0:=by rw[hf] at hy0;exact Option.some.inj hy0
 generalize hr:numB (L.drop f)=r
 have HR:=hc_ hr
 clear h hf hd0 hy0 hr
 go_enter Tryz.func88,Tryz.ntmps88
 go_wp2_with fail
 go_loopw [7,8] (fun tv nv wx=>∃ (t:Nat) (v:Int),f≤t∧t≤n∧tv=.int .i64 t∧nv=.int .i64 v∧0≤v∧v≤100000∧w=wx∧Hid (Dg (L.drop f) (t - f) v)∧Hid (Run L f t)) (fun tv _ _=>n - (intOf tv).toNat)
 case atStart=>exact ⟨f,0,by omega,by omega,rfl,rfl,by omega,by omega,by trivial,by rw[Nat.sub_self];exact Dg.zero _,Run.zero _ _⟩
 case round =>
  obtain ⟨t,v,hft,htn,rfl,rfl,hv0,hv1,rfl,HG,HU⟩:=hrel
  by_cases hlt:t<n
  ·obtain ⟨b1,o1,x,hA,hbl,hx,hc⟩:=HH.out.got hlt
   injection hA with hA;injection hA with e1 e2 _;subst e1 e2
   have HX:=hc_ hx
   clear hx hbl
   cases hd:dgB x with
   | true =>
    obtain ⟨hx0,hx1⟩:=digit_bd hd
    have HG2:Hid (Dg (L.drop f) (t+1 - f) (min 100000 (v*10+x - 48))):=by
     have:=HG.out.step (c:=x) (by rw[List.getElem?_drop,show f+(t - f)=t by omega];exact HX.out) hd
     rwa [show t - f+1=t+1 - f by omega] at this
    have HU2:=hc_ (HU.out.step HX.out hd)
    have hm0:0≤(min 100000 (v*10+x - 48)):=by omega
    have hm1:(min 100000 (v*10+x - 48))≤100000:=by omega
    have HC:=zd_ x w
    rw[hd] at HC
    clear HG HU hd
    go_wp2_with fail
    refine HC.mono ?_
    rintro e w1 ⟨rfl,rfl⟩
    clear HC
    go_wp2_with fail
    go_roundw
    case rel=>exact ⟨t+1,_,by omega,by omega,by go_num,rfl,hm0,hm1,by trivial,HG2.out,HU2.out⟩
    case measure=>simp[intOf];omega
   | false =>
    have HM:Hid (many dgB (L.drop f)=t - f):=HU.out.many hft (by rw[HL.out];exact htn) (fun y hy=>by rw[HX.out] at hy;injection hy with hy;subst hy;exact hd)
    have HC:=zd_ x w
    rw[hd] at HC
    go_wp2_with fail
    refine HC.mono ?_
    rintro e w1 ⟨rfl,rfl⟩
    clear HC hd
    as_aux_lemma =>
    have h1t:f+1≤t:=by
     rcases Nat.lt_or_ge f t with h|h
     ·exact h
     ·have e:f=t:=by omega
      have h2:=HM.out
      rw[e,Nat.sub_self] at h2
      have h3:=W.many_cons HD0.out (L.drop (f+1))
      have h4:L.drop f=c0 :: L.drop (f+1):=by
       obtain ⟨h5,h6⟩:=List.getElem?_eq_some_iff.1 HF.out
       rw[List.drop_eq_getElem_cons h5,h6]
      rw[← h4,e,h2] at h3
      omega
    by_cases hz:c0=48∧f+1<t
    ·obtain ⟨hz1,hz2⟩:=hz
     have HE:Hid (DNumP w n f r (.returned (.tuple #[.int .i64 0,.int .i64 t,.int .i64 4])) w):=by
      have:=W.num_nought HM.out ⟨by omega,by rw[List.getElem?_drop,Nat.add_zero,HF.out,hz1]⟩
      rw[← HR.out,this]
      exact ⟨rfl,0,t,rfl,htn,fun h=>by cases h⟩
     subst hz1
     clear HG HU HM
     go_wp2_with fail
     exact bodyPost_ret (v:=.tuple #[.int .i64 0,.int .i64 t,.int .i64 4]) (by simp[results,Tryz.results88,go_sem]) rfl HE.out
    ·have HN:Hid (¬ (1<t - f∧(L.drop f)[0]?=some 48)):=fun h=>hz ⟨by have:=h.2;rw[List.getElem?_drop,Nat.add_zero,HF.out] at this;exact Option.some.inj this,by omega⟩
     have hgo:(c0 == 48)=false∨(c0 == 48)=true∧¬ (f+1<t):=by
      by_cases h:c0=48
      ·exact .inr ⟨by simp[h],fun h2=>hz ⟨h,h2⟩⟩
      ·exact .inl (by simp[h])
     clear hz
     go_upto_region 6 with fail
     go_cut [46] (fun v wx=>v=.bool false∧w=wx)
     case first =>
      rcases hgo with g|⟨g,g2⟩
      ·go_wp2_with fail
       go_meet
       exact ⟨rfl,rfl⟩
      ·go_wp2_with fail
       go_meet
       exact ⟨by rw[show decide ((f:Int)+1<(t:Int))=false by simp;omega],rfl⟩
     case rest =>
      obtain ⟨rfl,rfl⟩:=hcut
      clear hgo
      try clear hc
      clear hc0
      by_cases hk3:3<t - f
      ·have hk3i:(3:Int)<(t:Int) - (f:Int):=by omega
       by_cases ht1:t+1<n
       ·obtain ⟨b1,o1,x,hA,hbl,hx,hcx⟩:=HH.out.got (j:=t) (by omega)
        injection hA with hA;injection hA with e1 e2 _;subst e1 e2
        obtain ⟨b1,o1,y,hA,hbl', hy,hcy⟩:=HH.out.got ht1
        injection hA with hA;injection hA with e1 e2 _;subst e1 e2
        have HX:=hc_ hx
        have HY:=hc_ hy
        clear hx hy hbl hbl'
        by_cases h46:x=46
        ·subst h46
         cases hd:dgB y with
         | true =>
          have HDY:=hc_ hd
          obtain ⟨hy0,hy1⟩:=digit_bd hd
          have HC:=zd_ y w
          rw[hd] at HC
          clear hd
          go_wp2_with fail
          refine HC.mono ?_
          rintro e w1 ⟨rfl,rfl⟩
          clear HC
          go_wp2_with fail
          go_loopw [7,10] (fun tv nv wx=>∃ (t2:Nat) (R:Int),t+1≤t2∧t2≤n∧tv=.int .i64 t2∧nv=.int .i64 R∧0≤R∧R≤100000∧w=wx∧Hid (Dg (L.drop (t+1)) (t2 - (t+1)) R)∧Hid (Run L (t+1) t2)) (fun tv _ _=>n - (intOf tv).toNat)
          case atStart=>exact ⟨t+1,0,by omega,by omega,by go_num,rfl,by omega,by omega,by trivial,by rw[Nat.sub_self];exact Dg.zero _,Run.zero _ _⟩
          case round =>
           obtain ⟨t2,R,htt2,htn2,rfl,rfl,hR0,hR1,rfl,HG2,HU2⟩:=hrel
           clear hcx hcy
           by_cases hlt2:t2<n
           ·obtain ⟨b1,o1,z,hA,hbl,hz,hcz⟩:=HH.out.got hlt2
            injection hA with hA;injection hA with e1 e2 _;subst e1 e2
            have HZ:=hc_ hz
            clear hz hbl
            cases hd:dgB z with
            | true =>
             obtain ⟨hz0,hz1⟩:=digit_bd hd
             have HG3:Hid (Dg (L.drop (t+1)) (t2+1 - (t+1)) (min 100000 (R*10+z - 48))):=by
              have:=HG2.out.step (c:=z) (by rw[List.getElem?_drop,show t+1+(t2 - (t+1))=t2 by omega];exact HZ.out) hd
              rwa [show t2 - (t+1)+1=t2+1 - (t+1) by omega] at this
             have HU3:=hc_ (HU2.out.step HZ.out hd)
             have hm0:0≤(min 100000 (R*10+z - 48)):=by omega
             have hm1:(min 100000 (R*10+z - 48))≤100000:=by omega
             have HC:=zd_ z w
             rw[hd] at HC
             clear HG2 HU2 hd
             go_wp2_with fail
             refine HC.mono ?_
             rintro e w1 ⟨rfl,rfl⟩
             clear HC
             go_wp2_with fail
             go_roundw
             case rel=>exact ⟨t2+1,_,by omega,by omega,by go_num,rfl,hm0,hm1,by trivial,HG3.out,HU3.out⟩
             case measure=>simp[intOf];omega
            | false =>
             have HM2:Hid (many dgB (L.drop (t+1))=t2 - (t+1)):=HU2.out.many htt2 (by rw[HL.out];exact htn2) (fun y hy=>by rw[HZ.out] at hy;injection hy with hy;subst hy;exact hd)
             have HC:=zd_ z w
             rw[hd] at HC
             go_wp2_with fail
             refine HC.mono ?_
             rintro e w1 ⟨rfl,rfl⟩
             clear HC hd
             have hp1:1≤t2 - (t+1):=by
              have h2:=HM2.out
              have h3:=W.many_cons HDY.out (L.drop (t+2))
              have h4:L.drop (t+1)=y :: L.drop (t+2):=by
               obtain ⟨h5,h6⟩:=List.getElem?_eq_some_iff.1 HY.out
               rw[List.drop_eq_getElem_cons h5,h6]
              rw[← h4,h2] at h3
              omega
             obtain ⟨p,hp⟩:∃ p:Nat,p=t2 - (t+1):=⟨_,rfl⟩
             have hpt:(t2:Int)=(t:Int)+1+(p:Int):=by omega
             have HPP:Hid (partN (L.drop f)=p):=part_dot hft HM.out HX.out (by rw[HM2.out,hp])
             have hE:∀ rr:Int,(p≤3→rr=valN ((L.drop (t+1)).take p) 3 0)→_:=fun rr h=>zs_ (w:=w) (n:=n) (t' := t2) HR.out HM.out h1t HN.out HPP.out HG.out h (by rw[if_pos (by omega)];omega) htn2
             have HEL:Hid (3<t - f∨3<p→DNumP w n f r (.returned (.tuple #[.int .i64 0,.int .i64 t2,.int .i64 2])) w):=fun h=>(hE (valN ((L.drop (t+1)).take p) 3 0) (fun _=>rfl)).1 h
             have HEO:Hid (∀ R2:Int,R2=valN ((L.drop (t+1)).take p) 3 0→¬ (3<t - f∨3<p)→DNumP w n f r (.returned (.tuple #[.int .i64 (v*1000+R2),.int .i64 t2,.int .i64 0])) w):=fun R2 h hl=>(hE R2 (fun _=>h)).2 hl
             have HV:Hid (p≤3→R=valN ((L.drop (t+1)).take p) p 0):=fun h=>by rw[hp];exact HG2.out.2.2.2.2.2 (by omega)
             have hp1' : 1≤p:=by omega
             have htt:(t2:Int) - (t:Int) - 1=(p:Int):=by omega
             clear hE HPP HR HM HN HG HU HU2 HG2 HM2 HX HY HDY hp hp1 hpt
             go_wp2_with fail
             go_loopw [10,12] (fun rv qv wx=>∃ (q:Nat) (R2:Int),rv=.int .i64 R2∧qv=.int .i64 q∧p≤q∧q≤p+2∧(p≤3→q≤3)∧0≤R2∧(q=p→R2≤100000)∧(q=p+1→R2≤1000000)∧R2≤10000000∧w=wx∧Hid (p≤3→R2=valN ((L.drop (t+1)).take p) q 0)) (fun _ qv _=>3 - (intOf qv).toNat)
             case atStart=>exact ⟨p,R,rfl,by go_num,by omega,by omega,fun h=>h,by omega,fun _=>by omega,fun h=>by omega,by omega,by trivial,fun h=>HV.out h⟩
             case round =>
              obtain ⟨q,R2,rfl,rfl,hq0,hq1,hq2,hR0,hR1,hR2,hR3,rfl,HV3⟩:=hrel
              by_cases hq3:q<3
              ·have HV4:Hid (p≤3→R2*10=valN ((L.drop (t+1)).take p) (q+1) 0):=fun h=>by
                rw[W.valN_more _ q 0 (by rw[List.length_take];omega),← HV3.out h]
               have hb:R2≤1000000:=by omega
               clear HV3
               go_wp2_with fail
               go_roundw
               case rel=>exact ⟨q+1,R2*10,rfl,by go_num,by omega,by omega,fun h=>by omega,by omega,fun h=>by omega,fun h=>by have:=hR1 (by omega);omega,by omega,by trivial,HV4.out⟩
               case measure=>simp[intOf];omega
              ·have hq3' : True:=trivial
               clear hq3'
               have HE:Hid (DNumP w n f r (.returned (.tuple #[.int .i64 0,.int .i64 t2,.int .i64 2])) w):=HEL.out (.inl hk3)
               clear HEL HEO HV3 HV
               go_wp2_with fail
               exact bodyPost_ret (v:=.tuple #[.int .i64 0,.int .i64 t2,.int .i64 2]) (by simp[results,Tryz.results88,go_sem]) rfl HE.out
           ·have HM2:Hid (many dgB (L.drop (t+1))=t2 - (t+1)):=HU2.out.many htt2 (by rw[HL.out];exact htn2) (fun y hy=>by have h1:=(List.getElem?_eq_some_iff.1 hy).1;rw[HL.out] at h1;omega)
            have hp1:1≤t2 - (t+1):=by
             have h2:=HM2.out
             have h3:=W.many_cons HDY.out (L.drop (t+2))
             have h4:L.drop (t+1)=y :: L.drop (t+2):=by
              obtain ⟨h5,h6⟩:=List.getElem?_eq_some_iff.1 HY.out
              rw[List.drop_eq_getElem_cons h5,h6]
             rw[← h4,h2] at h3
             omega
            obtain ⟨p,hp⟩:∃ p:Nat,p=t2 - (t+1):=⟨_,rfl⟩
            have hpt:(t2:Int)=(t:Int)+1+(p:Int):=by omega
            have HPP:Hid (partN (L.drop f)=p):=part_dot hft HM.out HX.out (by rw[HM2.out,hp])
            have hE:∀ rr:Int,(p≤3→rr=valN ((L.drop (t+1)).take p) 3 0)→_:=fun rr h=>zs_ (w:=w) (n:=n) (t' := t2) HR.out HM.out h1t HN.out HPP.out HG.out h (by rw[if_pos (by omega)];omega) htn2
            have HEL:Hid (3<t - f∨3<p→DNumP w n f r (.returned (.tuple #[.int .i64 0,.int .i64 t2,.int .i64 2])) w):=fun h=>(hE (valN ((L.drop (t+1)).take p) 3 0) (fun _=>rfl)).1 h
            have HEO:Hid (∀ R2:Int,R2=valN ((L.drop (t+1)).take p) 3 0→¬ (3<t - f∨3<p)→DNumP w n f r (.returned (.tuple #[.int .i64 (v*1000+R2),.int .i64 t2,.int .i64 0])) w):=fun R2 h hl=>(hE R2 (fun _=>h)).2 hl
            have HV:Hid (p≤3→R=valN ((L.drop (t+1)).take p) p 0):=fun h=>by rw[hp];exact HG2.out.2.2.2.2.2 (by omega)
            have hp1' : 1≤p:=by omega
            have htt:(t2:Int) - (t:Int) - 1=(p:Int):=by omega
            clear hE HPP HR HM HN HG HU HU2 HG2 HM2 HX HY HDY hp hp1 hpt
            go_wp2_with fail
            go_loopw [10,12] (fun rv qv wx=>∃ (q:Nat) (R2:Int),rv=.int .i64 R2∧qv=.int .i64 q∧p≤q∧q≤p+2∧(p≤3→q≤3)∧0≤R2∧(q=p→R2≤100000)∧(q=p+1→R2≤1000000)∧R2≤10000000∧w=wx∧Hid (p≤3→R2=valN ((L.drop (t+1)).take p) q 0)) (fun _ qv _=>3 - (intOf qv).toNat)
            case atStart=>exact ⟨p,R,rfl,by go_num,by omega,by omega,fun h=>h,by omega,fun _=>by omega,fun h=>by omega,by omega,by trivial,fun h=>HV.out h⟩
            case round =>
             obtain ⟨q,R2,rfl,rfl,hq0,hq1,hq2,hR0,hR1,hR2,hR3,rfl,HV3⟩:=hrel
             by_cases hq3:q<3
             ·have HV4:Hid (p≤3→R2*10=valN ((L.drop (t+1)).take p) (q+1) 0):=fun h=>by
               rw[W.valN_more _ q 0 (by rw[List.length_take];omega),← HV3.out h]
              have hb:R2≤1000000:=by omega
              clear HV3
              go_wp2_with fail
              go_roundw
              case rel=>exact ⟨q+1,R2*10,rfl,by go_num,by omega,by omega,fun h=>by omega,by omega,fun h=>by omega,fun h=>by have:=hR1 (by omega);omega,by omega,by trivial,HV4.out⟩
              case measure=>simp[intOf];omega
             ·have hq3' : True:=trivial
              clear hq3'
              have HE:Hid (DNumP w n f r (.returned (.tuple #[.int .i64 0,.int .i64 t2,.int .i64 2])) w):=HEL.out (.inl hk3)
              clear HEL HEO HV3 HV
              go_wp2_with fail
              exact bodyPost_ret (v:=.tuple #[.int .i64 0,.int .i64 t2,.int .i64 2]) (by simp[results,Tryz.results88,go_sem]) rfl HE.out
         | false =>
          have HC:=zd_ y w
          rw[hd] at HC
          have HP:partN (L.drop f)=0:=part_no hft HM.out (.inr (by have h4:L.drop (t+1)=y :: L.drop (t+2):=(by obtain ⟨h5,h6⟩:=List.getElem?_eq_some_iff.1 HY.out;rw[List.drop_eq_getElem_cons h5,h6]);rw[h4];exact W.many_stop hd _))
          have HE:Hid (DNumP w n f r (.returned (.tuple #[.int .i64 0,.int .i64 t,.int .i64 2])) w):=(zs_ (w:=w) (n:=n) HR.out HM.out h1t HN.out HP HG.out (p:=0) (rr:=0) (fun _=>rfl) rfl htn).1 (.inl hk3)
          clear HP HG HU HM HN HR
          go_wp2_with fail
          refine HC.mono ?_
          rintro e w1 ⟨rfl,rfl⟩
          clear HC hd
          go_wp2_with fail
          exact bodyPost_ret (v:=.tuple #[.int .i64 0,.int .i64 t,.int .i64 2]) (by simp[results,Tryz.results88,go_sem]) rfl HE.out
        ·have g46:(x == 46)=false:=by simpa using h46
         have HP:partN (L.drop f)=0:=part_no hft HM.out (.inl (fun h=>h46 (by rw[HX.out] at h;exact Option.some.inj h)))
         have HE:Hid (DNumP w n f r (.returned (.tuple #[.int .i64 0,.int .i64 t,.int .i64 2])) w):=(zs_ (w:=w) (n:=n) HR.out HM.out h1t HN.out HP HG.out (p:=0) (rr:=0) (fun _=>rfl) rfl htn).1 (.inl hk3)
         clear HP HG HU HM HN HR
         clear h46
         go_wp2_with fail
         exact bodyPost_ret (v:=.tuple #[.int .i64 0,.int .i64 t,.int .i64 2]) (by simp[results,Tryz.results88,go_sem]) rfl HE.out
       ·have hno:∀ z,L[t]?=some z→L.length=t+1:=fun z hz=>by have:=(List.getElem?_eq_some_iff.1 hz).1;rw[HL.out] at this ⊢;omega
        have HP:partN (L.drop f)=0:=part_no hft HM.out (.inr (by rw[List.drop_eq_nil_of_le (by rw[HL.out];omega)];rfl))
        have HE:Hid (DNumP w n f r (.returned (.tuple #[.int .i64 0,.int .i64 t,.int .i64 2])) w):=(zs_ (w:=w) (n:=n) HR.out HM.out h1t HN.out HP HG.out (p:=0) (rr:=0) (fun _=>rfl) rfl htn).1 (.inl hk3)
        clear HP HG HU HM HN HR
        clear hno
        go_wp2_with fail
        exact bodyPost_ret (v:=.tuple #[.int .i64 0,.int .i64 t,.int .i64 2]) (by simp[results,Tryz.results88,go_sem]) rfl HE.out
      ·have hk3i:¬ (3:Int)<(t:Int) - (f:Int):=by omega
       by_cases ht1:t+1<n
       ·obtain ⟨b1,o1,x,hA,hbl,hx,hcx⟩:=HH.out.got (j:=t) (by omega)
        injection hA with hA;injection hA with e1 e2 _;subst e1 e2
        obtain ⟨b1,o1,y,hA,hbl', hy,hcy⟩:=HH.out.got ht1
        injection hA with hA;injection hA with e1 e2 _;subst e1 e2
        have HX:=hc_ hx
        have HY:=hc_ hy
        clear hx hy hbl hbl'
        by_cases h46:x=46
        ·subst h46
         cases hd:dgB y with
         | true =>
          have HDY:=hc_ hd
          obtain ⟨hy0,hy1⟩:=digit_bd hd
          have HC:=zd_ y w
          rw[hd] at HC
          clear hd
          go_wp2_with fail
          refine HC.mono ?_
          rintro e w1 ⟨rfl,rfl⟩
          clear HC
          go_wp2_with fail
          go_loopw [7,10] (fun tv nv wx=>∃ (t2:Nat) (R:Int),t+1≤t2∧t2≤n∧tv=.int .i64 t2∧nv=.int .i64 R∧0≤R∧R≤100000∧w=wx∧Hid (Dg (L.drop (t+1)) (t2 - (t+1)) R)∧Hid (Run L (t+1) t2)) (fun tv _ _=>n - (intOf tv).toNat)
          case atStart=>exact ⟨t+1,0,by omega,by omega,by go_num,rfl,by omega,by omega,by trivial,by rw[Nat.sub_self];exact Dg.zero _,Run.zero _ _⟩
          case round =>
           obtain ⟨t2,R,htt2,htn2,rfl,rfl,hR0,hR1,rfl,HG2,HU2⟩:=hrel
           clear hcx hcy
           by_cases hlt2:t2<n
           ·obtain ⟨b1,o1,z,hA,hbl,hz,hcz⟩:=HH.out.got hlt2
            injection hA with hA;injection hA with e1 e2 _;subst e1 e2
            have HZ:=hc_ hz
            clear hz hbl
            cases hd:dgB z with
            | true =>
             obtain ⟨hz0,hz1⟩:=digit_bd hd
             have HG3:Hid (Dg (L.drop (t+1)) (t2+1 - (t+1)) (min 100000 (R*10+z - 48))):=by
              have:=HG2.out.step (c:=z) (by rw[List.getElem?_drop,show t+1+(t2 - (t+1))=t2 by omega];exact HZ.out) hd
              rwa [show t2 - (t+1)+1=t2+1 - (t+1) by omega] at this
             have HU3:=hc_ (HU2.out.step HZ.out hd)
             have hm0:0≤(min 100000 (R*10+z - 48)):=by omega
             have hm1:(min 100000 (R*10+z - 48))≤100000:=by omega
             have HC:=zd_ z w
             rw[hd] at HC
             clear HG2 HU2 hd
             go_wp2_with fail
             refine HC.mono ?_
             rintro e w1 ⟨rfl,rfl⟩
             clear HC
             go_wp2_with fail
             go_roundw
             case rel=>exact ⟨t2+1,_,by omega,by omega,by go_num,rfl,hm0,hm1,by trivial,HG3.out,HU3.out⟩
             case measure=>simp[intOf];omega
            | false =>
             have HM2:Hid (many dgB (L.drop (t+1))=t2 - (t+1)):=HU2.out.many htt2 (by rw[HL.out];exact htn2) (fun y hy=>by rw[HZ.out] at hy;injection hy with hy;subst hy;exact hd)
             have HC:=zd_ z w
             rw[hd] at HC
             go_wp2_with fail
             refine HC.mono ?_
             rintro e w1 ⟨rfl,rfl⟩
             clear HC hd
             have hp1:1≤t2 - (t+1):=by
              have h2:=HM2.out
              have h3:=W.many_cons HDY.out (L.drop (t+2))
              have h4:L.drop (t+1)=y :: L.drop (t+2):=by
               obtain ⟨h5,h6⟩:=List.getElem?_eq_some_iff.1 HY.out
               rw[List.drop_eq_getElem_cons h5,h6]
              rw[← h4,h2] at h3
              omega
             obtain ⟨p,hp⟩:∃ p:Nat,p=t2 - (t+1):=⟨_,rfl⟩
             have hpt:(t2:Int)=(t:Int)+1+(p:Int):=by omega
             have HPP:Hid (partN (L.drop f)=p):=part_dot hft HM.out HX.out (by rw[HM2.out,hp])
             have hE:∀ rr:Int,(p≤3→rr=valN ((L.drop (t+1)).take p) 3 0)→_:=fun rr h=>zs_ (w:=w) (n:=n) (t' := t2) HR.out HM.out h1t HN.out HPP.out HG.out h (by rw[if_pos (by omega)];omega) htn2
             have HEL:Hid (3<t - f∨3<p→DNumP w n f r (.returned (.tuple #[.int .i64 0,.int .i64 t2,.int .i64 2])) w):=fun h=>(hE (valN ((L.drop (t+1)).take p) 3 0) (fun _=>rfl)).1 h
             have HEO:Hid (∀ R2:Int,R2=valN ((L.drop (t+1)).take p) 3 0→¬ (3<t - f∨3<p)→DNumP w n f r (.returned (.tuple #[.int .i64 (v*1000+R2),.int .i64 t2,.int .i64 0])) w):=fun R2 h hl=>(hE R2 (fun _=>h)).2 hl
             have HV:Hid (p≤3→R=valN ((L.drop (t+1)).take p) p 0):=fun h=>by rw[hp];exact HG2.out.2.2.2.2.2 (by omega)
             have hp1' : 1≤p:=by omega
             have htt:(t2:Int) - (t:Int) - 1=(p:Int):=by omega
             clear hE HPP HR HM HN HG HU HU2 HG2 HM2 HX HY HDY hp hp1 hpt
             by_cases hp3:3<p
             ·go_wp2_with fail
              go_loopw [10,12] (fun rv qv wx=>∃ (q:Nat) (R2:Int),rv=.int .i64 R2∧qv=.int .i64 q∧p≤q∧q≤p+2∧(p≤3→q≤3)∧0≤R2∧(q=p→R2≤100000)∧(q=p+1→R2≤1000000)∧R2≤10000000∧w=wx∧Hid (p≤3→R2=valN ((L.drop (t+1)).take p) q 0)) (fun _ qv _=>3 - (intOf qv).toNat)
              case atStart=>exact ⟨p,R,rfl,by go_num,by omega,by omega,fun h=>h,by omega,fun _=>by omega,fun h=>by omega,by omega,by trivial,fun h=>HV.out h⟩
              case round =>
               obtain ⟨q,R2,rfl,rfl,hq0,hq1,hq2,hR0,hR1,hR2,hR3,rfl,HV3⟩:=hrel
               by_cases hq3:q<3
               ·exact absurd hq3 (by omega)
               ·have hq3' : True:=trivial
                clear hq3'
                have HE:Hid (DNumP w n f r (.returned (.tuple #[.int .i64 0,.int .i64 t2,.int .i64 2])) w):=HEL.out (.inr hp3)
                clear HEL HEO HV3 HV
                go_wp2_with fail
                exact bodyPost_ret (v:=.tuple #[.int .i64 0,.int .i64 t2,.int .i64 2]) (by simp[results,Tryz.results88,go_sem]) rfl HE.out
             ·go_wp2_with fail
              go_loopw [10,12] (fun rv qv wx=>∃ (q:Nat) (R2:Int),rv=.int .i64 R2∧qv=.int .i64 q∧p≤q∧q≤p+2∧(p≤3→q≤3)∧0≤R2∧(q=p→R2≤100000)∧(q=p+1→R2≤1000000)∧R2≤10000000∧w=wx∧Hid (p≤3→R2=valN ((L.drop (t+1)).take p) q 0)) (fun _ qv _=>3 - (intOf qv).toNat)
              case atStart=>exact ⟨p,R,rfl,by go_num,by omega,by omega,fun h=>h,by omega,fun _=>by omega,fun h=>by omega,by omega,by trivial,fun h=>HV.out h⟩
              case round =>
               obtain ⟨q,R2,rfl,rfl,hq0,hq1,hq2,hR0,hR1,hR2,hR3,rfl,HV3⟩:=hrel
               by_cases hq3:q<3
               ·have HV4:Hid (p≤3→R2*10=valN ((L.drop (t+1)).take p) (q+1) 0):=fun h=>by
                 rw[W.valN_more _ q 0 (by rw[List.length_take];omega),← HV3.out h]
                have hb:R2≤1000000:=by omega
                clear HV3
                go_wp2_with fail
                go_roundw
                case rel=>exact ⟨q+1,R2*10,rfl,by go_num,by omega,by omega,fun h=>by omega,by omega,fun h=>by omega,fun h=>by have:=hR1 (by omega);omega,by omega,by trivial,HV4.out⟩
                case measure=>simp[intOf];omega
               ·have hq3' : q=3:=by omega
                subst hq3'
                have HE:Hid (DNumP w n f r (.returned (.tuple #[.int .i64 (v*1000+R2),.int .i64 t2,.int .i64 0])) w):=HEO.out R2 (by rw[HV3.out (by omega)]) (by omega)
                clear HEL HEO HV3 HV
                go_wp2_with fail
                exact bodyPost_ret (v:=.tuple #[.int .i64 (v*1000+R2),.int .i64 t2,.int .i64 0]) (by simp[results,Tryz.results88,go_sem]) rfl HE.out
           ·have HM2:Hid (many dgB (L.drop (t+1))=t2 - (t+1)):=HU2.out.many htt2 (by rw[HL.out];exact htn2) (fun y hy=>by have h1:=(List.getElem?_eq_some_iff.1 hy).1;rw[HL.out] at h1;omega)
            have hp1:1≤t2 - (t+1):=by
             have h2:=HM2.out
             have h3:=W.many_cons HDY.out (L.drop (t+2))
             have h4:L.drop (t+1)=y :: L.drop (t+2):=by
              obtain ⟨h5,h6⟩:=List.getElem?_eq_some_iff.1 HY.out
              rw[List.drop_eq_getElem_cons h5,h6]
             rw[← h4,h2] at h3
             omega
            obtain ⟨p,hp⟩:∃ p:Nat,p=t2 - (t+1):=⟨_,rfl⟩
            have hpt:(t2:Int)=(t:Int)+1+(p:Int):=by omega
            have HPP:Hid (partN (L.drop f)=p):=part_dot hft HM.out HX.out (by rw[HM2.out,hp])
            have hE:∀ rr:Int,(p≤3→rr=valN ((L.drop (t+1)).take p) 3 0)→_:=fun rr h=>zs_ (w:=w) (n:=n) (t' := t2) HR.out HM.out h1t HN.out HPP.out HG.out h (by rw[if_pos (by omega)];omega) htn2
            have HEL:Hid (3<t - f∨3<p→DNumP w n f r (.returned (.tuple #[.int .i64 0,.int .i64 t2,.int .i64 2])) w):=fun h=>(hE (valN ((L.drop (t+1)).take p) 3 0) (fun _=>rfl)).1 h
            have HEO:Hid (∀ R2:Int,R2=valN ((L.drop (t+1)).take p) 3 0→¬ (3<t - f∨3<p)→DNumP w n f r (.returned (.tuple #[.int .i64 (v*1000+R2),.int .i64 t2,.int .i64 0])) w):=fun R2 h hl=>(hE R2 (fun _=>h)).2 hl
            have HV:Hid (p≤3→R=valN ((L.drop (t+1)).take p) p 0):=fun h=>by rw[hp];exact HG2.out.2.2.2.2.2 (by omega)
            have hp1' : 1≤p:=by omega
            have htt:(t2:Int) - (t:Int) - 1=(p:Int):=by omega
            clear hE HPP HR HM HN HG HU HU2 HG2 HM2 HX HY HDY hp hp1 hpt
            by_cases hp3:3<p
            ·go_wp2_with fail
             go_loopw [10,12] (fun rv qv wx=>∃ (q:Nat) (R2:Int),rv=.int .i64 R2∧qv=.int .i64 q∧p≤q∧q≤p+2∧(p≤3→q≤3)∧0≤R2∧(q=p→R2≤100000)∧(q=p+1→R2≤1000000)∧R2≤10000000∧w=wx∧Hid (p≤3→R2=valN ((L.drop (t+1)).take p) q 0)) (fun _ qv _=>3 - (intOf qv).toNat)
             case atStart=>exact ⟨p,R,rfl,by go_num,by omega,by omega,fun h=>h,by omega,fun _=>by omega,fun h=>by omega,by omega,by trivial,fun h=>HV.out h⟩
             case round =>
              obtain ⟨q,R2,rfl,rfl,hq0,hq1,hq2,hR0,hR1,hR2,hR3,rfl,HV3⟩:=hrel
              by_cases hq3:q<3
              ·exact absurd hq3 (by omega)
              ·have hq3' : True:=trivial
               clear hq3'
               have HE:Hid (DNumP w n f r (.returned (.tuple #[.int .i64 0,.int .i64 t2,.int .i64 2])) w):=HEL.out (.inr hp3)
               clear HEL HEO HV3 HV
               go_wp2_with fail
               exact bodyPost_ret (v:=.tuple #[.int .i64 0,.int .i64 t2,.int .i64 2]) (by simp[results,Tryz.results88,go_sem]) rfl HE.out
            ·go_wp2_with fail
             go_loopw [10,12] (fun rv qv wx=>∃ (q:Nat) (R2:Int),rv=.int .i64 R2∧qv=.int .i64 q∧p≤q∧q≤p+2∧(p≤3→q≤3)∧0≤R2∧(q=p→R2≤100000)∧(q=p+1→R2≤1000000)∧R2≤10000000∧w=wx∧Hid (p≤3→R2=valN ((L.drop (t+1)).take p) q 0)) (fun _ qv _=>3 - (intOf qv).toNat)
             case atStart=>exact ⟨p,R,rfl,by go_num,by omega,by omega,fun h=>h,by omega,fun _=>by omega,fun h=>by omega,by omega,by trivial,fun h=>HV.out h⟩
             case round =>
              obtain ⟨q,R2,rfl,rfl,hq0,hq1,hq2,hR0,hR1,hR2,hR3,rfl,HV3⟩:=hrel
              by_cases hq3:q<3
              ·have HV4:Hid (p≤3→R2*10=valN ((L.drop (t+1)).take p) (q+1) 0):=fun h=>by
                rw[W.valN_more _ q 0 (by rw[List.length_take];omega),← HV3.out h]
               have hb:R2≤1000000:=by omega
               clear HV3
               go_wp2_with fail
               go_roundw
               case rel=>exact ⟨q+1,R2*10,rfl,by go_num,by omega,by omega,fun h=>by omega,by omega,fun h=>by omega,fun h=>by have:=hR1 (by omega);omega,by omega,by trivial,HV4.out⟩
               case measure=>simp[intOf];omega
              ·have hq3' : q=3:=by omega
               subst hq3'
               have HE:Hid (DNumP w n f r (.returned (.tuple #[.int .i64 (v*1000+R2),.int .i64 t2,.int .i64 0])) w):=HEO.out R2 (by rw[HV3.out (by omega)]) (by omega)
               clear HEL HEO HV3 HV
               go_wp2_with fail
               exact bodyPost_ret (v:=.tuple #[.int .i64 (v*1000+R2),.int .i64 t2,.int .i64 0]) (by simp[results,Tryz.results88,go_sem]) rfl HE.out
         | false =>
          have HC:=zd_ y w
          rw[hd] at HC
          have HP:partN (L.drop f)=0:=part_no hft HM.out (.inr (by have h4:L.drop (t+1)=y :: L.drop (t+2):=(by obtain ⟨h5,h6⟩:=List.getElem?_eq_some_iff.1 HY.out;rw[List.drop_eq_getElem_cons h5,h6]);rw[h4];exact W.many_stop hd _))
          have HE:Hid (DNumP w n f r (.returned (.tuple #[.int .i64 (v*1000),.int .i64 t,.int .i64 0])) w):=by have h9:=(zs_ (w:=w) (n:=n) HR.out HM.out h1t HN.out HP HG.out (p:=0) (rr:=0) (fun _=>rfl) rfl htn).2 (by omega);rw[Int.add_zero] at h9;exact h9
          clear HP HG HU HM HN HR
          go_wp2_with fail
          refine HC.mono ?_
          rintro e w1 ⟨rfl,rfl⟩
          clear HC hd
          go_wp2_with fail
          exact bodyPost_ret (v:=.tuple #[.int .i64 (v*1000),.int .i64 t,.int .i64 0]) (by simp[results,Tryz.results88,go_sem]) rfl HE.out
        ·have g46:(x == 46)=false:=by simpa using h46
         have HP:partN (L.drop f)=0:=part_no hft HM.out (.inl (fun h=>h46 (by rw[HX.out] at h;exact Option.some.inj h)))
         have HE:Hid (DNumP w n f r (.returned (.tuple #[.int .i64 (v*1000),.int .i64 t,.int .i64 0])) w):=by have h9:=(zs_ (w:=w) (n:=n) HR.out HM.out h1t HN.out HP HG.out (p:=0) (rr:=0) (fun _=>rfl) rfl htn).2 (by omega);rw[Int.add_zero] at h9;exact h9
         clear HP HG HU HM HN HR
         clear h46
         go_wp2_with fail
         exact bodyPost_ret (v:=.tuple #[.int .i64 (v*1000),.int .i64 t,.int .i64 0]) (by simp[results,Tryz.results88,go_sem]) rfl HE.out
       ·have hno:∀ z,L[t]?=some z→L.length=t+1:=fun z hz=>by have:=(List.getElem?_eq_some_iff.1 hz).1;rw[HL.out] at this ⊢;omega
        have HP:partN (L.drop f)=0:=part_no hft HM.out (.inr (by rw[List.drop_eq_nil_of_le (by rw[HL.out];omega)];rfl))
        have HE:Hid (DNumP w n f r (.returned (.tuple #[.int .i64 (v*1000),.int .i64 t,.int .i64 0])) w):=by have h9:=(zs_ (w:=w) (n:=n) HR.out HM.out h1t HN.out HP HG.out (p:=0) (rr:=0) (fun _=>rfl) rfl htn).2 (by omega);rw[Int.add_zero] at h9;exact h9
        clear HP HG HU HM HN HR
        clear hno
        go_wp2_with fail
        exact bodyPost_ret (v:=.tuple #[.int .i64 (v*1000),.int .i64 t,.int .i64 0]) (by simp[results,Tryz.results88,go_sem]) rfl HE.out
  ·have HM:Hid (many dgB (L.drop f)=t - f):=HU.out.many hft (by rw[HL.out];exact htn) (fun y hy=>by have h1:=(List.getElem?_eq_some_iff.1 hy).1;rw[HL.out] at h1;omega)
   as_aux_lemma =>
   have h1t:f+1≤t:=by
    rcases Nat.lt_or_ge f t with h|h
    ·exact h
    ·have e:f=t:=by omega
     have h2:=HM.out
     rw[e,Nat.sub_self] at h2
     have h3:=W.many_cons HD0.out (L.drop (f+1))
     have h4:L.drop f=c0 :: L.drop (f+1):=by
      obtain ⟨h5,h6⟩:=List.getElem?_eq_some_iff.1 HF.out
      rw[List.drop_eq_getElem_cons h5,h6]
     rw[← h4,e,h2] at h3
     omega
   by_cases hz:c0=48∧f+1<t
   ·obtain ⟨hz1,hz2⟩:=hz
    have HE:Hid (DNumP w n f r (.returned (.tuple #[.int .i64 0,.int .i64 t,.int .i64 4])) w):=by
     have:=W.num_nought HM.out ⟨by omega,by rw[List.getElem?_drop,Nat.add_zero,HF.out,hz1]⟩
     rw[← HR.out,this]
     exact ⟨rfl,0,t,rfl,htn,fun h=>by cases h⟩
    subst hz1
    clear HG HU HM
    go_wp2_with fail
    exact bodyPost_ret (v:=.tuple #[.int .i64 0,.int .i64 t,.int .i64 4]) (by simp[results,Tryz.results88,go_sem]) rfl HE.out
   ·have HN:Hid (¬ (1<t - f∧(L.drop f)[0]?=some 48)):=fun h=>hz ⟨by have:=h.2;rw[List.getElem?_drop,Nat.add_zero,HF.out] at this;exact Option.some.inj this,by omega⟩
    have hgo:(c0 == 48)=false∨(c0 == 48)=true∧¬ (f+1<t):=by
     by_cases h:c0=48
     ·exact .inr ⟨by simp[h],fun h2=>hz ⟨h,h2⟩⟩
     ·exact .inl (by simp[h])
    clear hz
    go_upto_region 6 with fail
    go_cut [46] (fun v wx=>v=.bool false∧w=wx)
    case first =>
     rcases hgo with g|⟨g,g2⟩
     ·go_wp2_with fail
      go_meet
      exact ⟨rfl,rfl⟩
     ·go_wp2_with fail
      go_meet
      exact ⟨by rw[show decide ((f:Int)+1<(t:Int))=false by simp;omega],rfl⟩
    case rest =>
     obtain ⟨rfl,rfl⟩:=hcut
     clear hgo
     try clear hc
     clear hc0
     by_cases hk3:3<t - f
     ·have hk3i:(3:Int)<(t:Int) - (f:Int):=by omega
      by_cases ht1:t+1<n
      ·exact absurd hlt (by omega)
      ·have hno:∀ z,L[t]?=some z→L.length=t+1:=fun z hz=>by have:=(List.getElem?_eq_some_iff.1 hz).1;rw[HL.out] at this ⊢;omega
       have HP:partN (L.drop f)=0:=part_no hft HM.out (.inr (by rw[List.drop_eq_nil_of_le (by rw[HL.out];omega)];rfl))
       have HE:Hid (DNumP w n f r (.returned (.tuple #[.int .i64 0,.int .i64 t,.int .i64 2])) w):=(zs_ (w:=w) (n:=n) HR.out HM.out h1t HN.out HP HG.out (p:=0) (rr:=0) (fun _=>rfl) rfl htn).1 (.inl hk3)
       clear HP HG HU HM HN HR
       clear hno
       go_wp2_with fail
       exact bodyPost_ret (v:=.tuple #[.int .i64 0,.int .i64 t,.int .i64 2]) (by simp[results,Tryz.results88,go_sem]) rfl HE.out
     ·have hk3i:¬ (3:Int)<(t:Int) - (f:Int):=by omega
      by_cases ht1:t+1<n
      ·exact absurd hlt (by omega)
      ·have hno:∀ z,L[t]?=some z→L.length=t+1:=fun z hz=>by have:=(List.getElem?_eq_some_iff.1 hz).1;rw[HL.out] at this ⊢;omega
       have HP:partN (L.drop f)=0:=part_no hft HM.out (.inr (by rw[List.drop_eq_nil_of_le (by rw[HL.out];omega)];rfl))
       have HE:Hid (DNumP w n f r (.returned (.tuple #[.int .i64 (v*1000),.int .i64 t,.int .i64 0])) w):=by have h9:=(zs_ (w:=w) (n:=n) HR.out HM.out h1t HN.out HP HG.out (p:=0) (rr:=0) (fun _=>rfl) rfl htn).2 (by omega);rw[Int.add_zero] at h9;exact h9
       clear HP HG HU HM HN HR
       clear hno
       go_wp2_with fail
       exact bodyPost_ret (v:=.tuple #[.int .i64 (v*1000),.int .i64 t,.int .i64 0]) (by simp[results,Tryz.results88,go_sem]) rfl HE.out
open W (Tk St dgB ltB nmB opn many nameS)

theorem nm_is (c:Int):nmB c=(ltB c || (dgB c || decide (c=95))):=by
 rw[Bool.eq_iff_iff]
 unfold W.nmB
 rw[Bool.or_eq_true,Bool.or_eq_true,Bool.or_eq_true,Q.plain_iff,decide_eq_true_eq]
 unfold W.ltB W.dgB
 rw[decide_eq_true_eq,decide_eq_true_eq]
 omega
theorem nm_bd {c:Int}(h:nmB c=true):0≤c∧c<128:=by
 have h1:=W.low_nm c h
 unfold W.nmB at h
 rw[Bool.or_eq_true,Q.plain_iff,decide_eq_true_eq] at h
 omega
def NRun (L:List Int) (f t:Nat):Prop:=(∀ j y,f≤j→j<t→L[j]?=some y→nmB y=true)∧(f<t→∃ y,L[f]?=some y∧ltB y=true)
theorem NRun.zero (L:List Int) (f:Nat):NRun L f f:=⟨fun j y h1 h2=>by omega,fun h=>by omega⟩
theorem NRun.step {L:List Int}{f t:Nat}{x:Int}(h:NRun L f t) (hx:L[t]?=some x) (hn:nmB x=true) (hl:f<t∨ltB x=true) (hft:f≤t):NRun L f (t+1):=by
 refine ⟨fun j y h1 h2 hy=>?_,fun _=>?_⟩
 ·rcases Nat.lt_or_ge j t with h3|h3
  ·exact h.1 j y h1 h3 hy
  ·obtain rfl:j=t:=by omega
   rw[hx] at hy;injection hy with hy;subst hy;exact hn
 ·rcases Nat.lt_or_ge f t with h3|h3
  ·exact h.2 h3
  ·obtain rfl:f=t:=by omega
   rcases hl with hl|hl
   ·omega
   ·exact ⟨x,hx,hl⟩
theorem NRun.many {L:List Int}{f t:Nat}(h:NRun L f t) (hft:f≤t) (ht:t≤L.length) (he:∀ x,L[t]?=some x→nmB x=false):many nmB (L.drop f)=t - f:=by
 refine W.many_at (fun j y hj hy=>h.1 (f+j) y (by omega) (by omega) (by rwa [List.getElem?_drop] at hy)) (by rw[List.length_drop];omega) fun x hx=>he x ?_
 rw[List.getElem?_drop] at hx
 rwa [show f+(t - f)=t by omega] at hx
theorem head_at (L:List Int) (f:Nat){y:Int}(h:L[f]?=some y):(L.drop f).headD (-1)=y:=by
 obtain ⟨h1,h2⟩:=List.getElem?_eq_some_iff.1 h
 rw[List.drop_eq_getElem_cons h1,h2];rfl
theorem head_no (L:List Int) (f:Nat) (h:L.length≤f):(L.drop f).headD (-1)=-1:=by rw[List.drop_eq_nil_of_le h];rfl
theorem name_none {L:List Int}{f:Nat}(h:∀ y,L[f]?=some y→ltB y=false):nameS (L.drop f)=.bad 0 4:=by
 have:ltB ((L.drop f).headD (-1))=false:=by
  rcases Nat.lt_or_ge f L.length with h1|h1
  ·rw[head_at L f (List.getElem?_eq_getElem h1)];exact h _ (List.getElem?_eq_getElem h1)
  ·rw[head_no L f h1];decide
 unfold W.nameS
 rw[if_neg (by rw[this];decide)]
theorem name_some {L:List Int}{f t:Nat}(h:NRun L f t) (hft:f<t) (hm:many nmB (L.drop f)=t - f):nameS (L.drop f)=if 16<t - f then .bad 0 2 else .tok 1 ((L.drop f).take (t - f)) 0 0 (t - f):=by
 obtain ⟨y,hy,hl⟩:=h.2 hft
 unfold W.nameS
 rw[if_pos (by rw[head_at L f hy];exact hl),hm,← hm,W.take_many]
section
variable {X:Cx}{b:Nat}{w:World}{p o:Nat}{tv:Value}{ts:List Tk}{wr:Int}
theorem zp_ {w' : World}{k:Nat}{er:Int}{p' o' : Nat}{tv' : Value}{ts' : List Tk}(h:Rdx X b w' p' o' tv' ts' (plc X.L (p+k):Nat) er) (hb:Below b w w'):StepD X b w p o ts wr (.bad k er) (.returned (.tuple #[])) w' := ⟨rfl,hb,p', o', tv', ts', h⟩
set_option maxHeartbeats 4000000 in
theorem dname_any (h:Rdx X b w p o tv ts wr 0) (hp:p<X.nc) (hts:ts.length≤3000) :
  Calls Tryz.prog 83 #[.pointer (some ⟨b,0,none⟩)] w (StepD X b w p o ts wr (nameS (X.L.drop (p+1)))):=by
 have HH:=hc_ h
 obtain ⟨n1,n2,n3⟩:=h.nc
 have HN1:=hc_ n1
 obtain ⟨c0,c1,c2,c3,c4,c5,c6⟩:=h.cells
 have f2:=h.fr 2
 obtain ⟨bA,oA,y0,hA,hbA,_,_⟩:=h.chars.got hp
 rw[hA] at c0
 have HA:=hc_ hA
 have hcc:X.nc≤X.cc:=h.chars.cap
 have hpp:(p:Int)<3000:=by omega
 generalize hr:nameS (X.L.drop (p+1))=r
 have HR:=hc_ hr
 clear h hA hr n1 n3
 go_enter Tryz.func83,Tryz.ntmps83
 go_wp2_with fail
 go_loopw [3] (fun tv2 wx=>∃ t:Nat,p+1≤t∧t≤X.nc∧tv2=.int .i64 t∧w=wx∧Hid (NRun X.L (p+1) t)) (fun tv2 _=>X.nc - (intOf tv2).toNat)
 case atStart=>exact ⟨p+1,by omega,by omega,by go_num,by trivial,NRun.zero _ _⟩
 case round =>
  obtain ⟨t,ht1,ht2,rfl,rfl,HU⟩:=hrel
  by_cases hlt:t<X.nc
  ·obtain ⟨b1,o1,y,hA1,_,hy,hc⟩:=HH.out.chars.got hlt
   rw[HA.out] at hA1
   injection hA1 with hA1;injection hA1 with e1 e2 _;subst e1 e2
   have HY:=hc_ hy
   have HCL:=dletter_any y w
   clear hy
   cases hl:ltB y with
   | true =>
    rw[hl] at HCL
    have HU2:=hc_ (HU.out.step HY.out (by rw[nm_is,hl];rfl) (.inr hl) ht1)
    clear HU HY hl
    go_wp2_with fail
    refine HCL.mono ?_
    rintro e w1 ⟨rfl,rfl⟩
    clear HCL
    go_wp2_with fail
    go_roundw
    case rel=>exact ⟨t+1,by omega,by omega,by go_num,by trivial,HU2.out⟩
    case measure=>simp[intOf];omega
   | false =>
    rw[hl] at HCL
    by_cases htp1:t=p+1
    ·subst htp1
     go_wp2_with fail
     refine HCL.mono ?_
     rintro e w1 ⟨rfl,rfl⟩
     clear HCL
     as_aux_lemma =>
     have HNM:Hid (r=.bad 0 4):=by
      show _=_
      rw[← HR.out]
      exact name_none (fun z hz=>by rw[HY.out] at hz;injection hz with hz;subst hz;exact hl)
     clear HU HY hl
     go_wp2_with fail
     refine (qp_ HH.out (i:=p) (Nat.le_of_lt hp) 4).mono ?_
     rintro e w2 ⟨rfl,hR,hb2⟩
     rw[if_pos rfl,if_pos rfl] at hR
     have HR2:=hc_ hR
     have HB2:=hc_ hb2
     obtain ⟨k0,k1,k2,k3,k4,k5,k6⟩:=hR.cells
     have m2:=hR.fr 2
     have HE:Hid (StepD X b w p o ts wr r (.returned (.tuple #[])) (w2.setCell ⟨b,2,none⟩ (.int .i64 ((p+1:Nat):Int)))):=by
      show StepD _ _ _ _ _ _ _ _ _ _
      rw[HNM.out]
      exact zp_ (k:=0) (HR2.out.at_ (q:=p+1) (by omega)) (HB2.out.setCell (p:=⟨b,2,none⟩) (Nat.le_refl _) _)
     clear hR hb2 HNM HR
     go_wp2_with fail
     exact bodyPost_ret (v:=.tuple #[]) (by simp[results,Tryz.results83,go_sem]) rfl HE.out
    ·have htg:¬ (t:Int)≤(p:Int)+1:=by omega
     go_wp2_with fail
     refine HCL.mono ?_
     rintro e w1 ⟨rfl,rfl⟩
     clear HCL
     have HCD:=zd_ y w
     cases hd:dgB y with
     | true =>
      rw[hd] at HCD
      have HU2:=hc_ (HU.out.step HY.out (by rw[nm_is,hl,hd];rfl) (.inl (by omega)) ht1)
      clear HU HY hl hd
      go_wp2_with fail
      refine HCD.mono ?_
      rintro e w1 ⟨rfl,rfl⟩
      clear HCD
      go_wp2_with fail
      go_roundw
      case rel=>exact ⟨t+1,by omega,by omega,by go_num,by trivial,HU2.out⟩
      case measure=>simp[intOf];omega
     | false =>
      rw[hd] at HCD
      by_cases h95:y=95
      ·subst h95
       have HU2:=hc_ (HU.out.step HY.out (by decide) (.inl (by omega)) ht1)
       clear HU HY hl hd
       go_wp2_with fail
       refine HCD.mono ?_
       rintro e w1 ⟨rfl,rfl⟩
       clear HCD
       go_wp2_with fail
       go_roundw
       case rel=>exact ⟨t+1,by omega,by omega,by go_num,by trivial,HU2.out⟩
       case measure=>simp[intOf];omega
      ·have g95:(y == 95)=false:=by simpa using h95
       go_wp2_with fail
       refine HCD.mono ?_
       rintro e w1 ⟨rfl,rfl⟩
       clear HCD
       as_aux_lemma =>
       have HM:Hid (many nmB (X.L.drop (p+1))=t - (p+1)):=HU.out.many ht1 (by rw[HN1.out];exact ht2) (fun z hz=>by rw[HY.out] at hz;injection hz with hz;subst hz;rw[nm_is,hl,hd];simp;exact h95)
       have hNM:=name_some HU.out (by omega) HM.out
       rw[HR.out] at hNM
       have hne:¬ (t:Int)=(p:Int)+1:=by omega
       by_cases h16:16<t - (p+1)
       ·rw[if_pos h16] at hNM
        have HNM:=hc_ hNM
        have h16i:(16:Int)<(t:Int) - (p:Int) - 1:=by omega
        clear HU hNM HM HR
        go_wp2_with fail
        refine (qp_ HH.out (i:=p) (Nat.le_of_lt hp) 2).mono ?_
        rintro e w2 ⟨rfl,hR,hb2⟩
        rw[if_pos rfl,if_pos rfl] at hR
        have HR2:=hc_ hR
        have HB2:=hc_ hb2
        obtain ⟨k0,k1,k2,k3,k4,k5,k6⟩:=hR.cells
        have m2:=hR.fr 2
        have HE:Hid (StepD X b w p o ts wr r (.returned (.tuple #[])) (w2.setCell ⟨b,2,none⟩ (.int .i64 t))):=by
         show StepD _ _ _ _ _ _ _ _ _ _
         rw[HNM.out]
         exact zp_ (k:=0) (HR2.out.at_ (q:=t) ht2) (HB2.out.setCell (p:=⟨b,2,none⟩) (Nat.le_refl _) _)
        clear hR hb2 HNM
        go_wp2_with fail
        exact bodyPost_ret (v:=.tuple #[]) (by simp[results,Tryz.results83,go_sem]) rfl HE.out
       ·rw[if_neg h16] at hNM
        have HNM:=hc_ hNM
        have h16i:¬ (16:Int)<(t:Int) - (p:Int) - 1:=by omega
        have hR2:=HH.out.at_ (q:=t) ht2
        have HR2:=hc_ hR2
        have HRK:Hid (RdK .i64 (w.setCell ⟨b,2,none⟩ (.int .i64 t)) b (some ⟨bA,oA+(p+1),none⟩) (t - (p+1)) (X.cc - (p+1)) ((X.L.drop (p+1)).take (t - (p+1)))):=by
         have h1:=hR2.chars
         rw[HA.out] at h1
         exact (h1.drop (m:=p+1) (by omega)).take (by omega)
        have HLT:Hid (∀ x∈(X.L.drop (p+1)).take (t - (p+1)),0≤x∧x<128):=fun x hx=>by
         obtain ⟨j,hj,e⟩:=List.getElem_of_mem hx
         have h1:((X.L.drop (p+1)).take (t - (p+1)))[j]?=some x:=by rw[List.getElem?_eq_getElem hj,e]
         have h2:j<t - (p+1):=by rw[List.length_take] at hj;omega
         rw[List.getElem?_take_of_lt h2,List.getElem?_drop] at h1
         exact nm_bd (HU.out.1 _ x (by omega) (by omega) h1)
        have hcc2:¬ X.cc=p+1:=by omega
        generalize (X.L.drop (p+1)).take (t - (p+1))=xs at *
        have hsz:b≤(w.setCell ⟨b,2,none⟩ (.int .i64 t)).heap.size:=by have:=HH.out.size;simp;omega
        have HC:=hc_ (dtext_any HRK.out hsz (by omega) HLT.out)
        have HBW:Hid (Below b w (w.setCell ⟨b,2,none⟩ (.int .i64 t))):=(Below.refl b w).setCell (p:=⟨b,2,none⟩) (Nat.le_refl _) _
        have htp:((t - (p+1):Nat):Int)=(t:Int) - ((p:Int)+1):=by omega
        clear HU hNM HM HR hR2 HRK HLT hsz
        go_wp2_with fail
        refine HC.out.mono ?_
        rintro e w2 ⟨rfl,hb2⟩
        have HRW:=hc_ (HR2.out.below hb2)
        have HB2:=hc_ (HBW.out.trans (hb2.mono (by have:=HR2.out.size;omega)))
        clear hb2 HC HR2 HBW
        go_wp2_with fail
        refine (zr_ HRW.out 1 0 0 0 xs (i:=p) (Nat.le_of_lt hp) hts).mono ?_
        rintro e w3 ⟨rfl,⟨tv3,hR3⟩,hb3⟩
        have HE:Hid (StepD X b w p o ts wr r (.returned (.tuple #[])) w3):=by
         show StepD _ _ _ _ _ _ _ _ _ _
         rw[HNM.out]
         refine ⟨rfl,HB2.out.trans hb3,tv3,?_⟩
         rw[show p+(t - (p+1))+1=t by omega]
         exact hR3
        clear hR3 hb3 HRW HNM
        go_wp2_with fail
        exact bodyPost_ret (v:=.tuple #[]) (by simp[results,Tryz.results83,go_sem]) rfl HE.out
  ·by_cases htp1:t=p+1
   ·subst htp1
    as_aux_lemma =>
    have HNM:Hid (r=.bad 0 4):=by
     show _=_
     rw[← HR.out]
     exact name_none (fun z hz=>by have:=(List.getElem?_eq_some_iff.1 hz).1;rw[HN1.out] at this;omega)
    clear HU
    go_wp2_with fail
    refine (qp_ HH.out (i:=p) (Nat.le_of_lt hp) 4).mono ?_
    rintro e w2 ⟨rfl,hR,hb2⟩
    rw[if_pos rfl,if_pos rfl] at hR
    have HR2:=hc_ hR
    have HB2:=hc_ hb2
    obtain ⟨k0,k1,k2,k3,k4,k5,k6⟩:=hR.cells
    have m2:=hR.fr 2
    have HE:Hid (StepD X b w p o ts wr r (.returned (.tuple #[])) (w2.setCell ⟨b,2,none⟩ (.int .i64 ((p+1:Nat):Int)))):=by
     show StepD _ _ _ _ _ _ _ _ _ _
     rw[HNM.out]
     exact zp_ (k:=0) (HR2.out.at_ (q:=p+1) (by omega)) (HB2.out.setCell (p:=⟨b,2,none⟩) (Nat.le_refl _) _)
    clear hR hb2 HNM HR
    go_wp2_with fail
    exact bodyPost_ret (v:=.tuple #[]) (by simp[results,Tryz.results83,go_sem]) rfl HE.out
   ·as_aux_lemma =>
    have HM:Hid (many nmB (X.L.drop (p+1))=t - (p+1)):=HU.out.many ht1 (by rw[HN1.out];exact ht2) (fun z hz=>by have:=(List.getElem?_eq_some_iff.1 hz).1;rw[HN1.out] at this;omega)
    have hNM:=name_some HU.out (by omega) HM.out
    rw[HR.out] at hNM
    have hne:¬ (t:Int)=(p:Int)+1:=by omega
    by_cases h16:16<t - (p+1)
    ·rw[if_pos h16] at hNM
     have HNM:=hc_ hNM
     have h16i:(16:Int)<(t:Int) - (p:Int) - 1:=by omega
     clear HU hNM HM HR
     go_wp2_with fail
     refine (qp_ HH.out (i:=p) (Nat.le_of_lt hp) 2).mono ?_
     rintro e w2 ⟨rfl,hR,hb2⟩
     rw[if_pos rfl,if_pos rfl] at hR
     have HR2:=hc_ hR
     have HB2:=hc_ hb2
     obtain ⟨k0,k1,k2,k3,k4,k5,k6⟩:=hR.cells
     have m2:=hR.fr 2
     have HE:Hid (StepD X b w p o ts wr r (.returned (.tuple #[])) (w2.setCell ⟨b,2,none⟩ (.int .i64 t))):=by
      show StepD _ _ _ _ _ _ _ _ _ _
      rw[HNM.out]
      exact zp_ (k:=0) (HR2.out.at_ (q:=t) ht2) (HB2.out.setCell (p:=⟨b,2,none⟩) (Nat.le_refl _) _)
     clear hR hb2 HNM
     go_wp2_with fail
     exact bodyPost_ret (v:=.tuple #[]) (by simp[results,Tryz.results83,go_sem]) rfl HE.out
    ·rw[if_neg h16] at hNM
     have HNM:=hc_ hNM
     have h16i:¬ (16:Int)<(t:Int) - (p:Int) - 1:=by omega
     have hR2:=HH.out.at_ (q:=t) ht2
     have HR2:=hc_ hR2
     have HRK:Hid (RdK .i64 (w.setCell ⟨b,2,none⟩ (.int .i64 t)) b (some ⟨bA,oA+(p+1),none⟩) (t - (p+1)) (X.cc - (p+1)) ((X.L.drop (p+1)).take (t - (p+1)))):=by
      have h1:=hR2.chars
      rw[HA.out] at h1
      exact (h1.drop (m:=p+1) (by omega)).take (by omega)
     have HLT:Hid (∀ x∈(X.L.drop (p+1)).take (t - (p+1)),0≤x∧x<128):=fun x hx=>by
      obtain ⟨j,hj,e⟩:=List.getElem_of_mem hx
      have h1:((X.L.drop (p+1)).take (t - (p+1)))[j]?=some x:=by rw[List.getElem?_eq_getElem hj,e]
      have h2:j<t - (p+1):=by rw[List.length_take] at hj;omega
      rw[List.getElem?_take_of_lt h2,List.getElem?_drop] at h1
      exact nm_bd (HU.out.1 _ x (by omega) (by omega) h1)
     have hcc2:¬ X.cc=p+1:=by omega
     generalize (X.L.drop (p+1)).take (t - (p+1))=xs at *
     have hsz:b≤(w.setCell ⟨b,2,none⟩ (.int .i64 t)).heap.size:=by have:=HH.out.size;simp;omega
     have HC:=hc_ (dtext_any HRK.out hsz (by omega) HLT.out)
     have HBW:Hid (Below b w (w.setCell ⟨b,2,none⟩ (.int .i64 t))):=(Below.refl b w).setCell (p:=⟨b,2,none⟩) (Nat.le_refl _) _
     have htp:((t - (p+1):Nat):Int)=(t:Int) - ((p:Int)+1):=by omega
     clear HU hNM HM HR hR2 HRK HLT hsz
     go_wp2_with fail
     refine HC.out.mono ?_
     rintro e w2 ⟨rfl,hb2⟩
     have HRW:=hc_ (HR2.out.below hb2)
     have HB2:=hc_ (HBW.out.trans (hb2.mono (by have:=HR2.out.size;omega)))
     clear hb2 HC HR2 HBW
     go_wp2_with fail
     refine (zr_ HRW.out 1 0 0 0 xs (i:=p) (Nat.le_of_lt hp) hts).mono ?_
     rintro e w3 ⟨rfl,⟨tv3,hR3⟩,hb3⟩
     have HE:Hid (StepD X b w p o ts wr r (.returned (.tuple #[])) w3):=by
      show StepD _ _ _ _ _ _ _ _ _ _
      rw[HNM.out]
      refine ⟨rfl,HB2.out.trans hb3,tv3,?_⟩
      rw[show p+(t - (p+1))+1=t by omega]
      exact hR3
     clear hR3 hb3 HRW HNM
     go_wp2_with fail
     exact bodyPost_ret (v:=.tuple #[]) (by simp[results,Tryz.results83,go_sem]) rfl HE.out
end
open Q (R isC plainB digV numS uS escS readS)

theorem rdigit_any (c:Int) (w:World):Calls Tryz.prog 142 #[.int .i64 c] w fun e w' => e=.returned (.int .i64 (digV c))∧w=w' := by
 go_enter Tryz.func142,Tryz.ntmps142
 go_wp2
 all_goals
  go_ret
  refine ⟨ret_i64 ?_,rfl⟩
  unfold Q.digV
  split <;> (try split) <;> (try split) <;> omega
def RdP3 (p:Nat) (r:R) (e:Ending):Prop:=match r with
 | .ok c k=>e=.returned (.tuple #[.int .i64 c,.int .i64 k,.int .i64 0])
 | .bad x=>e=.returned (.tuple #[.int .i64 0,.int .i64 p,.int .i64 x])
def RdP4 (w:World) (p:Nat) (r:R) (e:Ending) (w' : World):Prop:=w=w' ∧ RdP3 p r e
theorem rdp_ok {p k:Nat}{c kk:Int}(h:kk=(k:Int)):RdP3 p (.ok c k) (.returned (.tuple #[.int .i64 c,.int .i64 kk,.int .i64 0])):=by subst h;rfl
theorem pow_bd {d:Nat}{v:Int}(h:v<16 ^ d) (hd:d≤6):v≤16777215:=by
 have:d=0∨d=1∨d=2∨d=3∨d=4∨d=5∨d=6:=by omega
 rcases this with rfl|rfl|rfl|rfl|rfl|rfl|rfl <;> simp at h <;> omega
set_option maxHeartbeats 4000000 in
theorem rnumber_any {w:World}{B:Nat}{A:Option Addr}{n c:Nat}{L:List Int}(h:RdK .i64 w B A n c L) (hn:n≤4000){p:Nat}(hp:p+2≤n) :
  Calls Tryz.prog 122 #[.slice A n c,.int .i64 p] w (RdP4 w p (uS (L.drop (p+2)) (p+2))):=by
 have HH:=hc_ h
 have HL:=hc_ h.len
 generalize hr:uS (L.drop (p+2)) (p+2)=r
 have HR:=hc_ hr
 clear h hr
 go_enter Tryz.func122,Tryz.ntmps122
 go_wp2_with fail
 go_loopw [7,8,9] (fun nv dv iv wx=>∃ (i d:Nat) (v:Int),p+2≤i∧i≤n∧iv=.int .i64 i∧dv=.int .i64 d∧nv=.int .i64 v∧d≤6∧0≤v∧w=wx∧Hid (i=p+2→d=0∧v=0)∧Hid (p+2<i→r=numS (L.drop i) d v i)∧Hid (v<16 ^ d)) (fun _ _ iv _=>n - (intOf iv).toNat)
 case atStart=>exact ⟨p+2,0,0,by omega,by omega,by go_num,rfl,rfl,by omega,by omega,by trivial,fun _=>⟨rfl,rfl⟩,fun h=>by omega,by show (0:Int)<1;omega⟩
 case round =>
  obtain ⟨i,d,v,hi1,hi2,rfl,rfl,rfl,hd6,hv0,rfl,HZ,HQ,HP16⟩:=hrel
  by_cases hlt:i<n
  ·obtain ⟨b1,o1,y,rfl,_,hy,hc⟩:=HH.out.got hlt
   have HY:=hc_ hy
   obtain ⟨hdv0,hdv1⟩:=Q.digV_bd y
   have HC:=rdigit_any y w
   clear hy
   by_cases hip:i=p+2
   ·subst hip
    obtain ⟨rfl,rfl⟩:=HZ.out rfl
    have hU:r=if y=123 then numS (L.drop (p+2+1)) 0 0 (p+2+1) else .bad 6:=by rw[← HR.out,drop_atQ HY.out];rfl
    by_cases h123:y=123
    ·rw[if_pos h123] at hU
     have HU:=hc_ hU
     subst h123
     clear HZ HQ hU HY
     go_wp2_with fail
     refine HC.mono ?_
     rintro e w1 ⟨rfl,rfl⟩
     clear HC
     go_wp2_with fail
     go_roundw
     case rel=>exact ⟨p+2+1,0,0,by omega,by omega,by go_num,rfl,rfl,by omega,by omega,by trivial,fun h=>by omega,fun _=>HU.out,HP16.out⟩
     case measure=>simp[intOf];omega
    ·rw[if_neg h123] at hU
     have HE:Hid (RdP4 w p r (.returned (.tuple #[.int .i64 0,.int .i64 p,.int .i64 6])) w):=⟨rfl,by rw[hU];rfl⟩
     clear HZ HQ hU HY
     go_wp2_with fail
     refine HC.mono ?_
     rintro e w1 ⟨rfl,rfl⟩
     clear HC
     go_wp2_with fail
     exact bodyPost_ret (v:=.tuple #[.int .i64 0,.int .i64 p,.int .i64 6]) (by simp[results,Tryz.results122,go_sem]) rfl HE.out
   ·have gip:¬ (i:Int)=(p:Int)+2:=by omega
    have hv1:=pow_bd HP16.out hd6
    have HNR:Hid (r=if y=125∧0<d∧isC v=true then .ok v (i+1) else if digV y<0∨d=6 then .bad 6 else numS (L.drop (i+1)) (d+1) (v*16+digV y) (i+1)):=by
     show _=_
     rw[HQ.out (by omega),drop_atQ HY.out,Q.numS]
    clear HZ HQ
    go_wp2_with fail
    refine HC.mono ?_
    rintro e w1 ⟨rfl,rfl⟩
    clear HC
    by_cases h125:y=125
    ·by_cases hd0:0<d
     ·have hd0i:(0:Int)<(d:Int):=by omega
      by_cases hvt:v≤1114111
      ·have HE:Hid (RdP4 w p r (.returned (.tuple #[.int .i64 v,.int .i64 ((i:Int)+1),.int .i64 0])) w):=⟨rfl,by rw[HNR.out,if_pos ⟨h125,hd0,(Q.isC_iff v).2 ⟨hv0,hvt⟩⟩];exact rdp_ok (by omega)⟩
       subst h125
       clear HNR HP16
       go_wp2_with fail
       exact bodyPost_ret (v:=.tuple #[.int .i64 v,.int .i64 ((i:Int)+1),.int .i64 0]) (by simp[results,Tryz.results122,go_sem]) rfl HE.out
      ·have HN1:Hid (¬ (y=125∧0<d∧isC v=true)):=fun h=>hvt ((Q.isC_iff v).1 h.2.2).2
       have g125:(y == 125)=true:=by simpa using h125
       clear h125 HY
       by_cases hdv:digV y<0
       ·have HE:Hid (RdP4 w p r (.returned (.tuple #[.int .i64 0,.int .i64 p,.int .i64 6])) w):=⟨rfl,by rw[HNR.out,if_neg HN1.out,if_pos (.inl hdv)];rfl⟩
        clear HNR HN1 HP16
        go_wp2_with fail
        exact bodyPost_ret (v:=.tuple #[.int .i64 0,.int .i64 p,.int .i64 6]) (by simp[results,Tryz.results122,go_sem]) rfl HE.out
       ·by_cases hd6:d=6
        ·have HE:Hid (RdP4 w p r (.returned (.tuple #[.int .i64 0,.int .i64 p,.int .i64 6])) w):=⟨rfl,by rw[HNR.out,if_neg HN1.out,if_pos (.inr hd6)];rfl⟩
         subst hd6
         clear HNR HN1 HP16
         go_wp2_with fail
         exact bodyPost_ret (v:=.tuple #[.int .i64 0,.int .i64 p,.int .i64 6]) (by simp[results,Tryz.results122,go_sem]) rfl HE.out
        ·have HR2:Hid (r=numS (L.drop (i+1)) (d+1) (v*16+digV y) (i+1)):=by
          show _=_
          rw[HNR.out,if_neg HN1.out,if_neg (by rintro (h|h);exact hdv h;exact hd6 h)]
         have HP2:Hid (v*16+digV y<16 ^ (d+1)):=by show _<_;have:=HP16.out;rw[Int.pow_succ];omega
         have g6:((d:Int) == 6)=false:=by simp;omega
         clear HNR HN1 HP16
         go_wp2_with fail
         go_roundw
         case rel=>exact ⟨i+1,d+1,v*16+digV y,by omega,by omega,by go_num,by go_num,rfl,by omega,by omega,by trivial,fun h=>by omega,fun _=>HR2.out,HP2.out⟩
         case measure=>simp[intOf];omega
     ·have HN1:Hid (¬ (y=125∧0<d∧isC v=true)):=fun h=>hd0 h.2.1
      have g125:(y == 125)=true:=by simpa using h125
      have hd0i:¬ (0:Int)<(d:Int):=by omega
      clear h125 HY
      by_cases hdv:digV y<0
      ·have HE:Hid (RdP4 w p r (.returned (.tuple #[.int .i64 0,.int .i64 p,.int .i64 6])) w):=⟨rfl,by rw[HNR.out,if_neg HN1.out,if_pos (.inl hdv)];rfl⟩
       clear HNR HN1 HP16
       go_wp2_with fail
       exact bodyPost_ret (v:=.tuple #[.int .i64 0,.int .i64 p,.int .i64 6]) (by simp[results,Tryz.results122,go_sem]) rfl HE.out
      ·by_cases hd6:d=6
       ·exact absurd hd6 (by omega)
       ·have HR2:Hid (r=numS (L.drop (i+1)) (d+1) (v*16+digV y) (i+1)):=by
         show _=_
         rw[HNR.out,if_neg HN1.out,if_neg (by rintro (h|h);exact hdv h;exact hd6 h)]
        have HP2:Hid (v*16+digV y<16 ^ (d+1)):=by show _<_;have:=HP16.out;rw[Int.pow_succ];omega
        have g6:((d:Int) == 6)=false:=by simp;omega
        clear HNR HN1 HP16
        go_wp2_with fail
        go_roundw
        case rel=>exact ⟨i+1,d+1,v*16+digV y,by omega,by omega,by go_num,by go_num,rfl,by omega,by omega,by trivial,fun h=>by omega,fun _=>HR2.out,HP2.out⟩
        case measure=>simp[intOf];omega
    ·have HN1:Hid (¬ (y=125∧0<d∧isC v=true)):=fun h=>h125 h.1
     have g125:(y == 125)=false:=by simpa using h125
     clear HY
     by_cases hdv:digV y<0
     ·have HE:Hid (RdP4 w p r (.returned (.tuple #[.int .i64 0,.int .i64 p,.int .i64 6])) w):=⟨rfl,by rw[HNR.out,if_neg HN1.out,if_pos (.inl hdv)];rfl⟩
      clear HNR HN1 HP16
      go_wp2_with fail
      exact bodyPost_ret (v:=.tuple #[.int .i64 0,.int .i64 p,.int .i64 6]) (by simp[results,Tryz.results122,go_sem]) rfl HE.out
     ·by_cases hd6:d=6
      ·have HE:Hid (RdP4 w p r (.returned (.tuple #[.int .i64 0,.int .i64 p,.int .i64 6])) w):=⟨rfl,by rw[HNR.out,if_neg HN1.out,if_pos (.inr hd6)];rfl⟩
       subst hd6
       clear HNR HN1 HP16
       go_wp2_with fail
       exact bodyPost_ret (v:=.tuple #[.int .i64 0,.int .i64 p,.int .i64 6]) (by simp[results,Tryz.results122,go_sem]) rfl HE.out
      ·have HR2:Hid (r=numS (L.drop (i+1)) (d+1) (v*16+digV y) (i+1)):=by
        show _=_
        rw[HNR.out,if_neg HN1.out,if_neg (by rintro (h|h);exact hdv h;exact hd6 h)]
       have HP2:Hid (v*16+digV y<16 ^ (d+1)):=by show _<_;have:=HP16.out;rw[Int.pow_succ];omega
       have g6:((d:Int) == 6)=false:=by simp;omega
       clear HNR HN1 HP16
       go_wp2_with fail
       go_roundw
       case rel=>exact ⟨i+1,d+1,v*16+digV y,by omega,by omega,by go_num,by go_num,rfl,by omega,by omega,by trivial,fun h=>by omega,fun _=>HR2.out,HP2.out⟩
       case measure=>simp[intOf];omega
  ·have HE:Hid (RdP4 w p r (.returned (.tuple #[.int .i64 0,.int .i64 p,.int .i64 5])) w):=⟨rfl,by
    have hin:i=n:=by omega
    have hd:L.drop i=[]:=List.drop_eq_nil_of_le (by rw[HL.out,hin];exact Nat.le_refl _)
    rcases Nat.lt_or_ge (p+2) i with h|h
    ·rw[HQ.out h,hd];rfl
    ·rw[← HR.out,show p+2=i by omega,hd];rfl⟩
   clear HZ HQ HP16
   go_wp2_with fail
   exact bodyPost_ret (v:=.tuple #[.int .i64 0,.int .i64 p,.int .i64 5]) (by simp[results,Tryz.results122,go_sem]) rfl HE.out
set_option maxHeartbeats 4000000 in
theorem rread_any {w:World}{B:Nat}{A:Option Addr}{n c:Nat}{L:List Int}(h:RdK .i64 w B A n c L) (hn:n≤4000){i:Nat}(hi:i≤n) (hC:∀ x∈L,isC x=true) :
  Calls Tryz.prog 103 #[.slice A n c,.int .i64 i] w (RdP4 w i (readS (L.drop i) i)):=by
 have HH:=hc_ h
 have HL:=hc_ h.len
 generalize hr:readS (L.drop i) i=r
 have HR:=hc_ hr
 have HCC:=hc_ hC
 have hi0:¬ (i:Int)<0:=by omega
 clear h hr hC
 by_cases hlt:i<n
 ·have g0:((i:Int) == (n:Int))=false:=by simp;omega
  obtain ⟨b1,o1,y,rfl,_,hy,hc⟩:=HH.out.got hlt
  have hyC:=HCC.out y (List.mem_of_getElem? hy)
  have hU:r=if y=92 then escS (L.drop (i+1)) (i+1) else .ok y (i+1):=by
   rw[← HR.out,drop_atQ hy]
   show (if y=92 then _ else if isC y=true then _ else _)=_
   rw[if_pos hyC]
  clear hy hyC HCC HR
  by_cases h92:y=92
  ·subst h92
   rw[if_pos rfl] at hU
   by_cases hl1:i+1<n
   ·obtain ⟨b2,o2,z,hA,_,hz,hcz⟩:=HH.out.got hl1
    injection hA with hA
    injection hA with e1 e2 _
    subst e1 e2
    rw[drop_atQ hz] at hU
    have g1:((i:Int)+1 == (n:Int))=false:=by simp;omega
    have HU:Hid (r=if z=117 then uS (L.drop (i+1+1)) (i+1+1) else if z=110 then .ok 10 (i+1+1) else if z=116 then .ok 9 (i+1+1) else if 33≤z∧z≤126∧plainB z=false then .ok z (i+1+1) else .bad 6):=hU
    clear hU hz
    by_cases h110:z=110
    ·subst h110
     have hv:r=.ok 10 (i+1+1):=HU.out
     have HE:Hid (RdP4 w i r (.returned (.tuple #[.int .i64 10,.int .i64 ((i:Int)+2),.int .i64 0])) w):=⟨rfl,by rw[hv];exact rdp_ok (by omega)⟩
     clear hv HU
     go_enter Tryz.func103,Tryz.ntmps103
     go_wp2_with fail
     exact bodyPost_ret (v:=.tuple #[.int .i64 10,.int .i64 ((i:Int)+2),.int .i64 0]) (by simp[results,Tryz.results103,go_sem]) rfl HE.out
    ·by_cases h116:z=116
     ·subst h116
      have hv:r=.ok 9 (i+1+1):=HU.out
      have HE:Hid (RdP4 w i r (.returned (.tuple #[.int .i64 9,.int .i64 ((i:Int)+2),.int .i64 0])) w):=⟨rfl,by rw[hv];exact rdp_ok (by omega)⟩
      clear hv HU
      go_enter Tryz.func103,Tryz.ntmps103
      go_wp2_with fail
      exact bodyPost_ret (v:=.tuple #[.int .i64 9,.int .i64 ((i:Int)+2),.int .i64 0]) (by simp[results,Tryz.results103,go_sem]) rfl HE.out
     ·by_cases h117:z=117
      ·subst h117
       have HC:=hc_ (rnumber_any HH.out hn (p:=i) (by omega))
       rw[← show r=uS (L.drop (i+2)) (i+2) from HU.out] at HC
       clear HU
       go_enter Tryz.func103,Tryz.ntmps103
       go_wp2_with fail
       refine HC.out.mono ?_
       rintro e w1 ⟨rfl,hP⟩
       clear HC
       cases r with
       | ok c k =>
        subst hP
        have HE:Hid (RdP4 w i (.ok c k) (.returned (.tuple #[.int .i64 c,.int .i64 k,.int .i64 0])) w):=⟨rfl,rfl⟩
        go_wp2_with fail
        exact bodyPost_ret (v:=.tuple #[.int .i64 c,.int .i64 k,.int .i64 0]) (by simp[results,Tryz.results103,go_sem]) rfl HE.out
       | bad x =>
        subst hP
        have HE:Hid (RdP4 w i (.bad x) (.returned (.tuple #[.int .i64 0,.int .i64 i,.int .i64 x])) w):=⟨rfl,rfl⟩
        go_wp2_with fail
        exact bodyPost_ret (v:=.tuple #[.int .i64 0,.int .i64 i,.int .i64 x]) (by simp[results,Tryz.results103,go_sem]) rfl HE.out
      ·have hU2:=HU.out
       rw[if_neg h117,if_neg h110,if_neg h116] at hU2
       clear HU
       have q110:(z == 110)=false:=by simpa using h110
       have q116:(z == 116)=false:=by simpa using h116
       have q117:(z == 117)=false:=by simpa using h117
       by_cases h33:33≤z
       ·by_cases h126:z≤126
        ·have HC:=rqplain_any z w
         cases hpl:plainB z with
         | false =>
          rw[hpl] at HC
          have HE:Hid (RdP4 w i r (.returned (.tuple #[.int .i64 z,.int .i64 ((i:Int)+2),.int .i64 0])) w):=⟨rfl,by rw[hU2,if_pos ⟨h33,h126,hpl⟩];exact rdp_ok (by omega)⟩
          clear hU2 hpl
          go_enter Tryz.func103,Tryz.ntmps103
          go_wp2_with fail
          refine HC.mono ?_
          rintro e w1 ⟨rfl,rfl⟩
          clear HC
          go_wp2_with fail
          exact bodyPost_ret (v:=.tuple #[.int .i64 z,.int .i64 ((i:Int)+2),.int .i64 0]) (by simp[results,Tryz.results103,go_sem]) rfl HE.out
         | true =>
          rw[hpl] at HC
          have HE:Hid (RdP4 w i r (.returned (.tuple #[.int .i64 0,.int .i64 i,.int .i64 6])) w):=⟨rfl,by rw[hU2,if_neg (by rintro ⟨_,_,h⟩;rw[hpl] at h;cases h)];rfl⟩
          clear hU2 hpl
          go_enter Tryz.func103,Tryz.ntmps103
          go_wp2_with fail
          refine HC.mono ?_
          rintro e w1 ⟨rfl,rfl⟩
          clear HC
          go_wp2_with fail
          exact bodyPost_ret (v:=.tuple #[.int .i64 0,.int .i64 i,.int .i64 6]) (by simp[results,Tryz.results103,go_sem]) rfl HE.out
        ·have HE:Hid (RdP4 w i r (.returned (.tuple #[.int .i64 0,.int .i64 i,.int .i64 6])) w):=⟨rfl,by rw[hU2,if_neg (by rintro ⟨_,h,_⟩;exact h126 h)];rfl⟩
         clear hU2
         go_enter Tryz.func103,Tryz.ntmps103
         go_wp2_with fail
         exact bodyPost_ret (v:=.tuple #[.int .i64 0,.int .i64 i,.int .i64 6]) (by simp[results,Tryz.results103,go_sem]) rfl HE.out
       ·have HE:Hid (RdP4 w i r (.returned (.tuple #[.int .i64 0,.int .i64 i,.int .i64 6])) w):=⟨rfl,by rw[hU2,if_neg (by rintro ⟨h,_,_⟩;exact h33 h)];rfl⟩
        clear hU2
        go_enter Tryz.func103,Tryz.ntmps103
        go_wp2_with fail
        exact bodyPost_ret (v:=.tuple #[.int .i64 0,.int .i64 i,.int .i64 6]) (by simp[results,Tryz.results103,go_sem]) rfl HE.out
   ·have g1:(i:Int)+1=(n:Int):=by omega
    have HE:Hid (RdP4 w i r (.returned (.tuple #[.int .i64 0,.int .i64 i,.int .i64 5])) w):=⟨rfl,by rw[hU,List.drop_eq_nil_of_le (by rw[HL.out];omega)];rfl⟩
    have q1:((i:Int)+1 == (n:Int))=true:=by simpa using g1
    clear hU g1
    go_enter Tryz.func103,Tryz.ntmps103
    go_wp2_with fail
    exact bodyPost_ret (v:=.tuple #[.int .i64 0,.int .i64 i,.int .i64 5]) (by simp[results,Tryz.results103,go_sem]) rfl HE.out
  ·rw[if_neg h92] at hU
   have HE:Hid (RdP4 w i r (.returned (.tuple #[.int .i64 y,.int .i64 ((i:Int)+1),.int .i64 0])) w):=⟨rfl,by rw[hU];exact rdp_ok (by omega)⟩
   have q92:(y == 92)=false:=by simpa using h92
   have q93:(y != 92)=true:=by rw[bne_iff_ne];exact h92
   clear hU h92
   go_enter Tryz.func103,Tryz.ntmps103
   go_wp2_with fail
   exact bodyPost_ret (v:=.tuple #[.int .i64 y,.int .i64 ((i:Int)+1),.int .i64 0]) (by simp[results,Tryz.results103,go_sem]) rfl HE.out
 ·obtain rfl:i=n:=by omega
  have HE:Hid (RdP4 w i r (.returned (.tuple #[.int .i64 0,.int .i64 i,.int .i64 5])) w):=⟨rfl,by rw[← HR.out,List.drop_eq_nil_of_le (by rw[HL.out];exact Nat.le_refl _)];rfl⟩
  go_enter Tryz.func103,Tryz.ntmps103
  go_wp2_with fail
  exact bodyPost_ret (v:=.tuple #[.int .i64 0,.int .i64 i,.int .i64 5]) (by simp[results,Tryz.results103,go_sem]) rfl HE.out
open E (okb)
open Q (R isC readS)
open W (Tk St C chS markB)

theorem ok_isC {L:List Int}(h:L.all okb=true):∀ x∈L,isC x=true:=fun x hx=>by
 have:=List.all_eq_true.1 h x hx
 rw[E.okb_iff] at this
 exact (Q.isC_iff x).2 ⟨this.1,this.2.1⟩
def shC (d:Nat):C→C
 | .ok c n=>.ok c (n+d)
 | .bad k e=>.bad (k+d) e
theorem ch_sh (l:List Int) (k:Nat) (hk:k≤l.length):chS l k=shC k (chS (l.drop k) 0):=by
 unfold W.chS
 rw[List.drop_zero]
 by_cases hm:markB ((l.drop k).headD (-1))=true
 ·rw[if_pos hm,if_pos hm];simp[shC]
 ·rw[if_neg hm,if_neg hm]
  have h1:=read_sh k (l.drop k) 0
  rw[Nat.zero_add] at h1
  rw[h1]
  cases hr:readS (l.drop k) 0 with
  | ok c n=>rfl
  | bad e =>
   show (if e=5 then _ else _)=shC k (if e=5 then _ else _)
   by_cases h5:e=5
   ·rw[if_pos h5,if_pos h5];simp[shC];omega
   ·rw[if_neg h5,if_neg h5];simp[shC]
def CharD (X:Cx) (b:Nat) (w:World) (q o:Nat) (tv:Value) (ts:List Tk) (wr:Int) (r:C) (e:Ending) (w' : World):Prop :=
 Below b w w' ∧ match r with
 | .ok c m=>e=.returned (.int .i64 c)∧Rdx X b w' (q+m) o tv ts wr 0
 | .bad k er=>(er=4∨er=5∨er=6)∧∃ v:Int,e=.returned (.int .i64 v)∧Rdx X b w' q o tv ts (plc X.L (q+k):Nat) er
theorem mark_of {y:Int}(h:y=91∨y=93∨y=38∨y=45∨y=36∨y=35∨y=94∨y=10):markB y=true:=by unfold W.markB;exact decide_eq_true (by omega)
theorem mark_no {y:Int}(h:y≠91∧y≠93∧y≠38∧y≠45∧y≠36∧y≠35∧y≠94∧y≠10):markB y=false:=by unfold W.markB;exact decide_eq_false (by omega)
section
variable {X:Cx}{b:Nat}{w:World}{q o:Nat}{tv:Value}{ts:List Tk}{wr:Int}
theorem char_bad {w' : World}{k:Nat}{er v:Int}(h:Rdx X b w' q o tv ts (plc X.L (q+k):Nat) er) (hb:Below b w w') (he:er=4∨er=5∨er=6):CharD X b w q o tv ts wr (.bad k er) (.returned (.int .i64 v)) w' := ⟨hb,he,v,rfl,h⟩
set_option maxHeartbeats 8000000 in
theorem dchar_any (h:Rdx X b w q o tv ts wr 0):Calls Tryz.prog 84 #[.pointer (some ⟨b,0,none⟩)] w (CharD X b w q o tv ts wr (chS (X.L.drop q) 0)):=by
 have HH:=hc_ h
 obtain ⟨n1,n2,n3⟩:=h.nc
 have HN1:=hc_ n1
 obtain ⟨c0,c1,c2,c3,c4,c5,c6⟩:=h.cells
 have hq:=h.le
 have HC:=hc_ (ok_isC h.ok.ok)
 generalize hr:chS (X.L.drop q) 0=r
 have HR:=hc_ hr
 have hq0:¬ (q:Int)<0:=by omega
 clear h hr n1 n3
 by_cases hlt:q<X.nc
 ·obtain ⟨bA,oA,y,hA,hbA,hy,hcy⟩:=HH.out.chars.got hlt
  rw[hA] at c0
  have HA:=hc_ hA
  have hhd:=head_at X.L q hy
  have hU:r=if markB y=true then .bad 0 4 else match readS (X.L.drop q) 0 with | .ok c n=>.ok c n | .bad e=>if e=5 then .bad (X.L.drop q).length 5 else .bad 0 e:=by
   rw[← HR.out]
   unfold W.chS
   rw[List.drop_zero,hhd]
   cases readS (X.L.drop q) 0 <;> rfl
  have HU:=hc_ hU
  have g0:((q:Int) == (X.nc:Int))=false:=by simp;omega
  clear hA hy hhd hU HR
  go_enter Tryz.func84,Tryz.ntmps84
  go_wp2_with fail
  go_loopw [5] (fun kv wx=>∃ k:Nat,k≤8∧kv=.int .i64 k∧Hid (∃ nq,wx=w.drewN nq)∧(0<k→y≠91)∧(1<k→y≠93)∧(2<k→y≠38)∧(3<k→y≠45)∧(4<k→y≠36)∧(5<k→y≠35)∧(6<k→y≠94)∧(7<k→y≠10)) (fun kv _=>8 - (intOf kv).toNat)
  case atStart=>exact ⟨0,by omega,rfl,⟨0,rfl⟩,fun h=>by omega,fun h=>by omega,fun h=>by omega,fun h=>by omega,fun h=>by omega,fun h=>by omega,fun h=>by omega,fun h=>by omega⟩
  case round =>
   obtain ⟨k,hk8,rfl,HQ,y0,y1,y2,y3,y4,y5,y6,y7⟩:=hrel
   obtain ⟨nq0,rfl⟩:=HQ.out
   by_cases hk:k=8
   ·subst hk
    as_aux_lemma =>
    have HMK:Hid (markB y=false):=mark_no ⟨y0 (by omega),y1 (by omega),y2 (by omega),y3 (by omega),y4 (by omega),y5 (by omega),y6 (by omega),y7 (by omega)⟩
    have hU2:=HU.out
    rw[if_neg (by rw[HMK.out];decide)] at hU2
    have HU2:=hc_ hU2
    have hRD:=HH.out.drewN nq0
    have HRD:=hc_ hRD
    obtain ⟨d0,d1,d2,d3,d4,d5,d6⟩:=hRD.cells
    rw[HA.out] at d0
    have m2:=hRD.fr 2
    have HRR:=hc_ (rread_any hRD.chars (by omega) hq HC.out)
    rw[HA.out] at HRR
    have HBW:Hid (Below b w (w.drewN nq0)):=qb_ (Below.refl b w) nq0
    clear hRD hU2 HU HMK c0 c1 c2 c3 c4 c5 c6 hcy HC y0 y1 y2 y3 y4 y5 y6 y7
    go_wp2_with fail
    refine HRR.out.mono ?_
    rintro e w2 ⟨rfl,hP⟩
    have hsh:=read_sh q (X.L.drop q) 0
    rw[Nat.zero_add] at hsh
    rw[hsh] at hP
    cases hrd:readS (X.L.drop q) 0 with
    | ok cc m =>
     rw[hrd] at hP
     subst hP
     have hm:=(Q.read_in hrd).2.2
     rw[List.length_drop,HN1.out,Nat.zero_add] at hm
     have HE:Hid (CharD X b w q o tv ts wr r (.returned (.int .i64 cc)) ((w.drewN nq0).setCell ⟨b,2,none⟩ (.int .i64 ((m+q:Nat):Int)))):=by
      show CharD _ _ _ _ _ _ _ _ _ _ _
      rw[HU2.out,hrd]
      refine ⟨HBW.out.setCell (p:=⟨b,2,none⟩) (Nat.le_refl _) _,rfl,?_⟩
      have:=HRD.out.at_ (q:=m+q) (by omega)
      rw[Nat.add_comm q m]
      exact this
     clear HRR HU2 hrd hsh HRD HBW
     go_wp2_with fail
     exact bodyPost_ret (v:=.int .i64 cc) (by simp[results,Tryz.results84,go_sem]) rfl HE.out
    | bad x =>
     rw[hrd] at hP
     subst hP
     have hx:=read_errs hrd
     have hx0:(x == 0)=false:=by simp;omega
     by_cases h5:x=5
     ·subst h5
      have HE:Hid (∀ w', FailP X b (w.drewN nq0) q o tv ts wr 0 X.nc 5 (.returned (.tuple #[])) w' → CharD X b w q o tv ts wr r (.returned (.int .i64 0)) w'):=fun w' h=>by
       obtain ⟨_,h1,h2⟩:=h
       rw[if_pos rfl,if_pos rfl] at h1
       show CharD _ _ _ _ _ _ _ _ _ _ _
       rw[HU2.out,hrd]
       show CharD _ _ _ _ _ _ _ _ (.bad (X.L.drop q).length 5) _ _
       refine char_bad ?_ (HBW.out.trans h2) (.inr (.inl rfl))
       rw[List.length_drop,HN1.out,show q+(X.nc - q)=X.nc by omega]
       exact h1
      clear HRR HU2 hrd hsh
      go_wp2_with fail
      refine (qp_ HRD.out (i:=X.nc) (Nat.le_refl _) 5).mono ?_
      rintro e w3 hP
      obtain ⟨rfl,hR,hb2⟩:=hP
      have HE2:=hc_ (HE.out w3 ⟨rfl,hR,hb2⟩)
      clear hR hb2 HE
      go_wp2_with fail
      exact bodyPost_ret (v:=.int .i64 0) (by simp[results,Tryz.results84,go_sem]) rfl HE2.out
     ·have h6:x=6:=by omega
      subst h6
      have HE:Hid (∀ w', FailP X b (w.drewN nq0) q o tv ts wr 0 q 6 (.returned (.tuple #[])) w' → CharD X b w q o tv ts wr r (.returned (.int .i64 0)) w'):=fun w' h=>by
       obtain ⟨_,h1,h2⟩:=h
       rw[if_pos rfl,if_pos rfl] at h1
       show CharD _ _ _ _ _ _ _ _ _ _ _
       rw[HU2.out,hrd]
       exact char_bad (k:=0) h1 (HBW.out.trans h2) (.inr (.inr rfl))
      clear HRR HU2 hrd hsh
      go_wp2_with fail
      refine (qp_ HRD.out (i:=q) hq 6).mono ?_
      rintro e w3 hP
      obtain ⟨rfl,hR,hb2⟩:=hP
      have HE2:=hc_ (HE.out w3 ⟨rfl,hR,hb2⟩)
      clear hR hb2 HE
      go_wp2_with fail
      exact bodyPost_ret (v:=.int .i64 0) (by simp[results,Tryz.results84,go_sem]) rfl HE2.out
   ·have hk7:k=0∨k=1∨k=2∨k=3∨k=4∨k=5∨k=6∨k=7:=by omega
    rcases hk7 with rfl|rfl|rfl|rfl|rfl|rfl|rfl|rfl
    ·clear HQ
     by_cases hyk:y=91
     ·have HMK:Hid (r=.bad 0 4):=by
       show _=_
       rw[HU.out,if_pos (mark_of (by omega))]
      subst hyk
      have HE:Hid (∀ N w', FailP X b (w.drewN N) q o tv ts wr 0 q 4 (.returned (.tuple #[])) w' → CharD X b w q o tv ts wr r (.returned (.int .i64 0)) w'):=fun N w' h=>by
       obtain ⟨_,h1,h2⟩:=h
       rw[if_pos rfl,if_pos rfl] at h1
       show CharD _ _ _ _ _ _ _ _ _ _ _
       rw[HMK.out]
       exact char_bad (k:=0) h1 ((qb_ (Below.refl b w) N).trans h2) (.inl rfl)
      have hz:wrap64 ((((⟨#[91,93,38,45,36,35,94,10]⟩:ByteArray)[0]).toNat:Nat):Int)=91:=by first|rfl|kernel_rfl|(simp[wrap64])
      clear HMK HU
      go_wp2_with fail
      go_quiet (fail)
      go_wp2_with fail
      refine (qp_ (HH.out.drewN _) (i:=q) hq 4).mono ?_
      rintro e w3 hP
      obtain ⟨rfl,hR,hb2⟩:=hP
      have HE2:=hc_ (HE.out _ w3 ⟨rfl,hR,hb2⟩)
      clear hR hb2 HE
      go_wp2_with fail
      exact bodyPost_ret (v:=.int .i64 0) (by simp[results,Tryz.results84,go_sem]) rfl HE2.out
     ·have hyb:(y == 91)=false:=by simpa using hyk
      have hz:wrap64 ((((⟨#[91,93,38,45,36,35,94,10]⟩:ByteArray)[0]).toNat:Nat):Int)=91:=by first|rfl|kernel_rfl|(simp[wrap64])
      clear HU
      go_wp2_with fail
      go_quiet (fail)
      go_wp2_with fail
      go_roundw
      case rel=>exact ⟨1,by omega,by go_num,⟨_,rfl⟩,fun _=>hyk,fun h=>by omega,fun h=>by omega,fun h=>by omega,fun h=>by omega,fun h=>by omega,fun h=>by omega,fun h=>by omega⟩
      case measure=>simp[intOf]
    ·clear HQ
     by_cases hyk:y=93
     ·have HMK:Hid (r=.bad 0 4):=by
       show _=_
       rw[HU.out,if_pos (mark_of (by omega))]
      subst hyk
      have HE:Hid (∀ N w', FailP X b (w.drewN N) q o tv ts wr 0 q 4 (.returned (.tuple #[])) w' → CharD X b w q o tv ts wr r (.returned (.int .i64 0)) w'):=fun N w' h=>by
       obtain ⟨_,h1,h2⟩:=h
       rw[if_pos rfl,if_pos rfl] at h1
       show CharD _ _ _ _ _ _ _ _ _ _ _
       rw[HMK.out]
       exact char_bad (k:=0) h1 ((qb_ (Below.refl b w) N).trans h2) (.inl rfl)
      have hz:wrap64 ((((⟨#[91,93,38,45,36,35,94,10]⟩:ByteArray)[1]).toNat:Nat):Int)=93:=by first|rfl|kernel_rfl|(simp[wrap64])
      clear HMK HU
      go_wp2_with fail
      go_quiet (fail)
      go_wp2_with fail
      refine (qp_ (HH.out.drewN _) (i:=q) hq 4).mono ?_
      rintro e w3 hP
      obtain ⟨rfl,hR,hb2⟩:=hP
      have HE2:=hc_ (HE.out _ w3 ⟨rfl,hR,hb2⟩)
      clear hR hb2 HE
      go_wp2_with fail
      exact bodyPost_ret (v:=.int .i64 0) (by simp[results,Tryz.results84,go_sem]) rfl HE2.out
     ·have hyb:(y == 93)=false:=by simpa using hyk
      have hz:wrap64 ((((⟨#[91,93,38,45,36,35,94,10]⟩:ByteArray)[1]).toNat:Nat):Int)=93:=by first|rfl|kernel_rfl|(simp[wrap64])
      clear HU
      go_wp2_with fail
      go_quiet (fail)
      go_wp2_with fail
      go_roundw
      case rel=>exact ⟨2,by omega,by go_num,⟨_,rfl⟩,fun _=>y0 (by omega),fun _=>hyk,fun h=>by omega,fun h=>by omega,fun h=>by omega,fun h=>by omega,fun h=>by omega,fun h=>by omega⟩
      case measure=>simp[intOf]
    ·clear HQ
     by_cases hyk:y=38
     ·have HMK:Hid (r=.bad 0 4):=by
       show _=_
       rw[HU.out,if_pos (mark_of (by omega))]
      subst hyk
      have HE:Hid (∀ N w', FailP X b (w.drewN N) q o tv ts wr 0 q 4 (.returned (.tuple #[])) w' → CharD X b w q o tv ts wr r (.returned (.int .i64 0)) w'):=fun N w' h=>by
       obtain ⟨_,h1,h2⟩:=h
       rw[if_pos rfl,if_pos rfl] at h1
       show CharD _ _ _ _ _ _ _ _ _ _ _
       rw[HMK.out]
       exact char_bad (k:=0) h1 ((qb_ (Below.refl b w) N).trans h2) (.inl rfl)
      have hz:wrap64 ((((⟨#[91,93,38,45,36,35,94,10]⟩:ByteArray)[2]).toNat:Nat):Int)=38:=by first|rfl|kernel_rfl|(simp[wrap64])
      clear HMK HU
      go_wp2_with fail
      go_quiet (fail)
      go_wp2_with fail
      refine (qp_ (HH.out.drewN _) (i:=q) hq 4).mono ?_
      rintro e w3 hP
      obtain ⟨rfl,hR,hb2⟩:=hP
      have HE2:=hc_ (HE.out _ w3 ⟨rfl,hR,hb2⟩)
      clear hR hb2 HE
      go_wp2_with fail
      exact bodyPost_ret (v:=.int .i64 0) (by simp[results,Tryz.results84,go_sem]) rfl HE2.out
     ·have hyb:(y == 38)=false:=by simpa using hyk
      have hz:wrap64 ((((⟨#[91,93,38,45,36,35,94,10]⟩:ByteArray)[2]).toNat:Nat):Int)=38:=by first|rfl|kernel_rfl|(simp[wrap64])
      clear HU
      go_wp2_with fail
      go_quiet (fail)
      go_wp2_with fail
      go_roundw
      case rel=>exact ⟨3,by omega,by go_num,⟨_,rfl⟩,fun _=>y0 (by omega),fun _=>y1 (by omega),fun _=>hyk,fun h=>by omega,fun h=>by omega,fun h=>by omega,fun h=>by omega,fun h=>by omega⟩
      case measure=>simp[intOf]
    ·clear HQ
     by_cases hyk:y=45
     ·have HMK:Hid (r=.bad 0 4):=by
       show _=_
       rw[HU.out,if_pos (mark_of (by omega))]
      subst hyk
      have HE:Hid (∀ N w', FailP X b (w.drewN N) q o tv ts wr 0 q 4 (.returned (.tuple #[])) w' → CharD X b w q o tv ts wr r (.returned (.int .i64 0)) w'):=fun N w' h=>by
       obtain ⟨_,h1,h2⟩:=h
       rw[if_pos rfl,if_pos rfl] at h1
       show CharD _ _ _ _ _ _ _ _ _ _ _
       rw[HMK.out]
       exact char_bad (k:=0) h1 ((qb_ (Below.refl b w) N).trans h2) (.inl rfl)
      have hz:wrap64 ((((⟨#[91,93,38,45,36,35,94,10]⟩:ByteArray)[3]).toNat:Nat):Int)=45:=by first|rfl|kernel_rfl|(simp[wrap64])
      clear HMK HU
      go_wp2_with fail
      go_quiet (fail)
      go_wp2_with fail
      refine (qp_ (HH.out.drewN _) (i:=q) hq 4).mono ?_
      rintro e w3 hP
      obtain ⟨rfl,hR,hb2⟩:=hP
      have HE2:=hc_ (HE.out _ w3 ⟨rfl,hR,hb2⟩)
      clear hR hb2 HE
      go_wp2_with fail
      exact bodyPost_ret (v:=.int .i64 0) (by simp[results,Tryz.results84,go_sem]) rfl HE2.out
     ·have hyb:(y == 45)=false:=by simpa using hyk
      have hz:wrap64 ((((⟨#[91,93,38,45,36,35,94,10]⟩:ByteArray)[3]).toNat:Nat):Int)=45:=by first|rfl|kernel_rfl|(simp[wrap64])
      clear HU
      go_wp2_with fail
      go_quiet (fail)
      go_wp2_with fail
      go_roundw
      case rel=>exact ⟨4,by omega,by go_num,⟨_,rfl⟩,fun _=>y0 (by omega),fun _=>y1 (by omega),fun _=>y2 (by omega),fun _=>hyk,fun h=>by omega,fun h=>by omega,fun h=>by omega,fun h=>by omega⟩
      case measure=>simp[intOf]
    ·clear HQ
     by_cases hyk:y=36
     ·have HMK:Hid (r=.bad 0 4):=by
       show _=_
       rw[HU.out,if_pos (mark_of (by omega))]
      subst hyk
      have HE:Hid (∀ N w', FailP X b (w.drewN N) q o tv ts wr 0 q 4 (.returned (.tuple #[])) w' → CharD X b w q o tv ts wr r (.returned (.int .i64 0)) w'):=fun N w' h=>by
       obtain ⟨_,h1,h2⟩:=h
       rw[if_pos rfl,if_pos rfl] at h1
       show CharD _ _ _ _ _ _ _ _ _ _ _
       rw[HMK.out]
       exact char_bad (k:=0) h1 ((qb_ (Below.refl b w) N).trans h2) (.inl rfl)
      have hz:wrap64 ((((⟨#[91,93,38,45,36,35,94,10]⟩:ByteArray)[4]).toNat:Nat):Int)=36:=by first|rfl|kernel_rfl|(simp[wrap64])
      clear HMK HU
      go_wp2_with fail
      go_quiet (fail)
      go_wp2_with fail
      refine (qp_ (HH.out.drewN _) (i:=q) hq 4).mono ?_
      rintro e w3 hP
      obtain ⟨rfl,hR,hb2⟩:=hP
      have HE2:=hc_ (HE.out _ w3 ⟨rfl,hR,hb2⟩)
      clear hR hb2 HE
      go_wp2_with fail
      exact bodyPost_ret (v:=.int .i64 0) (by simp[results,Tryz.results84,go_sem]) rfl HE2.out
     ·have hyb:(y == 36)=false:=by simpa using hyk
      have hz:wrap64 ((((⟨#[91,93,38,45,36,35,94,10]⟩:ByteArray)[4]).toNat:Nat):Int)=36:=by first|rfl|kernel_rfl|(simp[wrap64])
      clear HU
      go_wp2_with fail
      go_quiet (fail)
      go_wp2_with fail
      go_roundw
      case rel=>exact ⟨5,by omega,by go_num,⟨_,rfl⟩,fun _=>y0 (by omega),fun _=>y1 (by omega),fun _=>y2 (by omega),fun _=>y3 (by omega),fun _=>hyk,fun h=>by omega,fun h=>by omega,fun h=>by omega⟩
      case measure=>simp[intOf]
    ·clear HQ
     by_cases hyk:y=35
     ·have HMK:Hid (r=.bad 0 4):=by
       show _=_
       rw[HU.out,if_pos (mark_of (by omega))]
      subst hyk
      have HE:Hid (∀ N w', FailP X b (w.drewN N) q o tv ts wr 0 q 4 (.returned (.tuple #[])) w' → CharD X b w q o tv ts wr r (.returned (.int .i64 0)) w'):=fun N w' h=>by
       obtain ⟨_,h1,h2⟩:=h
       rw[if_pos rfl,if_pos rfl] at h1
       show CharD _ _ _ _ _ _ _ _ _ _ _
       rw[HMK.out]
       exact char_bad (k:=0) h1 ((qb_ (Below.refl b w) N).trans h2) (.inl rfl)
      have hz:wrap64 ((((⟨#[91,93,38,45,36,35,94,10]⟩:ByteArray)[5]).toNat:Nat):Int)=35:=by first|rfl|kernel_rfl|(simp[wrap64])
      clear HMK HU
      go_wp2_with fail
      go_quiet (fail)
      go_wp2_with fail
      refine (qp_ (HH.out.drewN _) (i:=q) hq 4).mono ?_
      rintro e w3 hP
      obtain ⟨rfl,hR,hb2⟩:=hP
      have HE2:=hc_ (HE.out _ w3 ⟨rfl,hR,hb2⟩)
      clear hR hb2 HE
      go_wp2_with fail
      exact bodyPost_ret (v:=.int .i64 0) (by simp[results,Tryz.results84,go_sem]) rfl HE2.out
     ·have hyb:(y == 35)=false:=by simpa using hyk
      have hz:wrap64 ((((⟨#[91,93,38,45,36,35,94,10]⟩:ByteArray)[5]).toNat:Nat):Int)=35:=by first|rfl|kernel_rfl|(simp[wrap64])
      clear HU
      go_wp2_with fail
      go_quiet (fail)
      go_wp2_with fail
      go_roundw
      case rel=>exact ⟨6,by omega,by go_num,⟨_,rfl⟩,fun _=>y0 (by omega),fun _=>y1 (by omega),fun _=>y2 (by omega),fun _=>y3 (by omega),fun _=>y4 (by omega),fun _=>hyk,fun h=>by omega,fun h=>by omega⟩
      case measure=>simp[intOf]
    ·clear HQ
     by_cases hyk:y=94
     ·have HMK:Hid (r=.bad 0 4):=by
       show _=_
       rw[HU.out,if_pos (mark_of (by omega))]
      subst hyk
      have HE:Hid (∀ N w', FailP X b (w.drewN N) q o tv ts wr 0 q 4 (.returned (.tuple #[])) w' → CharD X b w q o tv ts wr r (.returned (.int .i64 0)) w'):=fun N w' h=>by
       obtain ⟨_,h1,h2⟩:=h
       rw[if_pos rfl,if_pos rfl] at h1
       show CharD _ _ _ _ _ _ _ _ _ _ _
       rw[HMK.out]
       exact char_bad (k:=0) h1 ((qb_ (Below.refl b w) N).trans h2) (.inl rfl)
      have hz:wrap64 ((((⟨#[91,93,38,45,36,35,94,10]⟩:ByteArray)[6]).toNat:Nat):Int)=94:=by first|rfl|kernel_rfl|(simp[wrap64])
      clear HMK HU
      go_wp2_with fail
      go_quiet (fail)
      go_wp2_with fail
      refine (qp_ (HH.out.drewN _) (i:=q) hq 4).mono ?_
      rintro e w3 hP
      obtain ⟨rfl,hR,hb2⟩:=hP
      have HE2:=hc_ (HE.out _ w3 ⟨rfl,hR,hb2⟩)
      clear hR hb2 HE
      go_wp2_with fail
      exact bodyPost_ret (v:=.int .i64 0) (by simp[results,Tryz.results84,go_sem]) rfl HE2.out
     ·have hyb:(y == 94)=false:=by simpa using hyk
      have hz:wrap64 ((((⟨#[91,93,38,45,36,35,94,10]⟩:ByteArray)[6]).toNat:Nat):Int)=94:=by first|rfl|kernel_rfl|(simp[wrap64])
      clear HU
      go_wp2_with fail
      go_quiet (fail)
      go_wp2_with fail
      go_roundw
      case rel=>exact ⟨7,by omega,by go_num,⟨_,rfl⟩,fun _=>y0 (by omega),fun _=>y1 (by omega),fun _=>y2 (by omega),fun _=>y3 (by omega),fun _=>y4 (by omega),fun _=>y5 (by omega),fun _=>hyk,fun h=>by omega⟩
      case measure=>simp[intOf]
    ·clear HQ
     by_cases hyk:y=10
     ·have HMK:Hid (r=.bad 0 4):=by
       show _=_
       rw[HU.out,if_pos (mark_of (by omega))]
      subst hyk
      have HE:Hid (∀ N w', FailP X b (w.drewN N) q o tv ts wr 0 q 4 (.returned (.tuple #[])) w' → CharD X b w q o tv ts wr r (.returned (.int .i64 0)) w'):=fun N w' h=>by
       obtain ⟨_,h1,h2⟩:=h
       rw[if_pos rfl,if_pos rfl] at h1
       show CharD _ _ _ _ _ _ _ _ _ _ _
       rw[HMK.out]
       exact char_bad (k:=0) h1 ((qb_ (Below.refl b w) N).trans h2) (.inl rfl)
      have hz:wrap64 ((((⟨#[91,93,38,45,36,35,94,10]⟩:ByteArray)[7]).toNat:Nat):Int)=10:=by first|rfl|kernel_rfl|(simp[wrap64])
      clear HMK HU
      go_wp2_with fail
      go_quiet (fail)
      go_wp2_with fail
      refine (qp_ (HH.out.drewN _) (i:=q) hq 4).mono ?_
      rintro e w3 hP
      obtain ⟨rfl,hR,hb2⟩:=hP
      have HE2:=hc_ (HE.out _ w3 ⟨rfl,hR,hb2⟩)
      clear hR hb2 HE
      go_wp2_with fail
      exact bodyPost_ret (v:=.int .i64 0) (by simp[results,Tryz.results84,go_sem]) rfl HE2.out
     ·have hyb:(y == 10)=false:=by simpa using hyk
      have hz:wrap64 ((((⟨#[91,93,38,45,36,35,94,10]⟩:ByteArray)[7]).toNat:Nat):Int)=10:=by first|rfl|kernel_rfl|(simp[wrap64])
      clear HU
      go_wp2_with fail
      go_quiet (fail)
      go_wp2_with fail
      go_roundw
      case rel=>exact ⟨8,by omega,by go_num,⟨_,rfl⟩,fun _=>y0 (by omega),fun _=>y1 (by omega),fun _=>y2 (by omega),fun _=>y3 (by omega),fun _=>y4 (by omega),fun _=>y5 (by omega),fun _=>y6 (by omega),fun _=>hyk⟩
      case measure=>simp[intOf]

 ·obtain rfl:q=X.nc:=by omega
  have HE:Hid (∀ w', FailP X b w X.nc o tv ts wr 0 X.nc 5 (.returned (.tuple #[])) w' → CharD X b w X.nc o tv ts wr r (.returned (.int .i64 0)) w'):=fun w' h=>by
   obtain ⟨_,h1,h2⟩:=h
   rw[if_pos rfl,if_pos rfl] at h1
   show CharD _ _ _ _ _ _ _ _ _ _ _
   rw[← HR.out,List.drop_eq_nil_of_le (by rw[HN1.out];exact Nat.le_refl _)]
   exact char_bad (k:=0) h1 h2 (.inr (.inl rfl))
  have g0:((X.nc:Int) == (X.nc:Int))=true:=by simp
  go_enter Tryz.func84,Tryz.ntmps84
  go_wp2_with fail
  refine (qp_ HH.out (i:=X.nc) (Nat.le_refl _) 5).mono ?_
  rintro e w2 hP
  obtain ⟨rfl,hR,hb2⟩:=hP
  have HE2:=hc_ (HE.out w2 ⟨rfl,hR,hb2⟩)
  clear hR hb2 HE
  go_wp2_with fail
  exact bodyPost_ret (v:=.int .i64 0) (by simp[results,Tryz.results84,go_sem]) rfl HE2.out
end
end Go.Proofs.YtbbmjdddemahfaaGreat
