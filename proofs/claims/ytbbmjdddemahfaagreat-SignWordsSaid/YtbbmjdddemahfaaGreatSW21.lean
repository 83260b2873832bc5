/- Part of the proof. -/
import Derived.Test.YtbbmjdddemahfaaGreatSW06
import Derived.StillTailTactics
set_option maxRecDepth 100000
namespace Go.Proofs.YtbbmjdddemahfaaGreat
open Go.RowKit
open Y (Nd It Ps nextP takeP failP noTok noName)

section
variable {b:Nat}{w:World}{e:Int}{o:Nat}{s:Ps}{A:Option Addr}{n c:Nat}
end

def set5 (w:World) (N:Nat) (a0 a1 a2 a3 a4:Value):World:=((((w.setCell ⟨N,0,none⟩ a0).setCell ⟨N,1,none⟩ a1).setCell ⟨N,2,none⟩ a2).setCell ⟨N,3,none⟩ a3).setCell ⟨N,4,none⟩ a4
theorem set5_row {w:World}{N:Nat}{x0 x1 x2 x3 x4:Value}{t:TypeId}(h:w.heap[N]?=some (.cells #[x0,x1,x2,x3,x4] t (0,0))) (a0 a1 a2 a3 a4:Value):(set5 w N a0 a1 a2 a3 a4).heap[N]?=some (.cells #[a0,a1,a2,a3,a4] t (0,0)) :=
 heap_setCell_same _ _ _ _ _ _ (heap_setCell_same _ _ _ _ _ _ (heap_setCell_same _ _ _ _ _ _ (heap_setCell_same _ _ _ _ _ _ (heap_setCell_same _ _ _ _ _ _ h))))
theorem zq_ (w:World) (N:Nat) (a0 a1 a2 a3 a4:Value):(set5 w N a0 a1 a2 a3 a4).heap.size=w.heap.size:=by simp[set5]
theorem set5_block (w:World) (N:Nat) (a0 a1 a2 a3 a4:Value){i:Nat}(hi:i≠N):(set5 w N a0 a1 a2 a3 a4).heap[i]?=w.heap[i]? :=
 (Below.heap_setCell _ _ _ _ hi).trans ((Below.heap_setCell _ _ _ _ hi).trans ((Below.heap_setCell _ _ _ _ hi).trans ((Below.heap_setCell _ _ _ _ hi).trans (Below.heap_setCell _ _ _ _ hi))))
theorem Fe.set5 {b:Nat}{a c:World}(h:Fe b a c){g:Nat}(hg:g=b∨a.heap.size≤g) (a0 a1 a2 a3 a4:Value):Fe b a (set5 c g a0 a1 a2 a3 a4) :=
 ((((h.set hg _ _).set hg _ _).set hg _ _).set hg _ _).set hg _ _
theorem ql_ {w:World}{N:Nat}{x0 x1 x2 x3 x4:Value}{t:TypeId}(h:w.heap[N]?=some (.cells #[x0,x1,x2,x3,x4] t (0,0))) :
  w.cell? ⟨N,0,none⟩=some x0∧w.cell? ⟨N,1,none⟩=some x1∧w.cell? ⟨N,2,none⟩=some x2∧w.cell? ⟨N,3,none⟩=some x3∧w.cell? ⟨N,4,none⟩=some x4:=by
 refine ⟨?_,?_,?_,?_,?_⟩ <;> (rw[cell_of_row _ _ _ _ _ _ h];rfl)
theorem zn_ {e:Int}{ks:List Int}{t:Tok}{u:List Tok}(h:ks.contains t.kind=true):takeP e ks (.live (t :: u))=(t,.live u):=by rw[Y.take_cons,if_pos h]
theorem take_no {e:Int}{ks:List Int}{s:Ps}(h:nextP ks s=false):takeP e ks s=(noTok,failP e 4 s):=by
 rcases s with (_|⟨t,u⟩)|⟨a,y⟩
 ·rfl
 ·rw[Y.take_cons];rw[Y.next_cons] at h;rw[if_neg (by rw[h];decide)];rfl
 ·rfl
section
variable {b:Nat}{w:World}{e:Int}{o:Nat}{s:Ps}{A:Option Addr}{n c:Nat}
end

open Y (Nd It Ps nextP takeP failP noTok noName formP orsP joinP piecesP pieceP bareP setP partsP partP heldP memberP)

section
variable {b N:Nat}{t:TypeId}{w w' : World}{e:Int}{o:Nat}{s:Ps}
def Box5 (w:World) (N:Nat) (t:TypeId):Prop:=∃ x0 x1 x2 x3 x4:Value,w.heap[N]?=some (.cells #[x0,x1,x2,x3,x4] t (0,0))
theorem Box5.fe (h:Box5 w N t) (hf:Fe b w w') (hN:N≠b) (hs:N<w.heap.size):Box5 w' N t:=by
 obtain ⟨x0,x1,x2,x3,x4,h⟩:=h
 exact ⟨x0,x1,x2,x3,x4,(hf.block N hs hN).trans h⟩
theorem Box5.facts (h:Box5 w N t):(∃ x0 x1 x2 x3 x4,w.cell? ⟨N,0,none⟩=some x0∧w.cell? ⟨N,1,none⟩=some x1∧w.cell? ⟨N,2,none⟩=some x2∧w.cell? ⟨N,3,none⟩=some x3∧w.cell? ⟨N,4,none⟩=some x4)∧∀ j,w.frozen? ⟨N,j,none⟩=false:=by
 obtain ⟨x0,x1,x2,x3,x4,h⟩:=h
 exact ⟨⟨x0,x1,x2,x3,x4,ql_ h⟩,fun j=>frozen_of_row _ _ _ _ _ h⟩
theorem Box5.set (h:Box5 w N t) (a0 a1 a2 a3 a4:Value):(set5 w N a0 a1 a2 a3 a4).heap[N]?=some (.cells #[a0,a1,a2,a3,a4] t (0,0)):=by
 obtain ⟨x0,x1,x2,x3,x4,h⟩:=h
 exact set5_row h _ _ _ _ _
end

def begN (w:World):World:=w.alloc (.cells #[.int .i64 0,.string { data:=#[] },.int .i64 0,.int .i64 0,.slice none 0 0] 77)
theorem begN_box (w:World):Box5 (begN w) w.heap.size 77:=⟨_,_,_,_,_,heap_alloc_new w _⟩
theorem begN_below (w:World):Below w.heap.size w (begN w):=qa_ w _
theorem begN_size (w:World):(begN w).heap.size=w.heap.size+1:=by simp[begN]

theorem Fe.grown {b:Nat}{a c d:World}{row:Option Nat}(h:Fe b a c) (hg:c.grownBy d row) (hr:∀ i,row=some i→a.heap.size≤i):Fe b a d :=
 ⟨hg.os.trans h.os,hg.tape.trans h.tape,hg.output.trans h.output,Nat.le_trans h.size hg.size,fun i hi hn=>(hg.block i (Nat.lt_of_lt_of_le hi h.size) (fun e=>by have:=hr i e.symm;omega)).trans (h.block i hi hn)⟩
theorem app_n {w:World}{ops:Array Oper}{rest:List Oper}{o:Oper}{a:Act}{Q:Exit→Act→World→Prop}(hgd:o.guard=none) (s x:Operand) 
  (ho:o.op=.call { callee:=.builtin .append,args:=#[s,x],argTypes:=#[75,75] })
  (base:Nat) (v:Value) (l:List Nd) (hs:a.eval s=v) (hown:OwnN w base v l) (N:Nat) (y:Nd) (x0 x1 x2 x3 x4:Value)
  (hx:a.eval x=.slice (some ⟨N,0,none⟩) 1 1) (hrow:w.heap[N]?=some (.cells #[x0,x1,x2,x3,x4] 77 (0,0))) (hy:NdAt w (fun b=>base≤b∧b<w.heap.size∧v.ownBlock≠some b) [x0,x1,x2,x3,x4] y)
  (h63:l.length≤1000000) (hbase:base≤w.heap.size)
  (h:∀ v' w', OwnN w' base v' (l++[y])→w.grownBy w' v.ownBlock→wpList Tryz.prog ops Q rest (a.put o.dst v') w'):wpList Tryz.prog ops Q (o :: rest) a w:=by
 obtain ⟨i0,hi0,hz0,hz1,hz2⟩:=info_k info_nd
 obtain ⟨cs,hc,hk⟩:=hown
 have h1:∀ u∈[x0,x1,x2,x3,x4],u.oneCell' = true:=by
  obtain ⟨A,n,c,e,_⟩:=hy.inv
  rw[e]
  intro u hu
  simp only[List.mem_cons,List.not_mem_nil,or_false] at hu
  rcases hu with rfl|rfl|rfl|rfl|rfl <;> rfl
 refine wpList_append_own_at w hgd s x 75 ho base 77 i0 _ 5 64 Tryz.underlying75 hi0 hz0 hz1 hz2 rfl (by decide) v l.length cs hs hc ⟨N,0,none⟩ 1 1 [x0,x1,x2,x3,x4] hx rfl ?_ h1 (by unfold maxLen;omega) (by omega) hbase ?_
 ·intro j u hu
  rw[qo_,cell_of_row _ _ _ _ _ _ hrow,Nat.zero_add]
  simpa using hu
 ·intro v' w' h2 h3 _ h4
  exact h v' w' (OwnN.push hk hc.1 hy rfl h2 h3 h4) h3
def litN (w:World) (x0 x1 x2 x3 x4:Value):World:=w.alloc (.cells #[x0,x1,x2,x3,x4] 77)
theorem litN_below (w:World) (x0 x1 x2 x3 x4:Value):Below w.heap.size w (litN w x0 x1 x2 x3 x4):=qa_ w _
theorem litN_size (w:World) (x0 x1 x2 x3 x4:Value):(litN w x0 x1 x2 x3 x4).heap.size=w.heap.size+1:=by simp[litN]
theorem litN_row (w:World) (x0 x1 x2 x3 x4:Value) (N:Nat) (hN:N=w.heap.size):(litN w x0 x1 x2 x3 x4).heap[N]?=some (.cells #[x0,x1,x2,x3,x4] 77 (0,0)):=by subst hN;exact heap_alloc_new w _
def lenOf (b:Nat) (w:World):Nat:=match w.cell? ⟨b,0,none⟩ with|some (.slice _ n _)=>n|_=>0
section
variable {α:Type}{b:Nat}{w wr W2 w3 w5:World}{e:Int}{o L m K m' : Nat}{f:Nat→Nat→List Nd→Ps→α × Ps}{r:α × Ps}{v v5:Value}{l:List Nd}{s:Ps}{k:Nd × Ps}{A:Option Addr}{n c:Nat}
end


theorem OwnN.lit {w:World}{B:Nat}{x:Nd}{x0 x1 x2 x3 x4:Value}(hB:B≤w.heap.size) (hx:NdAt w (In B w.heap.size) [x0,x1,x2,x3,x4] x):OwnN (litN w x0 x1 x2 x3 x4) B (.slice (some ⟨w.heap.size,0,none⟩) 1 1) [x]:=by
 refine ⟨[x0,x1,x2,x3,x4],World.ownsRow_lit w #[x0,x1,x2,x3,x4] 1 hB (by unfold maxLen;omega) rfl,fun i y hy=>?_⟩
 have hi:i=0:=by
  have:=(List.getElem?_eq_some_iff.1 hy).1;simp at this;omega
 subst hi
 simp at hy
 subst hy
 refine hx.keep (fun i hi=>⟨hi.1,by rw[litN_size];have:=hi.2;omega,fun e=>?_⟩) fun p hp=>(litN_below w x0 x1 x2 x3 x4).cell hp.2
 have h2:i<w.heap.size:=hi.2
 have h3:w.heap.size=i:=Option.some.inj e
 omega
theorem nd_eta (x:Nd):Nd.mk x.kind x.name x.low x.high x.kids=x:=by cases x;rfl
open Y (Nd It Ps nextP takeP failP noTok noName deepP formP orsP joinP piecesP pieceP bareP setP partsP partP heldP memberP)



section
variable {b:Nat}{w w10:World}{e:Int}{o:Nat}{s2:Ps}{A:Option Addr}{n c:Nat}{x:Nd}{t:Tok}{tx:ByteArray}
end


end Go.Proofs.YtbbmjdddemahfaaGreat
