/- Part of the proof. -/
import Derived.Test.YtbbmjdddemahfaaGreatSW21
import Derived.Deep.RegionHeld3
import Derived.Test.YtbbmjdddemahfaaGreatSW06
set_option maxRecDepth 100000
namespace Go.Proofs.YtbbmjdddemahfaaGreat
open Go.RowKit
open Y (Nd It Ps nextP takeP failP noTok noName deepP formP orsP joinP piecesP pieceP bareP setP partsP partP heldP memberP)


open Y (Nd It Ps nextP takeP failP noTok noName zeroN deepP formP orsP joinP piecesP pieceP bareP setP partsP partP heldP memberP)

def itC (x:It) (Ab:Option Addr) (nb cb:Nat) (Aa:Option Addr) (na ca:Nat):List Value:=[.int .i64 x.kind,.string x.name,.int .i64 x.number,.bool x.cut,.int .i64 x.before.kind,.string x.before.name,.int .i64 x.before.low,.int .i64 x.before.high,.slice Ab nb cb,.int .i64 x.after.kind,.string x.after.name,.int .i64 x.after.low,.int .i64 x.after.high,.slice Aa na ca,.int .i64 x.pos]
def itV (x:It) (Ab:Option Addr) (nb cb:Nat) (Aa:Option Addr) (na ca:Nat):Value:=.agg #[.int .i64 x.kind,.string x.name,.int .i64 x.number,.bool x.cut,.int .i64 x.before.kind,.string x.before.name,.int .i64 x.before.low,.int .i64 x.before.high,.slice Ab nb cb,.int .i64 x.after.kind,.string x.after.name,.int .i64 x.after.low,.int .i64 x.after.high,.slice Aa na ca,.int .i64 x.pos]
def ItAt (w:World) (S:Nat→Prop) (cs:List Value) (x:It):Prop:=∃ Ab nb cb Aa na ca,cs=itC x Ab nb cb Aa na ca∧RdN w S Ab nb cb x.before.kids∧RdN w S Aa na ca x.after.kids
def IsI (w:World) (S:Nat→Prop) (v:Value) (x:It):Prop:=∃ Ab nb cb Aa na ca,v=itV x Ab nb cb Aa na ca∧RdN w S Ab nb cb x.before.kids∧RdN w S Aa na ca x.after.kids
theorem ItAt.keep {w w' : World}{S S' : Nat→Prop}{cs:List Value}{x:It}(h:ItAt w S cs x) (hS:∀ b,S b→S' b) (hk:∀ p:Addr,S p.block→w'.cell? p=w.cell? p):ItAt w' S' cs x:=by
 obtain ⟨Ab,nb,cb,Aa,na,ca,e,h1,h2⟩:=h
 exact ⟨Ab,nb,cb,Aa,na,ca,e,h1.keep hS hk,h2.keep hS hk⟩
structure RdI6 (w:World) (S:Nat→Prop) (A:Option Addr) (n c:Nat) (l:List It):Prop where
 len:l.length=n
 cap:n≤c
 capm:c≤maxLen
 at_:∃ cs:Nat→List Value,(0<n→∃ b off,A=some ⟨b,off,none⟩∧S b∧∀ i,i<n→∀ j u,(cs i)[j]?=some u→w.cell? ⟨b,off+(i*15+j),none⟩=some u)∧∀ i x,l[i]?=some x→ItAt w S (cs i) x
theorem RdI6.keep {w w' : World}{S S' : Nat→Prop}{A:Option Addr}{n c:Nat}{l:List It}(h:RdI6 w S A n c l) (hS:∀ b,S b→S' b) (hk:∀ p:Addr,S p.block→w'.cell? p=w.cell? p):RdI6 w' S' A n c l:=by
 obtain ⟨h1,h2,h3,cs,h4,h5⟩:=h
 refine ⟨h1,h2,h3,cs,fun hn=>?_,fun i x hx=>(h5 i x hx).keep hS hk⟩
 obtain ⟨b,off,e,hb,hcc⟩:=h4 hn
 exact ⟨b,off,e,hS b hb,fun i hi j u hu=>(hk ⟨b,_,none⟩ hb).trans (hcc i hi j u hu)⟩
theorem RdI6.nil (w:World) (S:Nat→Prop):RdI6 w S none 0 0 []:=⟨rfl,Nat.le_refl _,by simp[maxLen],fun _=>[],fun h=>absurd h (by omega),fun i x hx=>by simp at hx⟩
def set15 (w:World) (N:Nat) (a0 a1 a2 a3 a4 a5 a6 a7 a8 a9 a10 a11 a12 a13 a14:Value):World:=(((((((((((((((w.setCell ⟨N,0,none⟩ a0).setCell ⟨N,1,none⟩ a1).setCell ⟨N,2,none⟩ a2).setCell ⟨N,3,none⟩ a3).setCell ⟨N,4,none⟩ a4).setCell ⟨N,5,none⟩ a5).setCell ⟨N,6,none⟩ a6).setCell ⟨N,7,none⟩ a7).setCell ⟨N,8,none⟩ a8).setCell ⟨N,9,none⟩ a9).setCell ⟨N,10,none⟩ a10).setCell ⟨N,11,none⟩ a11).setCell ⟨N,12,none⟩ a12).setCell ⟨N,13,none⟩ a13).setCell ⟨N,14,none⟩ a14)
theorem set15_row {w:World}{N:Nat}{x0 x1 x2 x3 x4 x5 x6 x7 x8 x9 x10 x11 x12 x13 x14:Value}{t:TypeId}(h:w.heap[N]?=some (.cells #[x0,x1,x2,x3,x4,x5,x6,x7,x8,x9,x10,x11,x12,x13,x14] t (0,0))) (a0 a1 a2 a3 a4 a5 a6 a7 a8 a9 a10 a11 a12 a13 a14:Value):(set15 w N a0 a1 a2 a3 a4 a5 a6 a7 a8 a9 a10 a11 a12 a13 a14).heap[N]?=some (.cells #[a0,a1,a2,a3,a4,a5,a6,a7,a8,a9,a10,a11,a12,a13,a14] t (0,0)):=by
 have h0:(w.setCell ⟨N,0,none⟩ a0).heap[N]?=some (.cells #[a0,x1,x2,x3,x4,x5,x6,x7,x8,x9,x10,x11,x12,x13,x14] t (0,0)):=heap_setCell_same _ _ _ _ _ _ h
 have h1:((w.setCell ⟨N,0,none⟩ a0).setCell ⟨N,1,none⟩ a1).heap[N]?=some (.cells #[a0,a1,x2,x3,x4,x5,x6,x7,x8,x9,x10,x11,x12,x13,x14] t (0,0)):=heap_setCell_same _ _ _ _ _ _ h0
 have h2:(((w.setCell ⟨N,0,none⟩ a0).setCell ⟨N,1,none⟩ a1).setCell ⟨N,2,none⟩ a2).heap[N]?=some (.cells #[a0,a1,a2,x3,x4,x5,x6,x7,x8,x9,x10,x11,x12,x13,x14] t (0,0)):=heap_setCell_same _ _ _ _ _ _ h1
 have h3:((((w.setCell ⟨N,0,none⟩ a0).setCell ⟨N,1,none⟩ a1).setCell ⟨N,2,none⟩ a2).setCell ⟨N,3,none⟩ a3).heap[N]?=some (.cells #[a0,a1,a2,a3,x4,x5,x6,x7,x8,x9,x10,x11,x12,x13,x14] t (0,0)):=heap_setCell_same _ _ _ _ _ _ h2
 have h4:(((((w.setCell ⟨N,0,none⟩ a0).setCell ⟨N,1,none⟩ a1).setCell ⟨N,2,none⟩ a2).setCell ⟨N,3,none⟩ a3).setCell ⟨N,4,none⟩ a4).heap[N]?=some (.cells #[a0,a1,a2,a3,a4,x5,x6,x7,x8,x9,x10,x11,x12,x13,x14] t (0,0)):=heap_setCell_same _ _ _ _ _ _ h3
 have h5:((((((w.setCell ⟨N,0,none⟩ a0).setCell ⟨N,1,none⟩ a1).setCell ⟨N,2,none⟩ a2).setCell ⟨N,3,none⟩ a3).setCell ⟨N,4,none⟩ a4).setCell ⟨N,5,none⟩ a5).heap[N]?=some (.cells #[a0,a1,a2,a3,a4,a5,x6,x7,x8,x9,x10,x11,x12,x13,x14] t (0,0)):=heap_setCell_same _ _ _ _ _ _ h4
 have h6:(((((((w.setCell ⟨N,0,none⟩ a0).setCell ⟨N,1,none⟩ a1).setCell ⟨N,2,none⟩ a2).setCell ⟨N,3,none⟩ a3).setCell ⟨N,4,none⟩ a4).setCell ⟨N,5,none⟩ a5).setCell ⟨N,6,none⟩ a6).heap[N]?=some (.cells #[a0,a1,a2,a3,a4,a5,a6,x7,x8,x9,x10,x11,x12,x13,x14] t (0,0)):=heap_setCell_same _ _ _ _ _ _ h5
 have h7:((((((((w.setCell ⟨N,0,none⟩ a0).setCell ⟨N,1,none⟩ a1).setCell ⟨N,2,none⟩ a2).setCell ⟨N,3,none⟩ a3).setCell ⟨N,4,none⟩ a4).setCell ⟨N,5,none⟩ a5).setCell ⟨N,6,none⟩ a6).setCell ⟨N,7,none⟩ a7).heap[N]?=some (.cells #[a0,a1,a2,a3,a4,a5,a6,a7,x8,x9,x10,x11,x12,x13,x14] t (0,0)):=heap_setCell_same _ _ _ _ _ _ h6
 have h8:(((((((((w.setCell ⟨N,0,none⟩ a0).setCell ⟨N,1,none⟩ a1).setCell ⟨N,2,none⟩ a2).setCell ⟨N,3,none⟩ a3).setCell ⟨N,4,none⟩ a4).setCell ⟨N,5,none⟩ a5).setCell ⟨N,6,none⟩ a6).setCell ⟨N,7,none⟩ a7).setCell ⟨N,8,none⟩ a8).heap[N]?=some (.cells #[a0,a1,a2,a3,a4,a5,a6,a7,a8,x9,x10,x11,x12,x13,x14] t (0,0)):=heap_setCell_same _ _ _ _ _ _ h7
 have h9:((((((((((w.setCell ⟨N,0,none⟩ a0).setCell ⟨N,1,none⟩ a1).setCell ⟨N,2,none⟩ a2).setCell ⟨N,3,none⟩ a3).setCell ⟨N,4,none⟩ a4).setCell ⟨N,5,none⟩ a5).setCell ⟨N,6,none⟩ a6).setCell ⟨N,7,none⟩ a7).setCell ⟨N,8,none⟩ a8).setCell ⟨N,9,none⟩ a9).heap[N]?=some (.cells #[a0,a1,a2,a3,a4,a5,a6,a7,a8,a9,x10,x11,x12,x13,x14] t (0,0)):=heap_setCell_same _ _ _ _ _ _ h8
 have h10:(((((((((((w.setCell ⟨N,0,none⟩ a0).setCell ⟨N,1,none⟩ a1).setCell ⟨N,2,none⟩ a2).setCell ⟨N,3,none⟩ a3).setCell ⟨N,4,none⟩ a4).setCell ⟨N,5,none⟩ a5).setCell ⟨N,6,none⟩ a6).setCell ⟨N,7,none⟩ a7).setCell ⟨N,8,none⟩ a8).setCell ⟨N,9,none⟩ a9).setCell ⟨N,10,none⟩ a10).heap[N]?=some (.cells #[a0,a1,a2,a3,a4,a5,a6,a7,a8,a9,a10,x11,x12,x13,x14] t (0,0)):=heap_setCell_same _ _ _ _ _ _ h9
 have h11:((((((((((((w.setCell ⟨N,0,none⟩ a0).setCell ⟨N,1,none⟩ a1).setCell ⟨N,2,none⟩ a2).setCell ⟨N,3,none⟩ a3).setCell ⟨N,4,none⟩ a4).setCell ⟨N,5,none⟩ a5).setCell ⟨N,6,none⟩ a6).setCell ⟨N,7,none⟩ a7).setCell ⟨N,8,none⟩ a8).setCell ⟨N,9,none⟩ a9).setCell ⟨N,10,none⟩ a10).setCell ⟨N,11,none⟩ a11).heap[N]?=some (.cells #[a0,a1,a2,a3,a4,a5,a6,a7,a8,a9,a10,a11,x12,x13,x14] t (0,0)):=heap_setCell_same _ _ _ _ _ _ h10
 have h12:(((((((((((((w.setCell ⟨N,0,none⟩ a0).setCell ⟨N,1,none⟩ a1).setCell ⟨N,2,none⟩ a2).setCell ⟨N,3,none⟩ a3).setCell ⟨N,4,none⟩ a4).setCell ⟨N,5,none⟩ a5).setCell ⟨N,6,none⟩ a6).setCell ⟨N,7,none⟩ a7).setCell ⟨N,8,none⟩ a8).setCell ⟨N,9,none⟩ a9).setCell ⟨N,10,none⟩ a10).setCell ⟨N,11,none⟩ a11).setCell ⟨N,12,none⟩ a12).heap[N]?=some (.cells #[a0,a1,a2,a3,a4,a5,a6,a7,a8,a9,a10,a11,a12,x13,x14] t (0,0)):=heap_setCell_same _ _ _ _ _ _ h11
 have h13:((((((((((((((w.setCell ⟨N,0,none⟩ a0).setCell ⟨N,1,none⟩ a1).setCell ⟨N,2,none⟩ a2).setCell ⟨N,3,none⟩ a3).setCell ⟨N,4,none⟩ a4).setCell ⟨N,5,none⟩ a5).setCell ⟨N,6,none⟩ a6).setCell ⟨N,7,none⟩ a7).setCell ⟨N,8,none⟩ a8).setCell ⟨N,9,none⟩ a9).setCell ⟨N,10,none⟩ a10).setCell ⟨N,11,none⟩ a11).setCell ⟨N,12,none⟩ a12).setCell ⟨N,13,none⟩ a13).heap[N]?=some (.cells #[a0,a1,a2,a3,a4,a5,a6,a7,a8,a9,a10,a11,a12,a13,x14] t (0,0)):=heap_setCell_same _ _ _ _ _ _ h12
 have h14:(((((((((((((((w.setCell ⟨N,0,none⟩ a0).setCell ⟨N,1,none⟩ a1).setCell ⟨N,2,none⟩ a2).setCell ⟨N,3,none⟩ a3).setCell ⟨N,4,none⟩ a4).setCell ⟨N,5,none⟩ a5).setCell ⟨N,6,none⟩ a6).setCell ⟨N,7,none⟩ a7).setCell ⟨N,8,none⟩ a8).setCell ⟨N,9,none⟩ a9).setCell ⟨N,10,none⟩ a10).setCell ⟨N,11,none⟩ a11).setCell ⟨N,12,none⟩ a12).setCell ⟨N,13,none⟩ a13).setCell ⟨N,14,none⟩ a14).heap[N]?=some (.cells #[a0,a1,a2,a3,a4,a5,a6,a7,a8,a9,a10,a11,a12,a13,a14] t (0,0)):=heap_setCell_same _ _ _ _ _ _ h13
 exact h14
theorem set15_size (w:World) (N:Nat) (a0 a1 a2 a3 a4 a5 a6 a7 a8 a9 a10 a11 a12 a13 a14:Value):(set15 w N a0 a1 a2 a3 a4 a5 a6 a7 a8 a9 a10 a11 a12 a13 a14).heap.size=w.heap.size:=by simp[set15]
theorem set15_block (w:World) (N:Nat) (a0 a1 a2 a3 a4 a5 a6 a7 a8 a9 a10 a11 a12 a13 a14:Value){i:Nat}(hi:i≠N):(set15 w N a0 a1 a2 a3 a4 a5 a6 a7 a8 a9 a10 a11 a12 a13 a14).heap[i]?=w.heap[i]? := by
 unfold set15
 rw[Below.heap_setCell _ _ _ _ hi];rw[Below.heap_setCell _ _ _ _ hi];rw[Below.heap_setCell _ _ _ _ hi];rw[Below.heap_setCell _ _ _ _ hi];rw[Below.heap_setCell _ _ _ _ hi];rw[Below.heap_setCell _ _ _ _ hi];rw[Below.heap_setCell _ _ _ _ hi];rw[Below.heap_setCell _ _ _ _ hi];rw[Below.heap_setCell _ _ _ _ hi];rw[Below.heap_setCell _ _ _ _ hi];rw[Below.heap_setCell _ _ _ _ hi];rw[Below.heap_setCell _ _ _ _ hi];rw[Below.heap_setCell _ _ _ _ hi];rw[Below.heap_setCell _ _ _ _ hi];rw[Below.heap_setCell _ _ _ _ hi]
theorem Fe.set15 {b:Nat}{a c:World}(h:Fe b a c){g:Nat}(hg:g=b∨a.heap.size≤g) (a0 a1 a2 a3 a4 a5 a6 a7 a8 a9 a10 a11 a12 a13 a14:Value):Fe b a (set15 c g a0 a1 a2 a3 a4 a5 a6 a7 a8 a9 a10 a11 a12 a13 a14) :=
 ((((((((((((((h.set hg _ _).set hg _ _).set hg _ _).set hg _ _).set hg _ _).set hg _ _).set hg _ _).set hg _ _).set hg _ _).set hg _ _).set hg _ _).set hg _ _).set hg _ _).set hg _ _).set hg _ _
theorem zj_ {w:World}{N:Nat}{x0 x1 x2 x3 x4 x5 x6 x7 x8 x9 x10 x11 x12 x13 x14:Value}{t:TypeId}(h:w.heap[N]?=some (.cells #[x0,x1,x2,x3,x4,x5,x6,x7,x8,x9,x10,x11,x12,x13,x14] t (0,0))) :
  w.cell? ⟨N,0,none⟩=some x0∧w.cell? ⟨N,1,none⟩=some x1∧w.cell? ⟨N,2,none⟩=some x2∧w.cell? ⟨N,3,none⟩=some x3∧w.cell? ⟨N,4,none⟩=some x4∧w.cell? ⟨N,5,none⟩=some x5∧w.cell? ⟨N,6,none⟩=some x6∧w.cell? ⟨N,7,none⟩=some x7∧w.cell? ⟨N,8,none⟩=some x8∧w.cell? ⟨N,9,none⟩=some x9∧w.cell? ⟨N,10,none⟩=some x10∧w.cell? ⟨N,11,none⟩=some x11∧w.cell? ⟨N,12,none⟩=some x12∧w.cell? ⟨N,13,none⟩=some x13∧w.cell? ⟨N,14,none⟩=some x14:=by
 refine ⟨?_,?_,?_,?_,?_,?_,?_,?_,?_,?_,?_,?_,?_,?_,?_⟩ <;> (rw[cell_of_row _ _ _ _ _ _ h];rfl)
def Box15 (w:World) (N:Nat):Prop:=∃ x0 x1 x2 x3 x4 x5 x6 x7 x8 x9 x10 x11 x12 x13 x14:Value,w.heap[N]?=some (.cells #[x0,x1,x2,x3,x4,x5,x6,x7,x8,x9,x10,x11,x12,x13,x14] 79 (0,0))
theorem Box15.fe {b N:Nat}{w w' : World}(h:Box15 w N) (hf:Fe b w w') (hN:N≠b) (hs:N<w.heap.size):Box15 w' N:=by
 obtain ⟨x0,x1,x2,x3,x4,x5,x6,x7,x8,x9,x10,x11,x12,x13,x14,h⟩:=h
 exact ⟨x0,x1,x2,x3,x4,x5,x6,x7,x8,x9,x10,x11,x12,x13,x14,(hf.block N hs hN).trans h⟩
theorem Box15.set {w:World}{N:Nat}(h:Box15 w N) (a0 a1 a2 a3 a4 a5 a6 a7 a8 a9 a10 a11 a12 a13 a14:Value):(set15 w N a0 a1 a2 a3 a4 a5 a6 a7 a8 a9 a10 a11 a12 a13 a14).heap[N]?=some (.cells #[a0,a1,a2,a3,a4,a5,a6,a7,a8,a9,a10,a11,a12,a13,a14] 79 (0,0)):=by
 obtain ⟨x0,x1,x2,x3,x4,x5,x6,x7,x8,x9,x10,x11,x12,x13,x14,h⟩:=h
 exact set15_row h _ _ _ _ _ _ _ _ _ _ _ _ _ _ _
def zeroI:Obj:=.cells #[.int .i64 0,.string { data:=#[] },.int .i64 0,.bool false,.int .i64 0,.string { data:=#[] },.int .i64 0,.int .i64 0,.slice none 0 0,.int .i64 0,.string { data:=#[] },.int .i64 0,.int .i64 0,.slice none 0 0,.int .i64 0] 79
def begI (w:World):World:=w.alloc zeroI
theorem begI_box (w:World):Box15 (begI w) w.heap.size:=⟨_,_,_,_,_,_,_,_,_,_,_,_,_,_,_,heap_alloc_new w _⟩
theorem begI_below (w:World):Below w.heap.size w (begI w):=qa_ w _
theorem begI_size (w:World):(begI w).heap.size=w.heap.size+1:=by simp[begI]
def set15I (w:World) (N:Nat) (x:It) (Ab:Option Addr) (nb cb:Nat) (Aa:Option Addr) (na ca:Nat):World :=
 set15 w N (.int .i64 x.kind) (.string x.name) (.int .i64 x.number) (.bool x.cut) (.int .i64 x.before.kind) (.string x.before.name) (.int .i64 x.before.low) (.int .i64 x.before.high) (.slice Ab nb cb) (.int .i64 x.after.kind) (.string x.after.name) (.int .i64 x.after.low) (.int .i64 x.after.high) (.slice Aa na ca) (.int .i64 x.pos)
open Y (Nd It Ps nextP takeP failP noTok noName zeroN formP itemP)

open Y (Nd It Ps nextP takeP failP noTok noName zeroN formP itemP lineP itemsP)

theorem item_less (e:Int) (n:Nat) (s:Ps) (h:s.toks≠[]):(itemP e n s).2.toks.length<s.toks.length:=by
 have h1:(takeP e [1,2,19] s).2.toks.length<s.toks.length:=by
  rcases s with (_|⟨t,u⟩)|⟨a,y⟩
  ·exact absurd rfl h
  ·rw[Y.take_cons];split <;> simp[Y.Ps.toks]
  ·exact absurd rfl h
 unfold Y.itemP
 split
 ·exact Nat.lt_of_le_of_lt (Nat.le_trans ((Y.len_all e n).form _ _) (Y.take_len _ _ _)) h1
 ·split
  ·exact Nat.lt_of_le_of_lt (Nat.le_trans ((Y.len_all e n).form _ _) (Nat.le_trans (Y.take_len _ _ _) ((Y.len_all e n).form _ _))) h1
  ·exact h1
def OwnI (w:World) (B:Nat) (v:Value) (l:List It):Prop:=∃ cs,w.ownsRow B 79 15 v l.length cs∧∀ i x,l[i]?=some x→ItAt w (fun b=>B≤b∧b<w.heap.size∧v.ownBlock≠some b) ((cs.drop (i*15)).take 15) x
theorem info_it:(Tryz.prog.info? 79).map (fun i=>(i.zero,i.size,i.bytes))=some (some (.agg #[.int .i64 0,.string { data:=#[] },.int .i64 0,.bool false,.int .i64 0,.string { data:=#[] },.int .i64 0,.int .i64 0,.slice none 0 0,.int .i64 0,.string { data:=#[] },.int .i64 0,.int .i64 0,.slice none 0 0,.int .i64 0]),15,176):=by kernel_rfl
section
variable {w w' : World}{B:Nat}{v:Value}{l:List It}
theorem OwnI.nil (w:World) (B:Nat):OwnI w B (.slice none 0 0) []:=⟨[],World.ownsRow_nil w B _ 15,fun i x hx=>by simp at hx⟩
theorem OwnI.rd (h:OwnI w B v l):∃ A c,v=.slice A l.length c∧RdI6 w (In B w.heap.size) A l.length c l:=by
 obtain ⟨cs,ho,hk⟩:=h
 have hs:∀ i x,l[i]?=some x→ItAt w (In B w.heap.size) ((cs.drop (i*15)).take 15) x:=fun i x hx=>(hk i x hx).keep (fun b hb=>⟨hb.1,hb.2.1⟩) (fun _ _=>rfl)
 rcases ho.2 with ⟨h1,h2⟩|⟨g,cap,cur,h1,hB,hg,h3,h4,_,_⟩
 ·subst h1
  have:l=[]:=List.eq_nil_of_length_eq_zero h2
  subst this
  exact ⟨none,0,rfl,RdI6.nil _ _⟩
 ·subst h1
  have hlt:g<w.heap.size:=by
   rcases Nat.lt_or_ge g w.heap.size with hlt|hge
   ·exact hlt
   ·rw[Array.getElem?_eq_none hge] at hg;cases hg
  refine ⟨_,cap,rfl,rfl,h3,h4,fun i=>(cs.drop (i*15)).take 15,fun _=>⟨g,0,rfl,⟨hB,hlt⟩,fun i hi j u hu=>?_⟩,hs⟩
  rw[← qo_]
  have hj:j<15:=by
   have:=(List.getElem?_eq_some_iff.1 hu).1;rw[List.length_take] at this;omega
  rw[List.getElem?_take_of_lt hj,List.getElem?_drop] at hu
  exact World.ownsRow.cells ho (g:=g) rfl _ _ hu
theorem OwnI.keep (h:OwnI w B v l) (hs:w.heap.size≤w'.heap.size) (hb:∀ i,B≤i→i<w.heap.size→w'.heap[i]?=w.heap[i]?):OwnI w' B v l:=by
 obtain ⟨cs,ho,hk⟩:=h
 exact ⟨cs,row_keep ho fun i h1 h2 _=>hb i h1 h2,fun i x hx=>(hk i x hx).keep (fun b hb=>⟨hb.1,by omega,hb.2.2⟩) (fun p hp=>World.cell?_of_block (hb p.block hp.1 hp.2.1))⟩
theorem OwnI.block (h:OwnI w B v l):∀ i,v.ownBlock=some i→B≤i∧i<w.heap.size:=by
 obtain ⟨cs,ho,_⟩:=h
 exact World.ownsRow.lt ho
theorem OwnI.push {v' : Value}{ns cs:List Value}{x:It}(hk:∀ i x,l[i]?=some x→ItAt w (fun b=>B≤b∧b<w.heap.size∧v.ownBlock≠some b) ((cs.drop (i*15)).take 15) x) (hcl:cs.length=l.length*15)
  (hx:ItAt w (fun b=>B≤b∧b<w.heap.size∧v.ownBlock≠some b) ns x) (hn:ns.length=15) (ho:w'.ownsRow B 79 15 v' (l.length+1) (cs++ns)) (hg:w.grownBy w' v.ownBlock) (hat:v'.ownBlock=v.ownBlock∨v'.ownBlock=some w.heap.size):OwnI w' B v' (l++[x]):=by
 have hS:∀ b,(B≤b∧b<w.heap.size∧v.ownBlock≠some b)→B≤b∧b<w'.heap.size∧v'.ownBlock≠some b:=fun b ⟨h1,h2,h3⟩=>⟨h1,Nat.lt_of_lt_of_le h2 hg.size,by
  rcases hat with e|e
  ·rw[e];exact h3
  ·rw[e];intro e2;injection e2 with e2;omega⟩
 have hc:∀ p:Addr,(B≤p.block∧p.block<w.heap.size∧v.ownBlock≠some p.block)→w'.cell? p=w.cell? p:=fun p ⟨_,h2,h3⟩=>World.cell?_of_block (hg.block p.block h2 (fun e=>h3 e.symm))
 refine ⟨cs++ns,by simpa using ho,fun i y hy=>?_⟩
 rcases Nat.lt_or_ge i l.length with hi|hi
 ·rw[List.getElem?_append_left hi] at hy
  have:=(hk i y hy).keep hS hc
  rw[List.drop_append_of_le_length (by omega),List.take_append_of_le_length (by rw[List.length_drop];omega)]
  exact this
 ·have hil:i=l.length:=by
   have:=(List.getElem?_eq_some_iff.1 hy).1;simp at this;omega
  subst hil
  rw[List.getElem?_append_right (Nat.le_refl _),Nat.sub_self] at hy
  simp at hy
  subst hy
  rw[List.drop_append,List.drop_eq_nil_of_le (by omega),List.nil_append,hcl,Nat.sub_self,List.drop_zero,List.take_of_length_le (by omega)]
  exact hx.keep hS hc
end
theorem app_i {w:World}{ops:Array Oper}{rest:List Oper}{o:Oper}{a:Act}{Q:Exit→Act→World→Prop}(hgd:o.guard=none) (s y:Operand)
  (ho:o.op=.call { callee:=.builtin .append,args:=#[s,y],argTypes:=#[33,33] })
  (base:Nat) (v:Value) (l:List It) (hs:a.eval s=v) (hown:OwnI w base v l) (N:Nat) (x:It) (Ab:Option Addr) (nb cb:Nat) (Aa:Option Addr) (na ca:Nat)
  (hx:a.eval y=.slice (some ⟨N,0,none⟩) 1 1) (hrow:w.heap[N]?=some (.cells #[.int .i64 x.kind,.string x.name,.int .i64 x.number,.bool x.cut,.int .i64 x.before.kind,.string x.before.name,.int .i64 x.before.low,.int .i64 x.before.high,.slice Ab nb cb,.int .i64 x.after.kind,.string x.after.name,.int .i64 x.after.low,.int .i64 x.after.high,.slice Aa na ca,.int .i64 x.pos] 79 (0,0))) (hy:ItAt w (fun b=>base≤b∧b<w.heap.size∧v.ownBlock≠some b) (itC x Ab nb cb Aa na ca) x)
  (h63:l.length≤1000000) (hbase:base≤w.heap.size)
  (h:∀ v' w', OwnI w' base v' (l++[x])→w.grownBy w' v.ownBlock→wpList Tryz.prog ops Q rest (a.put o.dst v') w'):wpList Tryz.prog ops Q (o :: rest) a w:=by
 obtain ⟨i0,hi0,hz0,hz1,hz2⟩:=info_k info_it
 obtain ⟨cs,hc,hk⟩:=hown
 refine wpList_append_own_at w hgd s y 33 ho base 79 i0 _ 15 176 Tryz.underlying33 hi0 hz0 hz1 hz2 rfl (by decide) v l.length cs hs hc ⟨N,0,none⟩ 1 1 (itC x Ab nb cb Aa na ca) hx rfl ?_ ?_ (by unfold maxLen;omega) (by omega) hbase ?_
 ·intro j u hu
  rw[qo_,cell_of_row _ _ _ _ _ _ hrow,Nat.zero_add]
  unfold itC at hu
  simpa using hu
 ·intro u hu
  unfold itC at hu
  simp only[List.mem_cons,List.not_mem_nil,or_false] at hu
  rcases hu with rfl|rfl|rfl|rfl|rfl|rfl|rfl|rfl|rfl|rfl|rfl|rfl|rfl|rfl|rfl <;> rfl
 ·intro v' w' h2 h3 _ h4
  exact h v' w' (OwnI.push hk hc.1 hy rfl h2 h3 h4) h3

open Y (Nd It)

theorem RdI6.small {w:World}{S:Nat→Prop}{A:Option Addr}{n c:Nat}{l:List It}(h:RdI6 w S A n c l):n≤9223372036854775807:=by have h1:=h.cap;have h2:=h.capm;unfold maxLen at h2;omega
end Go.Proofs.YtbbmjdddemahfaaGreat
