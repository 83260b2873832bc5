/- Part of the proof. -/
import Derived.Test.YtbbmjdddemahfaaGreatSW27
import Derived.Test.YtbbmjdddemahfaaGreatSW14
import Derived.Test.YtbbmjdddemahfaaGreatSW01
import Derived.Recover
import Derived.Laws.Pointers
set_option maxRecDepth 100000
namespace Go.Proofs.YtbbmjdddemahfaaGreat
open Go.RowKit
open W (dgB smB many numB noBl lettersB allowB)

open W (allowP)
open W (dgB smB many numB noBl lettersB allowB allowP)

def tokV (k:Int) (s:ByteArray) (lo hi pos:Int):Value:=.agg #[.int .i64 k,.string s,.int .i64 lo,.int .i64 hi,.int .i64 pos]
open E (okb encB flat offs)
open W (Tk lexS)

structure Cx where
 At:Option Addr
 nt:Nat
 ct:Nat
 Bs:List Int
 Ac:Option Addr
 nc:Nat
 cc:Nat
 L:List Int
 Ap:Option Addr
 np:Nat
 cp:Nat
 P:List Int
def plc (L:List Int) (i:Nat):Nat:=(flat (L.take i)).length
structure Cx.Ok (X:Cx):Prop where
 ok:X.L.all okb=true
 flat:X.Bs=flat X.L
 few:X.Bs.length≤3000
 pl:X.P=offs 0 X.L++[(X.Bs.length:Int)]
theorem offs_at (L:List Int) (k i:Nat) (hi:i<L.length):(offs k L)[i]?=some ((k+plc L i:Nat):Int):=by
 induction L generalizing k i with
 | nil=>simp at hi
 | cons c t ih =>
  rw[E.offs]
  cases i with
  | zero=>simp[plc,E.flat]
  | succ i =>
   simp only[List.length_cons] at hi
   rw[List.getElem?_cons_succ,ih _ i (by omega)]
   simp[plc,E.flat];omega
theorem Cx.Ok.at_ {X:Cx}(h:X.Ok){i:Nat}(hi:i≤X.L.length):X.P[i]?=some ((plc X.L i:Nat):Int):=by
 rw[h.pl]
 have hl:=E.offs_len 0 X.L
 rcases Nat.lt_or_ge i X.L.length with h1|h1
 ·rw[List.getElem?_append_left (by omega),offs_at _ _ _ h1,Nat.zero_add]
 ·have e:i=X.L.length:=by omega
  rw[List.getElem?_append_right (by omega),hl,e,Nat.sub_self,h.flat]
  simp[plc]
theorem plc_le (L:List Int) (i:Nat):plc L i≤(flat L).length:=E.flat_mono L i
def Cx.put (X:Cx) (t:Tk):Tok:=⟨t.kind,t.text,t.low,t.high,plc X.L t.at_⟩
structure Fr (b:Nat) (w w' : World):Prop where
 os:w'.os=w.os
 tape:w'.tape=w.tape
 output:w'.output=w.output
 size:w.heap.size≤w'.heap.size
 block:∀ i,i<b+4→i≠b→w'.heap[i]?=w.heap[i]?
theorem Fr.trans {b:Nat}{a c d:World}(h:Fr b a c) (k:Fr b c d):Fr b a d :=
 ⟨k.os.trans h.os,k.tape.trans h.tape,k.output.trans h.output,Nat.le_trans h.size k.size,fun i hi hn=>(k.block i hi hn).trans (h.block i hi hn)⟩
theorem Fr.set {b:Nat}{a c:World}(h:Fr b a c) (o:Nat) (v:Value):Fr b a (c.setCell ⟨b,o,none⟩ v) :=
 h.trans ⟨rfl,rfl,rfl,by simp[World.setCell],fun i _ hi=>Below.heap_setCell _ _ _ _ hi⟩
section
variable {X:Cx}{b:Nat}{w w' : World}{p o:Nat}{tv:Value}{ts:List Tk}
end

section
variable {X:Cx}{b:Nat}{w:World}{p o:Nat}{tv:Value}{ts:List Tk}
end
end Go.Proofs.YtbbmjdddemahfaaGreat
