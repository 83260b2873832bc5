/- Part of the proof. -/
import Derived.Test.YtbbmjdddemahfaaGreatSW29
import Derived.Test.YtbbmjdddemahfaaGreatSW26
import Derived.Test.YtbbmjdddemahfaaGreatSW30
import Derived.Deep.RegionHeldLaw
import Derived.Test.YtbbmjdddemahfaaGreatSW31
set_option maxRecDepth 100000
namespace Go.Proofs.YtbbmjdddemahfaaGreat
open Go.RowKit
open W (Tk St C lexS opn noLf many noteS allowB allowP)

section
variable {X:Cx}{b:Nat}{w:World}{p o:Nat}{tv:Value}{ts:List Tk}
end
open W (Tk St C lexS opn dgB signK outS inS stepS lastK nameS setS numT noteS charsS)

section
variable {X:Cx}{b:Nat}{w:World}{p o:Nat}{tv:Value}{ts:List Tk}
end

section
variable {X:Cx}{b:Nat}{w:World}{p o:Nat}{tv:Value}{ts:List Tk}
end

structure Tri (w:World) (b:Nat) (tv:Value) (v2 v3:Int):Prop where
 k1:w.heap[b+1]?=some (.cells #[tv] 86 (0,0))
 k2:w.heap[b+2]?=some (.cells #[.int .i64 v2] 3 (0,0))
 k3:w.heap[b+3]?=some (.cells #[.int .i64 v3] 26 (0,0))
section
variable {w w' : World}{b:Nat}{tv:Value}{v2 v3:Int}
theorem Tri.lt (h:Tri w b tv v2 v3):b+3<w.heap.size:=by
 rcases Nat.lt_or_ge (b+3) w.heap.size with hl|hl
 ·exact hl
 ·have:=h.k3;rw[Array.getElem?_eq_none hl] at this;cases this
end
open W (Tk St C Lx lexS opn outS inS stepS lastK)

theorem opn_le (k:Int) (o:Nat):opn k o≤o+1:=by unfold W.opn;split <;> (try split) <;> omega
theorem Fr.all {b:Nat}{w W0 w1:World}(hb:Below b w W0) (hf:Fr b W0 w1):Below b w w1 :=
 ⟨hf.os.trans hb.os,hf.tape.trans hb.tape,hf.output.trans hb.output,Nat.le_trans hb.size hf.size,fun i hi=>(hf.block i (by omega) (by omega)).trans (hb.block i hi)⟩
open E (okb encB flat offs DecIs Upto)
open W (Tk Lx lexS)

def placed (L:List Int) (ts:List Tk):List Tok:=ts.map fun t=>⟨t.kind,t.text,t.low,t.high,plc L t.at_⟩
inductive TokIs (Bs:List Int):List Tok→Int→Int→Prop where
 | dec (cs ats:List Int) (x er:Int) (h:DecIs Bs cs ats x er) (he:er≠0):TokIs Bs [] x er
 | bad (cs ats:List Int) (x:Int) (h:DecIs Bs cs ats x 0) (k:Nat) (er:Int) (hl:lexS cs 0 0 []=.bad k er):TokIs Bs [] (plc cs k:Nat) er
 | ok (cs ats:List Int) (x:Int) (h:DecIs Bs cs ats x 0) (ts:List Tk) (hl:lexS cs 0 0 []=.ok ts):TokIs Bs (placed cs ts) (-1) 0
def OfP5 (w:World) (Bs:List Int) (e:Ending) (w' : World):Prop:=∃ (A:Option Addr) (n c:Nat) (l:List Tok) (x er:Int),
 e=.returned (.tuple #[.slice A n c,.int .i64 x,.int .i64 er])∧RdT w' w'.heap.size A n c l∧TokIs Bs l x er∧Below w.heap.size w w'
theorem dec_ok {Bs cs ats:List Int}{x er:Int}(h:DecIs Bs cs ats x er) (he:er=0):cs.all okb=true∧Bs=flat cs∧Bs.length≤3000∧ats=offs 0 cs++[(Bs.length:Int)]:=by
 cases h with
 | ok _ hl hu=>exact ⟨List.all_eq_true.2 hu.ok,by have:=hu.eq;rw[List.take_length] at this;exact this,hl,rfl⟩
 | bad _ _ _ _ _ _=>omega
 | long _=>omega
end Go.Proofs.YtbbmjdddemahfaaGreat
