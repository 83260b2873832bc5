/- Part of the proof. -/
import Derived.Test.YtbbmjdddemahfaaGreatSW01
import Derived.Test.YtbbmjdddemahfaaGreatSW08
import Derived.Laws.Rows
import Derived.Recover
import Derived.Laws.Pointers
import Derived.IntWalk
namespace Go.Proofs.YtbbmjdddemahfaaGreat
open Go.RowKit
open Q (isC plainB digV R numS uS escS readS textB flatT)

structure StrIs (s:ByteArray) (S:List Int):Prop where
 eq:s=strOfNums S
 byt:∀ x∈S,0≤x∧x<256
theorem StrIs.size {s:ByteArray}{S:List Int}(h:StrIs s S):s.size=S.length:=by rw[h.eq,strOfNums_size]
theorem read_errs {l:List Int}{p:Nat}{e:Int}(h:readS l p=.bad e):e=5∨e=6:=by
 have hn:∀ (l:List Int) (d:Nat) (v:Int) (p:Nat) (e:Int),numS l d v p=.bad e→e=5∨e=6:=by
  intro l
  induction l with
  | nil=>intro d v p e h;simp[Q.numS] at h;omega
  | cons x t ih =>
   intro d v p e h
   rw[Q.numS] at h
   split at h
   ·cases h
   ·split at h
    ·injection h with h;omega
    ·exact ih _ _ _ _ h
 cases l with
 | nil=>simp[Q.readS] at h;omega
 | cons x t =>
  rw[Q.readS] at h
  split at h
  ·cases t with
   | nil=>simp[Q.escS] at h;omega
   | cons y u =>
    rw[Q.escS] at h
    split at h
    ·cases u with
     | nil=>simp[Q.uS] at h;omega
     | cons z o =>
      rw[Q.uS] at h
      split at h
      ·exact hn _ _ _ _ _ h
      ·injection h with h;omega
    ·split at h
     ·cases h
     ·split at h
      ·cases h
      ·split at h
       ·cases h
       ·injection h with h;omega
  ·split at h
   ·cases h
   ·injection h with h;omega
open Q (isC plainB digV)

theorem ret_bool {a b:Bool}(h:a=b):Ending.returned (.bool a)=.returned (.bool b):=by rw[h]
theorem ret_i64 {a b:Int}(h:a=b):Ending.returned (.int .i64 a)=.returned (.int .i64 b):=by rw[h]
end Go.Proofs.YtbbmjdddemahfaaGreat
set_option maxRecDepth 100000
namespace Go.Proofs.YtbbmjdddemahfaaGreat
open Go.RowKit
open Q (isC plainB digV R numS uS escS readS)

structure Only (b:Nat) (w w' : World):Prop where
 os:w'.os=w.os
 tape:w'.tape=w.tape
 output:w'.output=w.output
 size:w'.heap.size=w.heap.size
 block:∀ i,i≠b→w'.heap[i]?=w.heap[i]?
theorem Only.trans {b:Nat}{a c d:World}(h:Only b a c) (k:Only b c d):Only b a d :=
 ⟨k.os.trans h.os,k.tape.trans h.tape,k.output.trans h.output,k.size.trans h.size,fun i hi=>(k.block i hi).trans (h.block i hi)⟩
theorem Only.set {b:Nat}{a c:World}(h:Only b a c) (o:Nat) (v:Value):Only b a (c.setCell ⟨b,o,none⟩ v) :=
 h.trans ⟨rfl,rfl,rfl,by simp[World.setCell],fun i hi=>Below.heap_setCell _ _ _ _ hi⟩
section
variable {w w' : World}{b n c p:Nat}{A:Option Addr}{L:List Int}
end
theorem drop_atQ {L:List Int}{p:Nat}{x:Int}(h:L[p]?=some x):L.drop p=x :: L.drop (p+1):=by
 obtain ⟨hp,e⟩:=List.getElem?_eq_some_iff.1 h
 rw[List.drop_eq_getElem_cons hp,e]


structure Four (w:World) (b0 b1 b2 b3:Nat) (at_ v1 v2 v3:Int):Prop where
 k0:w.heap[b0]?=some (.cells #[.int .i64 at_] 3 (0,0))
 k1:w.heap[b1]?=some (.cells #[.int .i64 v1] 3 (0,0))
 k2:w.heap[b2]?=some (.cells #[.int .i64 v2] 3 (0,0))
 k3:w.heap[b3]?=some (.cells #[.int .i64 v3] 26 (0,0))
 d1:b1=b0+1
 d2:b2=b0+2
 d3:b3=b0+3
theorem Four.lt {w:World}{b0 b1 b2 b3:Nat}{at_ v1 v2 v3:Int}(h:Four w b0 b1 b2 b3 at_ v1 v2 v3):b3<w.heap.size:=by
 rcases Nat.lt_or_ge b3 w.heap.size with hl|hl
 ·exact hl
 ·have:=h.k3;rw[Array.getElem?_eq_none hl] at this;cases this

open Q (isC plainB digV)

theorem rqplain_any (c:Int) (w:World):Calls Tryz.prog 123 #[.int .i64 c] w fun e w' => e=.returned (.bool (plainB c))∧w=w' := by
 go_enter Tryz.func123,Tryz.ntmps123
 go_wp2
 all_goals
  go_ret
  refine ⟨ret_bool ?_,rfl⟩
  rw[Bool.eq_iff_iff,Q.plain_iff]
  simp
  try omega
open Q (isC plainB digV hexF dig textB)

theorem str_app (a b:List Int):strOfNums a++strOfNums b=strOfNums (a++b):=by
 apply ByteArray.ext
 apply Array.ext'
 rw[ByteArray.data_append,Array.toList_append,strOfNums_data,strOfNums_data,strOfNums_data,List.map_append]
theorem run_str_add {P:Program}(a b:List Int) (w:World) (h:a.length+b.length≤9223372036854775807):(Op.stringOp .add (strOfNums a) (strOfNums b)).run P w=.ok (.string (strOfNums (a++b))) w:=by
 rw[run_string_add_sum w _ _ (by rw[strOfNums_size,strOfNums_size];exact h),str_app]
end Go.Proofs.YtbbmjdddemahfaaGreat
