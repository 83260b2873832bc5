/- Part of the proof. -/
import Derived.Test.YtbbmjdddemahfaaGreatSW01
import Derived.Test.YtbbmjdddemahfaaGreatSW04
import Derived.Test.YtbbmjdddemahfaaGreatSW06
set_option maxRecDepth 100000
namespace Go.Proofs.YtbbmjdddemahfaaGreat
open Go.RowKit
open M (Rg)
open Y (Nd It)

noncomputable def toldL (tl:Bool→Bool→Bool) (a b:List Rg):List Rg:=Classical.epsilon (IsTold tl a b)
theorem told_one {tl:Bool→Bool→Bool}{a b L R:List Rg}(h:IsTold tl a b L) (k:IsTold tl a b R):L=R:=told_is h k.1 k.2
theorem told_eq {tl:Bool→Bool→Bool}{a b L:List Rg}(h:IsTold tl a b L):L=toldL tl a b:=told_one h (Classical.epsilon_spec (p:=IsTold tl a b) ⟨L,h⟩)
def vrFind (l:List Vr) (s:ByteArray):Option Nat:=l.findIdx? (fun v=>decide (v.name=s))
def fewD (L:List Rg):Int × List Rg:=if 400<L.length then (9,[]) else (0,L)
noncomputable def orsD:List Rg→List (List Rg)→Int × List Rg
 | acc,[]=>(0,acc)
 | acc,x :: t=>if 400<(toldL (fun x y=>x || y) acc x).length then (9,[]) else orsD (toldL (fun x y=>x || y) acc x) t
noncomputable def dSetOf (vs:List Vr) (k lo hi:Int) (nm:ByteArray) (r:List (List Rg)):Int × List Rg :=
 if k=5 then fewD (M.plainL [(lo,hi)])
 else if k=3 then fewD (toldL (fun x _=>!x) [] [])
 else if k=2 then
  (match vrFind vs nm with
  | none=>(10,[])
  | some i=>(match vs[i]? with|none=>(10,[])|some v=>if v.set=true then fewD (M.plainL v.pat.set) else (12,[])))
 else if k=4 then
  (if (orsD [] r).1≠0 then ((orsD [] r).1,[]) else if lo=1 then fewD (toldL (fun x _=>!x) (orsD [] r).2 []) else fewD (orsD [] r).2)
 else if k=6 then (match r with | [a,b]=>fewD (toldL (fun x y=>x && y) a b)|_=>(12,[]))
 else if k=7 then (match r with | [a,b]=>fewD (toldL (fun x y=>x && !y) a b)|_=>(12,[]))
 else (12,[])
def innerD (k:Int):Bool:=decide (k=4) || (decide (k=6) || decide (k=7))
mutual
noncomputable def dSet (vs:List Vr):Nd→Int × List Rg
 | .mk k nm lo hi l=>if innerD k=true then (if (dSets vs l).1≠0 then ((dSets vs l).1,[]) else dSetOf vs k lo hi nm (dSets vs l).2) else dSetOf vs k lo hi nm []
noncomputable def dSets (vs:List Vr):List Nd→Int × List (List Rg)
 | []=>(0,[])
 | x :: t=>if (dSet vs x).1≠0 then ((dSet vs x).1,[]) else if (dSets vs t).1≠0 then ((dSets vs t).1,[]) else (0,(dSet vs x).2 :: (dSets vs t).2)
end
def joinD (k:Int):Bool:=decide (8≤k) && decide (k≤12)
mutual
noncomputable def dWhole (vs:List Vr):Nd→Int × Pt
 | .mk k nm lo hi l =>
  if k=1 then (0,.mk 1 [] [] [])
  else if k=3∨k=4 then (if (dSet vs (.mk k nm lo hi l)).1≠0 then ((dSet vs (.mk k nm lo hi l)).1,zeroP) else (0,.mk 2 (dSet vs (.mk k nm lo hi l)).2 [] []))
  else if k=2 then (match vrFind vs nm with|none=>(10,zeroP)|some i=>(match vs[i]? with|none=>(10,zeroP)|some v=>(0,v.pat)))
  else if joinD k=true then (if (dWholes vs l).1≠0 then ((dWholes vs l).1,zeroP) else (0,.mk (k - 5) [] [] (dWholes vs l).2))
  else (12,zeroP)
noncomputable def dWholes (vs:List Vr):List Nd→Int × List Pt
 | []=>(0,[])
 | x :: t=>if (dWhole vs x).1≠0 then ((dWhole vs x).1,[]) else if (dWholes vs t).1≠0 then ((dWholes vs t).1,[]) else (0,(dWhole vs x).2 :: (dWholes vs t).2)
end
noncomputable def dExpand (vs:List Vr) (n:Nd):Int × Pt :=
 if (dWhole vs n).1≠0 then ((dWhole vs n).1,zeroP) else if 300<(dWhole vs n).2.size then (9,zeroP) else (0,(dWhole vs n).2)
structure Bk where
 vars:List Vr
 rules:List Rl
 allows:List It
def rlFind (l:List Rl) (n:Int):Option Nat:=l.findIdx? (fun r=>decide (r.number=n))
def rlPut (l:List Rl) (r:Rl):List Rl:=l.takeWhile (fun x=>decide (x.number<r.number))++r :: l.dropWhile (fun x=>decide (x.number<r.number))
def hasT (l:List ByteArray) (s:ByteArray):Bool:=l.any fun x=>decide (x=s)
def putNames (l:List ByteArray):List ByteArray→List ByteArray
 | []=>l
 | x :: t=>putNames (if hasT l x=true then l else l++[x]) t
mutual
def dNames:Nd→List ByteArray
 | .mk k nm _ _ l=>dNamesL (if k=2 then [nm] else []) l
def dNamesL:List ByteArray→List Nd→List ByteArray
 | acc,[]=>acc
 | acc,x :: t=>dNamesL (putNames acc (dNames x)) t
end
end Go.Proofs.YtbbmjdddemahfaaGreat
