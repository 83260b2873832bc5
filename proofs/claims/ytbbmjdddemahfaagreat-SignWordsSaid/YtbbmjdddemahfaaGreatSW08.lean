/- Part of the proof. -/
import Derived.WalkKit
namespace Go.Proofs.YtbbmjdddemahfaaGreat
namespace Q
def isC (c:Int):Bool:=decide (0≤c∧c≤1114111)
def plainB (c:Int):Bool:=decide (97≤c∧c≤122∨65≤c∧c≤90∨48≤c∧c≤57)
theorem isC_iff (c:Int):isC c=true↔0≤c∧c≤1114111:=by unfold isC;exact decide_eq_true_iff
theorem plain_iff (c:Int):plainB c=true↔(97≤c∧c≤122∨65≤c∧c≤90∨48≤c∧c≤57):=by unfold plainB;exact decide_eq_true_iff
def dig (d:Int):Int:=if d<10 then 48+d else 87+d
def hexF:Nat→Int→List Int
 | 0,_=>[]
 | f+1,n=>if n<16 then [dig n] else hexF f (n / 16)++[dig (n % 16)]
def textB (c:Int):List Int:=if plainB c then [c] else [92,117,123]++hexF 6 c++[125]
def flatT (L:List Int):List Int:=L.flatMap textB
def digV (c:Int):Int:=if 48≤c∧c≤57 then c - 48 else if 97≤c∧c≤102 then c - 97+10 else if 65≤c∧c≤70 then c - 65+10 else -1
theorem digV_bd (c:Int):-1≤digV c∧digV c≤15:=by unfold digV;split <;> (try split) <;> (try split) <;> omega
inductive R where
 | ok (c:Int) (k:Nat)
 | bad (e:Int)
def numS:List Int→Nat→Int→Nat→R
 | [],_,_,_=>.bad 5
 | c :: t,d,v,p=>if c=125∧0<d∧isC v=true then .ok v (p+1) else if digV c<0∨d=6 then .bad 6 else numS t (d+1) (v*16+digV c) (p+1)
def uS:List Int→Nat→R
 | [],_=>.bad 5
 | c :: t,p=>if c=123 then numS t 0 0 (p+1) else .bad 6
def escS:List Int→Nat→R
 | [],_=>.bad 5
 | c :: t,p=>if c=117 then uS t (p+1) else if c=110 then .ok 10 (p+1) else if c=116 then .ok 9 (p+1) else if 33≤c∧c≤126∧plainB c=false then .ok c (p+1) else .bad 6
def readS:List Int→Nat→R
 | [],_=>.bad 5
 | c :: t,p=>if c=92 then escS t (p+1) else if isC c=true then .ok c (p+1) else .bad 6
theorem flat_app (A B:List Int):flatT (A++B)=flatT A++flatT B:=by simp[flatT]
theorem num_in:∀ (l:List Int) (d:Nat) (v:Int) (p:Nat) (c:Int) (n:Nat),numS l d v p=.ok c n→isC c=true∧p<n∧n≤p+l.length
 | [],d,v,p,c,n,h=>by simp[numS] at h
 | x :: t,d,v,p,c,n,h=>by
  rw[numS] at h
  split at h
  ·rename_i h1
   injection h with e1 e2
   subst e1 e2
   exact ⟨h1.2.2,by omega,by simp only[List.length_cons];omega⟩
  ·split at h
   ·cases h
   ·have:=num_in t _ _ _ _ _ h
    exact ⟨this.1,by omega,by simp only[List.length_cons];omega⟩
theorem read_in {l:List Int}{p:Nat}{c:Int}{n:Nat}(h:readS l p=.ok c n):isC c=true∧p<n∧n≤p+l.length:=by
 cases l with
 | nil=>simp[readS] at h
 | cons x t =>
  rw[readS] at h
  split at h
  ·cases t with
   | nil=>simp[escS] at h
   | cons y u =>
    rw[escS] at h
    split at h
    ·cases u with
     | nil=>simp[uS] at h
     | cons z o =>
      rw[uS] at h
      split at h
      ·have:=num_in _ _ _ _ _ _ h;exact ⟨this.1,by omega,by simp only[List.length_cons];omega⟩
      ·cases h
    ·split at h
     ·injection h with e1 e2;subst e1 e2;exact ⟨by decide,by omega,by simp only[List.length_cons];omega⟩
     ·split at h
      ·injection h with e1 e2;subst e1 e2;exact ⟨by decide,by omega,by simp only[List.length_cons];omega⟩
      ·split at h
       ·injection h with e1 e2;subst e1 e2;exact ⟨by rw[isC_iff];omega,by omega,by simp only[List.length_cons];omega⟩
       ·cases h
  ·split at h
   ·rename_i h1;injection h with e1 e2;subst e1 e2;exact ⟨h1,by omega,by simp only[List.length_cons];omega⟩
   ·cases h
end Q
end Go.Proofs.YtbbmjdddemahfaaGreat
