/- Part of the proof. -/
import Derived.Test.YtbbmjdddemahfaaGreatSW03
import Derived.ProofKit
import Derived.Deep.Slices
import Derived.Deep.Fields
import Derived.ChangeSame
namespace Go.Proofs.YtbbmjdddemahfaaGreat
open Go.ChangeShapes Go.WideShapes Go.ChangeAt Go.RowKit Go.Deep
open M (Rg)

theorem Tryz.own:ownKnob Tryz.prog.godebug=none:=by kernel_rfl
theorem Tryz.laidOut:laidOutB Tryz.prog=true:=by kernel_rfl

theorem cells_I:Tryz.prog.cellsOf 3=1:=by kernel_rfl
theorem cells_R:Tryz.prog.cellsOf 108=2:=by kernel_rfl
theorem lt_of_cell {w:World}{a:Addr}{v:Value}(h:w.cell? a=some v):a.block<w.heap.size:=by
 rcases Nat.lt_or_ge a.block w.heap.size with hlt|hge
 ·exact hlt
 ·unfold World.cell? at h;rw[Array.getElem?_eq_none hge] at h;cases h

theorem pairs_of (w:World) (a:Addr):∀ (n:Nat),(∀ i,i<n→∃ lo hi:Int,w.cell? (a.add (i*2))=some (.int .i64 lo)∧w.cell? (a.add (i*2+1))=some (.int .i64 hi)) →
  ∃ L:List Rg,L.length=n∧∀ i,(h:i<L.length)→w.cell? (a.add (i*2))=some (.int .i64 L[i].1)∧w.cell? (a.add (i*2+1))=some (.int .i64 L[i].2)
 | 0,_=>⟨[],rfl,fun i h=>absurd h (by simp)⟩
 | n+1,h=>by
  obtain ⟨L,hl,hc⟩:=pairs_of w a n fun i hi=>h i (by omega)
  obtain ⟨lo,hi,h1,h2⟩:=h n (by omega)
  refine ⟨L++[(lo,hi)],by simp[hl],fun i hi' => ?_⟩
  by_cases hin:i<L.length
  ·rw[List.getElem_append_left hin];exact hc i hin
  ·have:i=L.length:=by simp at hi'; omega
   subst this
   simp[hl,h1,h2]

end Go.Proofs.YtbbmjdddemahfaaGreat
