/- Part of the proof. -/
import Derived.Test.YtbbmjdddemahfaaGreatSW27
import Derived.Lib.SlBytesConst
namespace Go.Proofs.YtbbmjdddemahfaaGreat
open Go.RowKit

theorem byt_of {l:List Int}(h:(l.all fun x=>decide (0≤x∧x<256))=true):Byt l:=fun x hx=>by
 have:=List.all_eq_true.1 h x hx;simpa using this
theorem rd_lit_m (w:World) (fr:Nat × Nat) (k:IntKind) (L:List Int) (t:TypeId) (cs:Array Value) (hc:cs.toList=L.map (Value.int k)) (hm:L.length≤1099511627776) :
  RdK k (w.alloc (.cells cs t fr)) (w.alloc (.cells cs t fr)).heap.size (some ⟨w.heap.size,0,none⟩) L.length L.length L :=
 ⟨rfl,Nat.le_refl _,by unfold maxLen;omega,fun _=>⟨w.heap.size,0,rfl,by simp,fun j u hu=>by
  rw[World.cell?_alloc_mark,Nat.zero_add]
  have:cs.toList[j]?=some (.int k u):=by rw[hc];simp[hu]
  simpa using this⟩⟩
end Go.Proofs.YtbbmjdddemahfaaGreat
