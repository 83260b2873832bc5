/- Part of the proof. -/
import Derived.Test.YtbbmjdddemahfaaGreatRows
import Derived.Test.YtbbmjdddemahfaaGreatSW02
import Derived.WalkKit
import Derived.WalkSpells
import Derived.WalkLawsBesides
import Derived.Below
import Derived.Laws.OwnMore
import Derived.Deep.AppendLies
import Derived.Deep.Draws
import Derived.Lib.Hide
namespace Go.Proofs.YtbbmjdddemahfaaGreat
open Go.RowKit
open M (Rg)

theorem qt_ {B:Nat}{a w:World}(h:Below B a w) (q:Nat):Below B a (w.drewN q):=⟨h.os,h.tape,h.output,h.size,h.block⟩

def cellsR:List Rg→List Value
 | []=>[]
 | r :: t=>.int .i64 r.1 :: .int .i64 r.2 :: cellsR t
theorem zu_ (L:List Rg):(cellsR L).length=L.length*2:=by
 induction L with
 | nil=>rfl
 | cons r t ih=>simp[cellsR,ih];omega
theorem zi_ (a b:List Rg):cellsR (a++b)=cellsR a++cellsR b:=by
 induction a with
 | nil=>rfl
 | cons r t ih=>simp[cellsR,ih]
theorem cellsR_lo (L:List Rg) (k:Nat) (h:k<L.length):(cellsR L)[k*2]?=some (.int .i64 L[k].1):=by
 induction L generalizing k with
 | nil=>simp at h
 | cons r t ih =>
  cases k with
  | zero=>rfl
  | succ k=>simp only[cellsR,Nat.succ_mul,List.getElem?_cons_succ,List.getElem_cons_succ];exact ih k (by simpa using h)
theorem cellsR_hi (L:List Rg) (k:Nat) (h:k<L.length):(cellsR L)[k*2+1]?=some (.int .i64 L[k].2):=by
 induction L generalizing k with
 | nil=>simp at h
 | cons r t ih =>
  cases k with
  | zero=>rfl
  | succ k=>simp only[cellsR,Nat.succ_mul,Nat.add_right_comm _ 2 1,List.getElem?_cons_succ,List.getElem_cons_succ];exact ih k (by simpa using h)

structure Rd (w:World) (B:Nat) (A:Option Addr) (n c:Nat) (L:List Rg):Prop where
 len:L.length=n
 cap:n≤c
 capm:c≤maxLen
 at_:0<n→∃ b off,A=some ⟨b,off,none⟩∧b<B∧∀ j u,(cellsR L)[j]?=some u→w.cell? ⟨b,off+j,none⟩=some u

theorem add_none (b off j:Nat):(⟨b,off,none⟩:Addr).add j=⟨b,off+j,none⟩:=by
 unfold Addr.add;by_cases h:j=0 <;> simp[h]

section
variable {w w' : World}{B B' n c:Nat}{A:Option Addr}{L:List Rg}
theorem Rd.keep (h:Rd w B A n c L) (hk:∀ p:Addr,p.block<B→w'.cell? p=w.cell? p):Rd w' B A n c L :=
 ⟨h.len,h.cap,h.capm,fun hn=>by
  obtain ⟨b,off,e,hb,hc⟩:=h.at_ hn
  exact ⟨b,off,e,hb,fun j u hu=>(hk _ hb).trans (hc j u hu)⟩⟩
theorem Rd.more (h:Rd w B A n c L) (hB:B≤B'):Rd w B' A n c L :=
 ⟨h.len,h.cap,h.capm,fun hn=>by
  obtain ⟨b,off,e,hb,hc⟩:=h.at_ hn
  exact ⟨b,off,e,by omega,hc⟩⟩
theorem Rd.below (h:Rd w B A n c L) (hb:Below B w w'):Rd w' B A n c L:=h.keep fun _ hp=>hb.cell hp
theorem Rd.drewN (h:Rd w B A n c L) (k:Nat):Rd (w.drewN k) B A n c L:=⟨h.len,h.cap,h.capm,h.at_⟩
theorem Rd.setCell (h:Rd w B A n c L){p:Addr}(hB:B≤p.block) (u:Value):Rd (w.setCell p u) B A n c L :=
 h.keep fun q hq=>World.cell?_setCell_other w p q u (fun e=>by subst e;omega)
theorem Rd.nil (w:World) (B:Nat):Rd w B none 0 0 []:=⟨rfl,Nat.le_refl _,by simp[maxLen],fun h=>absurd h (by omega)⟩
theorem Rd.of_own {base:Nat}{e:TypeId}(h:w.ownsRow base e 2 (.slice A n c) n (cellsR L)):Rd w w.heap.size A n c L:=by
 have hl:L.length=n:=by have:=h.1;rw[zu_] at this;omega
 rcases h.2 with ⟨h1,h2⟩|⟨g,cap,cur,h1,_,hg,h3,h4,_,_⟩
 ·injection h1 with a1 a2 a3;subst a1 a3;exact ⟨hl,by omega,by simp[maxLen],fun h=>absurd h (by omega)⟩
 ·injection h1 with a1 a2 a3;subst a1 a3
  have hlt:g<w.heap.size:=by
   rcases Nat.lt_or_ge g w.heap.size with hlt|hge
   ·exact hlt
   ·rw[Array.getElem?_eq_none hge] at hg;cases hg
  exact ⟨hl,h3,h4,fun _=>⟨g,0,rfl,hlt,fun j u hu=>by rw[← add_none];exact h.cells (g:=g) rfl j u hu⟩⟩
theorem Rd.pair (h:Rd w B A n c L){k:Nat}(hk:k<L.length):∃ b off,A=some ⟨b,off,none⟩∧b<B∧w.cell? ⟨b,off+k*2,none⟩=some (.int .i64 L[k].1)∧w.cell? ⟨b,off+k*2+1,none⟩=some (.int .i64 L[k].2):=by
 obtain ⟨b,off,e,hb,hc⟩:=h.at_ (by have:=h.len;omega)
 exact ⟨b,off,e,hb,hc _ _ (cellsR_lo L k hk),hc _ _ (cellsR_hi L k hk)⟩
theorem Rd.got (h:Rd w B A n c L){k:Nat}(hk:k<n):∃ (b off:Nat) (lo hi:Int),A=some ⟨b,off,none⟩∧b<B∧L[k]?=some (lo,hi)∧w.cell? ⟨b,off+k*2,none⟩=some (.int .i64 lo)∧w.cell? ⟨b,off+k*2+1,none⟩=some (.int .i64 hi):=by
 have hl:k<L.length:=by have:=h.len;omega
 obtain ⟨b,off,e,hb,h1,h2⟩:=h.pair hl
 exact ⟨b,off,_,_,e,hb,List.getElem?_eq_getElem hl,h1,h2⟩
end
end Go.Proofs.YtbbmjdddemahfaaGreat
