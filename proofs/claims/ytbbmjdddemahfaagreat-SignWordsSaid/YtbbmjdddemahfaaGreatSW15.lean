/- Part of the proof. -/
import Derived.Test.YtbbmjdddemahfaaGreatSW04
import Derived.Test.YtbbmjdddemahfaaGreatSW14
import Derived.Test.YtbbmjdddemahfaaGreatSW02
import Derived.Shelf.Abstract
import Derived.Shelf.GgClosure.Gives
namespace Go.Proofs.YtbbmjdddemahfaaGreat
open Go.RowKit Go.Shelf Go.Lib Go.Sort
open M (Rg)

set_option maxHeartbeats 1000000 in
theorem cmp_closure (x y:Rg) (W:World):Calls Tryz.prog 76 #[.agg #[.int .i64 x.1,.int .i64 x.2],.agg #[.int .i64 y.1,.int .i64 y.2]] W fun e w' => e=.returned (.int .i64 (Lib.compareInt x.1 y.1))∧∃ q os', w' = grow (W.drewN q) os' := by
 have hcon:=fun W' => AnyG.cmp_Compare_int Tryz.layCmpInt x.1 y.1 W'
 change ∀ W', Calls Tryz.prog 77 _ _ _ at hcon
 generalize Lib.compareInt x.1 y.1=r at hcon ⊢
 go_enter Tryz.func76,Tryz.ntmps76
 go_wp2_with (go_at_call 77;refine (hcon _).mono ?_;rintro e w' ⟨rfl,rfl⟩)
 go_ret
 exact ⟨rfl,0,_,by rw[alloc_eq_grow,alloc_eq_grow,grow_grow];rfl⟩
theorem cmp_lays (blk off size:Nat) (w:World):CmpLays Tryz.prog 76 #[] encR 2 (fun x y=>Lib.compareInt x.1 y.1) blk off size w :=
 fun _ _ _ _ x y=>cmp_closure x y _
theorem ltLow (x y:Rg):ltOf (fun x y:Rg=>Lib.compareInt x.1 y.1) x y=decide (x.1<y.1):=by
 unfold ltOf Lib.compareInt
 by_cases h1:x.1<y.1
 ·simp[h1]
 ·by_cases h2:y.1<x.1 <;> simp[h1,h2]
theorem swoLow:SWO (ltOf fun x y:Rg=>Lib.compareInt x.1 y.1) where
 irrefl x:=by rw[ltLow];simp
 trans x y z h1 h2:=by rw[ltLow] at *;simp at *;omega
 ntrans x y z h1 h2:=by rw[ltLow] at *;simp at *;omega
theorem below_sorted {B:Nat}{w:World}{g off n:Nat}{d:Array Rg}{os:Array Obj}(hB:B≤g) (hs:B≤w.heap.size):RowKit.Below B w (sortWorldK encR 2 w g off n d os):=by
 refine ⟨rfl,rfl,rfl,size_sortWorldK_c _ _ _ _ _ _ _ _,fun k hk=>?_⟩
 unfold sortWorldK grow putRowK putRow mapBlock Sort.ahead
 simp only[]
 rw[Array.getElem?_append_left (by simp;omega),Array.getElem?_modify,if_neg (by omega)]
theorem cells_flat (L:List Rg) (t:Nat) (h:t<L.length*2):(cellsR L)[t]?=some ((encR L.toArray[t / 2]!)[t % 2]!):=by
 have ht:t / 2<L.length:=by omega
 have e:L.toArray[t / 2]! = L[t / 2]:=by simp[ht]
 rw[e]
 rcases (show t % 2=0∨t % 2=1 by omega) with h2|h2
 ·have:t=t / 2*2:=by omega
  rw[h2]
  conv=>lhs;rw[this]
  rw[cellsR_lo L _ ht];rfl
 ·have:t=t / 2*2+1:=by omega
  rw[h2]
  conv=>lhs;rw[this]
  rw[cellsR_hi L _ ht];rfl
theorem holds_own {w:World}{B g n c:Nat}{L:List Rg}(h:Own w B (some ⟨g,0,none⟩) n c L):HoldsK encR 2 w g 0 L.toArray:=by
 have hl:=h.len
 intro j hj
 rw[size_flatK] at hj
 have hj' : j<L.length*2:=by simpa using hj
 rw[get_flatK _ _ _ _ hj,Nat.zero_add]
 refine ⟨?_,World.ownsRow.frozenAt h j⟩
 rw[World.ownsRow.cellAt h j (by omega),cells_flat L j hj'];rfl
theorem rd_holds {w:World}{g c:Nat}{d:Array Rg}(h:HoldsK encR 2 w g 0 d) (hg:g<w.heap.size) (hc:d.size≤c) (hm:c≤maxLen):Rd w w.heap.size (some ⟨g,0,none⟩) d.size c d.toList:=by
 refine ⟨by simp,hc,hm,fun _=>⟨g,0,rfl,hg,fun j u hu=>?_⟩⟩
 have hj:j<d.toList.length*2:=by
  have:=(List.getElem?_eq_some_iff.1 hu).1;rw[zu_] at this;exact this
 have hj2:j<d.size*2:=by simpa using hj
 have:=(h j (by rw[size_flatK];exact hj2)).1
 rw[get_flatK _ _ _ _ hj2] at this
 rw[this,← hu,cells_flat _ j hj];rfl
def Sorted (w:World) (B:Nat) (A:Option Addr) (n c:Nat) (L:List Rg) (e:Ending) (w' : World):Prop :=
 e=.returned (.tuple #[])∧∃ L', L'.Perm L∧L'.Pairwise (fun x y=>x.1≤y.1)∧Rd w' w'.heap.size A n c L' ∧ RowKit.Below B w w'
theorem sort_any {w:World}{B:Nat}{A:Option Addr}{n c:Nat}{L:List Rg}(ho:Own w B A n c L) (hB:B≤w.heap.size) (hn:n≤4000000) :
  Calls Tryz.prog 75 #[.slice A n c,.func (.func 76) #[] #[]] w (Sorted w B A n c L):=by
 have hl:=ho.len
 by_cases h0:n=0
 ·subst h0
  have hL:L=[]:=List.eq_nil_of_length_eq_zero hl
  subst hL
  have hcon:=AnyF.slices_SortFunc_none Tryz.layRangeSort A c (.func (.func 76) #[] #[]) w
  change Calls Tryz.prog 75 _ _ _ at hcon
  exact hcon.mono fun e w' ⟨he,hw⟩=>⟨he,[],List.Perm.refl _,List.Pairwise.nil,by rw[hw];exact ho.rd,by rw[hw];exact RowKit.Below.refl _ _⟩
 ·rcases ho.2 with ⟨_,h2⟩|⟨g,cap,cur,h1,hBg,hgh,h3,h4,_,_⟩
  ·omega
  ·injection h1 with a1 a2 a3;subst a1 a3
   have hg:=(World.ownsRow.lt ho g rfl).2
   have hH:=holds_own ho
   have eg:∀ args w,(callFunc 76 args).run Tryz.prog w=.ok (.enter 76 args) w:=enters_of Tryz.func76 (by kernel_rfl) rfl
   have hcon:=AnyQ.slices_SortFunc Tryz.layRangeSort 2 Tryz.isAgg108 Tryz.sizeOf108 encR encR_len encR_one (fun x y=>Lib.compareInt x.1 y.1) swoLow 76 #[] g 0 c L.toArray w eg (cmp_lays g 0 _ w) hH hg (by simp;omega)
   change Calls Tryz.prog 75 _ _ _ at hcon
   have hsz:L.toArray.size=n:=by simpa using hl
   rw[hsz] at hcon
   refine hcon.mono ?_
   rintro e w' ⟨rfl,d', k,os,⟨hp1,_,hp3⟩,hs,rfl⟩
   have hd:d'.size=n:=hp1.trans hsz
   have hH' := holdsK_sortWorldK_c encR 2 w g 0 L.toArray d' k os hH hg hp1
   refine ⟨rfl,d'.toList,?_,?_,?_,below_sorted hBg hB⟩
   ·have e1:(d'.extract 0 n).toList=d'.toList:=by rw[← hd];simp
    have e2:(L.toArray.extract 0 n).toList=L:=by rw[← hsz];simp
    rwa [e1,e2] at hp3
   ·rw[List.pairwise_iff_getElem]
    intro i j hi hj hij
    have:=hs i j (by omega) hij (by simp at hj;omega)
    rw[ltLow] at this
    have ei:d'[i]! = d'.toList[i]:=by simp at hi;simp[hi]
    have ej:d'[j]! = d'.toList[j]:=by simp at hj;simp[hj]
    rw[ei,ej] at this
    simpa using this
   ·have:=rd_holds (c:=c) hH' (Nat.lt_of_lt_of_le hg (size_sortWorldK_c _ _ _ _ _ _ _ _)) (by omega) h4
    rwa [hd] at this

def OwnE (w:World) (B:Nat) (A:Option Addr) (n c:Nat) (L:List Rg):Prop:=w.ownsRow B 146 2 (.slice A n c) n (cellsR L)
theorem OwnE.len {w:World}{B:Nat}{A:Option Addr}{n c:Nat}{L:List Rg}(h:OwnE w B A n c L):L.length=n:=by
 have:=h.1;rw[zu_] at this;omega
theorem OwnE.rd {w:World}{B:Nat}{A:Option Addr}{n c:Nat}{L:List Rg}(h:OwnE w B A n c L):Rd w w.heap.size A n c L:=Rd.of_own h
set_option maxHeartbeats 1000000 in
theorem cmp_closureE (x y:Rg) (W:World):Calls Tryz.prog 95 #[.agg #[.int .i64 x.1,.int .i64 x.2],.agg #[.int .i64 y.1,.int .i64 y.2]] W fun e w' => e=.returned (.int .i64 (Lib.compareInt x.1 y.1))∧∃ q os', w' = grow (W.drewN q) os' := by
 have hcon:=fun W' => AnyG.cmp_Compare_int Tryz.layCmpInt x.1 y.1 W'
 change ∀ W', Calls Tryz.prog 77 _ _ _ at hcon
 generalize Lib.compareInt x.1 y.1=r at hcon ⊢
 go_enter Tryz.func95,Tryz.ntmps95
 go_wp2_with (go_at_call 77;refine (hcon _).mono ?_;rintro e w' ⟨rfl,rfl⟩)
 go_ret
 exact ⟨rfl,0,_,by rw[alloc_eq_grow,alloc_eq_grow,grow_grow];rfl⟩
theorem cmp_laysE (blk off size:Nat) (w:World):CmpLays Tryz.prog 95 #[] encR 2 (fun x y=>Lib.compareInt x.1 y.1) blk off size w :=
 fun _ _ _ _ x y=>cmp_closureE x y _
theorem holds_ownE {w:World}{B g n c:Nat}{L:List Rg}(h:OwnE w B (some ⟨g,0,none⟩) n c L):HoldsK encR 2 w g 0 L.toArray:=by
 have hl:=h.len
 intro j hj
 rw[size_flatK] at hj
 have hj' : j<L.length*2:=by simpa using hj
 rw[get_flatK _ _ _ _ hj,Nat.zero_add]
 refine ⟨?_,World.ownsRow.frozenAt h j⟩
 rw[World.ownsRow.cellAt h j (by omega),cells_flat L j hj'];rfl
theorem sort_block {w:World}{g off n:Nat}{d:Array Rg}{os:Array Obj}{cur:Array Value}{t:TypeId}{fr:Nat × Nat}(h:w.heap[g]?=some (.cells cur t fr)):∃ cs,(sortWorldK encR 2 w g off n d os).heap[g]?=some (.cells cs t fr):=by
 have hg:=(Array.getElem?_eq_some_iff.1 h).1
 unfold sortWorldK grow putRowK putRow mapBlock Sort.ahead
 simp only[]
 rw[Array.getElem?_append_left (by simpa using hg),Array.getElem?_modify,if_pos rfl,h]
 exact ⟨_,rfl⟩
def SortedE (w:World) (B:Nat) (A:Option Addr) (n c:Nat) (L:List Rg) (e:Ending) (w' : World):Prop :=
 e=.returned (.tuple #[])∧∃ L', L'.Perm L∧L'.Pairwise (fun x y=>x.1≤y.1)∧Rd w' w'.heap.size A n c L' ∧ (0<n→∃ b cs,A=some ⟨b,0,none⟩∧B≤b∧w'.heap[b]?=some (.cells cs 146 (0,0)))∧RowKit.Below B w w'
theorem sort_anyE {w:World}{B:Nat}{A:Option Addr}{n c:Nat}{L:List Rg}(ho:OwnE w B A n c L) (hB:B≤w.heap.size) (hn:n≤4000000) :
  Calls Tryz.prog 94 #[.slice A n c,.func (.func 95) #[] #[]] w (SortedE w B A n c L):=by
 have hl:=ho.len
 by_cases h0:n=0
 ·subst h0
  have hL:L=[]:=List.eq_nil_of_length_eq_zero hl
  subst hL
  have hcon:=AnyF.slices_SortFunc_none Tryz.layEdgeSort A c (.func (.func 95) #[] #[]) w
  change Calls Tryz.prog 94 _ _ _ at hcon
  exact hcon.mono fun e w' ⟨he,hw⟩=>⟨he,[],List.Perm.refl _,List.Pairwise.nil,by rw[hw];exact ho.rd,(fun h=>absurd h (by omega)),by rw[hw];exact RowKit.Below.refl _ _⟩
 ·rcases ho.2 with ⟨_,h2⟩|⟨g,cap,cur,h1,hBg,hgh,h3,h4,_,_⟩
  ·omega
  ·injection h1 with a1 a2 a3;subst a1 a3
   have hg:=(World.ownsRow.lt ho g rfl).2
   have hH:=holds_ownE ho
   have eg:∀ args w,(callFunc 95 args).run Tryz.prog w=.ok (.enter 95 args) w:=enters_of Tryz.func95 (by kernel_rfl) rfl
   have hcon:=AnyQ.slices_SortFunc Tryz.layEdgeSort 2 Tryz.isAgg146 Tryz.sizeOf146 encR encR_len encR_one (fun x y=>Lib.compareInt x.1 y.1) swoLow 95 #[] g 0 c L.toArray w eg (cmp_laysE g 0 _ w) hH hg (by simp;omega)
   change Calls Tryz.prog 94 _ _ _ at hcon
   have hsz:L.toArray.size=n:=by simpa using hl
   rw[hsz] at hcon
   refine hcon.mono ?_
   rintro e w' ⟨rfl,d', k,os,⟨hp1,_,hp3⟩,hs,rfl⟩
   have hd:d'.size=n:=hp1.trans hsz
   have hH' := holdsK_sortWorldK_c encR 2 w g 0 L.toArray d' k os hH hg hp1
   obtain ⟨cs,hcs⟩:=sort_block (off:=0) (n:=k) (d:=d') (os:=os) hgh
   refine ⟨rfl,d'.toList,?_,?_,?_,fun _=>⟨g,cs,rfl,hBg,hcs⟩,below_sorted hBg hB⟩
   ·have e1:(d'.extract 0 n).toList=d'.toList:=by rw[← hd];simp
    have e2:(L.toArray.extract 0 n).toList=L:=by rw[← hsz];simp
    rwa [e1,e2] at hp3
   ·rw[List.pairwise_iff_getElem]
    intro i j hi hj hij
    have:=hs i j (by omega) hij (by simp at hj;omega)
    rw[ltLow] at this
    have ei:d'[i]! = d'.toList[i]:=by simp at hi;simp[hi]
    have ej:d'[j]! = d'.toList[j]:=by simp at hj;simp[hj]
    rw[ei,ej] at this
    simpa using this
   ·have:=rd_holds (c:=c) hH' (Nat.lt_of_lt_of_le hg (size_sortWorldK_c _ _ _ _ _ _ _ _)) (by omega) h4
    rwa [hd] at this
open Go.RowKit

def PlainSaid:Prop:=∀ (w:World) (A:Option Addr) (n c:Nat) (l:List Rg),Rd w w.heap.size A n c l→Calls Tryz.prog 59 #[.slice A n c] w (Left1 w.heap.size w (M.plainL l))
set_option maxHeartbeats 400000 in
theorem plain_great {w:World}{A:Option Addr}{n c:Nat}(hn:n≤maxLen) (h:400<n) :
  Calls Tryz.prog 59 #[.slice A n c] w fun e w' => e=.returned (.slice none 0 0)∧w=w' := by
 have hd:decide (400<n)=true:=by simpa using h
 go_enter Tryz.func59,Tryz.ntmps59
 go_wp2_with (go_at_call 56;refine (tooMany_any _ _ _ _ hn).mono ?_;rintro e w' ⟨rfl,rfl⟩)
 go_ret
 exact ⟨rfl,rfl⟩
def Clip (w:World) (l:List Rg) (k:Nat) (v:Value) (wr:World):Prop:=∃ A m c,v=.slice A m c∧Own wr w.heap.size A m c (M.clipL (l.take k))∧Below w.heap.size w wr
theorem clip_len (l:List Rg) (k:Nat):(M.clipL (l.take k)).length≤k:=Nat.le_trans (M.clipL_len _) (List.length_take_le _ _)
theorem clip_drop {w wx:World}{l:List Rg}{k:Nat}{A:Option Addr}{m c:Nat}{lo hi:Int}(hr:l[k]?=some (lo,hi)) (hno:¬ max lo 0≤min hi 1114111)
  (hown:Own wx w.heap.size A m c (M.clipL (l.take k))) (hb:Below w.heap.size w wx):Clip w l (k+1) (.slice A m c) wx:=by
 obtain ⟨hk,hr⟩:=List.getElem?_eq_some_iff.1 hr
 refine ⟨A,m,c,rfl,?_,hb⟩
 rw[M.clipL_take l k hk,hr,if_neg (show ¬ (M.clipR (lo,hi)).1≤(M.clipR (lo,hi)).2 from hno),List.append_nil];exact hown
theorem clip_keep {w wx:World}{l:List Rg}{k:Nat}{v:Value}{m:Nat}{lo hi:Int}(hr:l[k]?=some (lo,hi)) (hok:max lo 0≤min hi 1114111)
  (hown:wx.ownsRow w.heap.size 108 2 v (m+1) (cellsR (M.clipL (l.take k))++[.int .i64 (max lo 0),.int .i64 (min hi 1114111)])) (hb:Below w.heap.size w wx):Clip w l (k+1) v wx:=by
 obtain ⟨hk,hr⟩:=List.getElem?_eq_some_iff.1 hr
 have h2:wx.ownsRow w.heap.size 108 2 v (m+1) (cellsR (M.clipL (l.take (k+1)))):=by
  rw[M.clipL_take l k hk,hr,if_pos (show (M.clipR (lo,hi)).1≤(M.clipR (lo,hi)).2 from hok),zi_];exact hown
 obtain ⟨A,n,c,he,ho,hb'⟩:=left_of h2 hb
 injection he with he
 exact ⟨A,n,c,he,ho,hb'⟩
def Joined (w:World) (l:List Rg) (k:Nat) (v:Value) (wr:World):Prop:=∃ A m c,v=.slice A m c∧Own wr w.heap.size A m c (M.joinAll [] (l.take k))∧Below w.heap.size w wr
theorem joined_step {w wx:World}{l:List Rg}{k:Nat}{A:Option Addr}{m c:Nat}{lo hi:Int}(hr:l[k]?=some (lo,hi))
  (hown:Own wx w.heap.size A m c (M.joinL (M.joinAll [] (l.take k)) (lo,hi))) (hb:Below w.heap.size w wx):Joined w l (k+1) (.slice A m c) wx:=by
 obtain ⟨hk,hr⟩:=List.getElem?_eq_some_iff.1 hr
 refine ⟨A,m,c,rfl,?_,hb⟩
 rw[M.joinAll_take l k hk,hr];exact hown
theorem joined_least {l:List Rg}(hs:l.Pairwise fun x y=>x.1≤y.1) (hk:∀ r∈l,M.okR r) (k:Nat):M.LF 0 (M.joinAll [] (l.take k)) :=
 (M.joinAll_ok (L:=[]) (M:=l.take k) trivial (fun _ _ s hs' => by simp at hs') (fun r hr=>hk r (List.mem_of_mem_take hr)) (hs.sublist (List.take_sublist _ _))).1
set_option maxHeartbeats 2000000 in
theorem plain_few {w:World}{A:Option Addr}{n c:Nat}{l:List Rg}(h:Rd w w.heap.size A n c l) (hn:n≤400) :
  Calls Tryz.prog 59 #[.slice A n c] w (Left1 w.heap.size w (M.plainL l)):=by
 have hd:decide (400<n)=false:=by simp;omega
 obtain ⟨i0,hi0,hz0,hz1,hz2⟩:=info_parts info_R
 go_enter Tryz.func59,Tryz.ntmps59
 go_wp2_with (go_at_call 56;refine (tooMany_any _ _ _ _ (Nat.le_trans h.cap h.capm)).mono ?_;rintro e w' ⟨rfl,rfl⟩)
 go_loopw [3,15] (fun v i wr=>∃ k:Nat,k≤n∧i=.int .i64 k∧Clip w l k v wr) (fun _ i _=>n - (intOf i).toNat)
 case atStart=>exact ⟨0,Nat.zero_le _,rfl,none,0,0,rfl,World.ownsRow_nil _ _ _ _,Below.refl _ _⟩
 case round =>
  obtain ⟨k,hk,rfl,A', m,c', rfl,hown,hbel⟩:=hrel
  by_cases hlt:k<n
  ·obtain ⟨b,off,lo,hi,rfl,hb,hr,c1,c2⟩:=h.got hlt
   have c1' := (hbel.cell (p:=⟨b,off+k*2,none⟩) hb).trans c1
   have c2' := (hbel.cell (p:=⟨b,off+k*2+1,none⟩) hb).trans c2
   have hsz:=hbel.size
   have hml:m≤400:=by have:=clip_len l k;have:=hown.len;omega
   have HR:=ha_ hr
   have HO:=ha_ hown
   have HB:=ha_ hbel
   clear hr hown hbel c1 c2 h
   go_upto_region 7 with fail
   go_cut [6,7] (fun s6 s7 wx=>s6=.int .i64 (max lo 0)∧s7=.int .i64 (min hi 1114111)∧∃ q,wx=(wr.alloc (.cells #[.int .i64 lo,.int .i64 hi] 108)).drewN q)
   case first =>
    go_region
    go_wp2_with fail
    all_goals (go_meet;exact ⟨congrArg (Value.int .i64) (by omega),congrArg (Value.int .i64) (by omega),1,rfl⟩)
   case rest =>
    obtain ⟨rfl,rfl,q,rfl⟩:=hcut
    have HB2:=ha_ (qt_ (HB.out.alloc hsz (.cells #[.int .i64 lo,.int .i64 hi] 108)) q)
    have HO2:=ha_ (zf_ (World.ownsRow.alloc HO.out (.cells #[.int .i64 lo,.int .i64 hi] 108)) q)
    by_cases hok:max lo 0≤min hi 1114111
    ·have g1:decide (max lo 0≤min hi 1114111)=true:=by simpa using hok
     generalize hx:max lo 0=x at *
     generalize hy:min hi 1114111=y at *
     have HX:=ha_ hx
     have HY:=ha_ hy
     clear hx hy
     go_wp2_with (at_builtin;refine wpList_append_own _ rfl _ _ 44 rfl w.heap.size 108 i0 (.agg #[.int .i64 0,.int .i64 0]) 2 16 Tryz.underlying44 hi0 hz0 hz1 hz2 rfl (by decide) _ _ _ rfl (World.ownsRow.alloc HO2.out _) ⟨wr.heap.size+1,0,none⟩ 1 1 [.int .i64 x,.int .i64 y] rfl rfl ?c1 (news_one _ _) ?c3 ?c4 ?c5 ?_)
     case c1=>exact news_at _ _ (by simp) _ _ _
     case c3=>simp only[maxLen];omega
     case c4=>omega
     case c5=>simp;omega
     intro v' w1 hown' hgrow _
     have hb1:Below w.heap.size w w1:=by
      refine (HB2.out.alloc ?_ _).grown hgrow ?_ ?_
      ·simp;omega
      ·simp;omega
      ·intro k hk
       exact (HO.out.lt k hk).1
     have R:Clip w l (k+1) v' w1:=clip_keep HR.out (by rw[HX.out,HY.out];exact hok) (by rw[HX.out,HY.out];exact hown') hb1
     clear hown' hgrow hb1
     go_wp2
     go_roundw
     case rel=>exact ⟨k+1,by omega,by go_num,R⟩
     case measure=>simp[intOf];omega
    ·have g1:decide (max lo 0≤min hi 1114111)=false:=by simpa using hok
     have R:=clip_drop HR.out hok HO2.out HB2.out
     generalize hx:max lo 0=x at *
     generalize hy:min hi 1114111=y at *
     have HX:=ha_ hx
     have HY:=ha_ hy
     clear hx hy
     have RR:=ha_ R
     clear R
     go_wp2
     go_roundw
     case rel=>exact ⟨k+1,by omega,by go_num,RR.out⟩
     case measure=>simp[intOf];omega
  ·have hkn:k=n:=by omega
   have htk:l.take k=l:=List.take_of_length_le (by rw[h.len];omega)
   rw[htk] at hown
   have HN:Hid (n≤400∧l.length=n):=⟨hn,h.len⟩
   have hm:m≤400:=by have:=M.clipL_len l;have:=hown.len;have:=h.len;omega
   clear h htk hkn
   go_wp2_with fail
   refine (sort_any hown hbel.size (by omega)).mono ?_
   rintro e w2 ⟨rfl,L', hp,hs,hrd,hb2⟩
   have hb3:=hbel.trans hb2
   have HP:Hid (M.joinAll [] L' = M.plainL l):=M.plainL_of (by have:=HN.out;omega) hp hs
   have HK:Hid (∀ r∈L', M.okR r):=fun r hr=>M.clipL_ok l r (hp.mem_iff.1 hr)
   have HS:=ha_ hs
   have HB3:=ha_ hb3
   have HR:=ha_ hrd
   clear hb3 hp hs hrd hb2 hown hbel
   go_wp2_with fail
   go_loopw [8,39] (fun v i wx=>∃ j:Nat,j≤m∧i=.int .i64 j∧Joined w2 L' j v wx) (fun _ i _=>m - (intOf i).toNat)
   case atStart=>exact ⟨0,Nat.zero_le _,rfl,none,0,0,rfl,World.ownsRow_nil _ _ _ _,Below.refl _ _⟩
   case round =>
    obtain ⟨j,hj,rfl,A2,m2,c2,rfl,hown,hbel⟩:=hrel
    by_cases hlt:j<m
    ·obtain ⟨b,off,lo,hi,rfl,hb,hr,c1,c2'⟩:=HR.out.got hlt
     have d1:=(hbel.cell (p:=⟨b,off+j*2,none⟩) hb).trans c1
     have d2:=(hbel.cell (p:=⟨b,off+j*2+1,none⟩) hb).trans c2'
     have HJ:=ha_ hr
     have HO:=ha_ hown
     have HE:=ha_ hbel
     have HZ:Hid (M.LF 0 (M.joinAll [] (L'.take j))∧m2≤400):=⟨joined_least HS.out HK.out j,by
      have:=M.joinAll_len [] (L'.take j);have:=hown.len;simp at *;omega⟩
     clear hr hown hbel c1 c2'
     go_wp2_with fail
     refine (join_any (B:=w2.heap.size) (World.ownsRow.alloc HO.out _) (by have:=HE.out.size;simp;omega) (by have:=HZ.out;omega) HZ.out.1 (lo,hi)).mono ?_
     rintro e w5 ⟨A8,n8,c8,rfl,ho8,hb8⟩
     have R:Joined w2 L' (j+1) (.slice A8 n8 c8) w5:=joined_step HJ.out ho8 ((HE.out.alloc HE.out.size _).trans hb8)
     have RR:=ha_ R
     clear R ho8 hb8
     go_wp2
     go_roundw
     case rel=>exact ⟨j+1,by omega,by go_num,RR.out⟩
     case measure=>simp[intOf];omega
    ·have hjm:j=m:=by omega
     have R:Left1 w.heap.size w (M.plainL l) (.returned (.slice A2 m2 c2)) wr:=by
      rw[← HP.out]
      have ht:L'.take j=L' := List.take_of_length_le (by rw[HR.out.len];omega)
      rw[ht] at hown
      exact ⟨A2,m2,c2,rfl,own_mono hown HB3.out.size,HB3.out.trans (hbel.mono HB3.out.size)⟩
     have RR:=ha_ R
     clear R hown hbel hjm
     go_wp2
     go_ret
     exact RR.out
theorem plain_said:PlainSaid:=by
 intro w A n c l h
 by_cases hn:n≤400
 ·exact plain_few h hn
 ·refine (plain_great (Nat.le_trans h.cap h.capm) (by omega)).mono ?_
  rintro e w' ⟨rfl,rfl⟩
  have:M.plainL l=[]:=by unfold M.plainL;rw[if_neg (by rw[h.len];omega)]
  rw[this]
  exact ⟨none,0,0,rfl,World.ownsRow_nil _ _ _ _,Below.refl _ _⟩

theorem info_E:(Tryz.prog.info? 146).map (fun i=>(i.zero,i.size,i.bytes))=some (some (.agg #[.int .i64 0,.int .i64 0]),2,16):=by kernel_rfl
def edR (E:List M.Ed):List Rg:=E.map fun e=>(e.1,(e.2:Int))
theorem lists_get {gs:List Given}{k:Nat}{g:Given}(h:gs[k]?=some g):(listsOf gs).getD k []=g.l:=by
 rw[List.getD_eq_getElem?_getD];simp[listsOf,h]
theorem edges_bound {ls:List (List Rg)}(h:∀ l∈ls,l.length≤400) (k:Nat):(M.edgesTo ls k).length≤800*k:=by
 induction k with
 | zero=>simp[M.edgesTo]
 | succ k ih =>
  rw[M.edgesTo_succ,List.length_append]
  have h1:=(M.plainL_ok (ls.getD k [])).2.2
  have h2:(ls.getD k []).length≤400:=by
   by_cases g:k<ls.length
   ·rw[List.getD_eq_getElem?_getD,List.getElem?_eq_getElem g];exact h _ (List.getElem_mem g)
   ·rw[List.getD_eq_getElem?_getD,List.getElem?_eq_none (by omega)];simp
  have h3:(M.oneF k (M.plainL (ls.getD k []))).length=2*(M.plainL (ls.getD k [])).length:=by
   unfold M.oneF
   generalize M.plainL (ls.getD k [])=L
   induction L with
   | nil=>rfl
   | cons r t ih=>simp only[List.flatMap_cons,List.length_append,List.length_cons,List.length_nil,ih];omega
  omega
theorem one_take (n:Nat) (L:List Rg) (k:Nat) (lo hi:Int) (h:L[k]?=some (lo,hi)):M.oneF n (L.take (k+1))=M.oneF n (L.take k)++[(lo,n),(hi+1,n)]:=by
 obtain ⟨hk,hr⟩:=List.getElem?_eq_some_iff.1 h
 rw[List.take_succ_eq_append_getElem hk,hr];simp[M.oneF]
theorem one_len (n:Nat) (L:List Rg):(M.oneF n L).length=2*L.length:=by
 unfold M.oneF
 induction L with
 | nil=>rfl
 | cons r t ih=>simp only[List.flatMap_cons,List.length_append,List.length_cons,List.length_nil,ih];omega
def GathE (w:World) (E:List M.Ed) (v:Value) (wr:World):Prop:=∃ A m c,v=.slice A m c∧OwnE wr w.heap.size A m c (edR E)∧Below w.heap.size w wr
def GathP (w:World) (E:List M.Ed) (A:Option Addr) (n c:Nat) (p:List Rg) (v:Value) (wr:World):Prop :=
 ∃ A1 m c1,v=.slice A1 m c1∧OwnE wr w.heap.size A1 m c1 (edR E)∧Own wr w.heap.size A n c p∧Below w.heap.size w wr
theorem rows_apart {wr:World}{B:Nat}{A A1:Option Addr}{n c m c1:Nat}{p L:List Rg}(h1:OwnE wr B A1 m c1 L) (h2:Own wr B A n c p){b:Nat}(hb:(Value.slice A1 m c1).ownBlock=some b):(Value.slice A n c).ownBlock≠some b:=by
 intro hb'
 rcases h1.2 with ⟨h,_⟩|⟨g,cap,cur,h,_,hg,_⟩
 ·rw[h] at hb;simp[Value.ownBlock] at hb
 ·rcases h2.2 with ⟨h', _⟩|⟨g', cap', cur', h', _,hg', _⟩
  ·rw[h'] at hb'; simp[Value.ownBlock] at hb'
  ·rw[h] at hb;rw[h'] at hb'
   simp[Value.ownBlock] at hb hb'
   subst hb hb'
   rw[hg] at hg'
   injection hg' with hg'
   injection hg' with _ e1
   exact absurd e1 (by decide)
theorem gathP_step {w wx w1:World}{E:List M.Ed}{A A1:Option Addr}{n c m c1:Nat}{p:List Rg}{v' : Value}{lo hi:Int}{k:Nat}(o1 o2:Obj) (ho:OwnE wx w.heap.size A1 m c1 (edR E)) (hp:Own wx w.heap.size A n c p) (hb:Below w.heap.size w wx)
  (h:w1.ownsRow w.heap.size 146 2 v' (m+2) (cellsR (edR E)++[.int .i64 lo,.int .i64 k,.int .i64 (hi+1),.int .i64 k]))
  (hg:((wx.alloc o1).alloc o2).grownBy w1 (Value.slice A1 m c1).ownBlock):GathP w (E++[(lo,k),(hi+1,k)]) A n c p v' w1:=by
 have e:cellsR (edR (E++[(lo,k),(hi+1,k)]))=cellsR (edR E)++[.int .i64 lo,.int .i64 k,.int .i64 (hi+1),.int .i64 k]:=by
  unfold edR;rw[List.map_append,zi_];rfl
 have hsz:=hb.size
 have hP:Own ((wx.alloc o1).alloc o2) w.heap.size A n c p:=zg_ (zg_ hp (qd_ wx o1)) (qd_ _ o2)
 have hE:OwnE ((wx.alloc o1).alloc o2) w.heap.size A1 m c1 (edR E):=zg_ (zg_ ho (qd_ wx o1)) (qd_ _ o2)
 have hP1:Own w1 w.heap.size A n c p:=by
  refine World.ownsRow.kept hP hg ?_
  cases hb' : (Value.slice A n c).ownBlock with
  | none=>exact .inl rfl
  | some b=>exact .inr fun e=>rows_apart hE hP (b:=b) e.symm hb'
 have hb1:Below w.heap.size w w1:=((hb.alloc hsz o1).alloc (by simp;omega) o2).grown hg (by simp;omega) (fun i hi=>(ho.lt i hi).1)
 rcases h.2 with ⟨_,h2⟩|⟨g,cap,cur,rfl,_⟩
 ·omega
 ·exact ⟨_,_,_,rfl,by unfold OwnE;rw[e];exact h,hP1,hb1⟩
theorem news_two (w:World) (N:Nat) (hN:N=w.heap.size) (a b c d:Int) (t:TypeId):∀ j u,[Value.int .i64 a,Value.int .i64 b,Value.int .i64 c,Value.int .i64 d][j]?=some u→(w.alloc (.cells #[.int .i64 a,.int .i64 b,.int .i64 c,.int .i64 d] t)).cell? ((⟨N,0,none⟩:Addr).add j)=some u:=by
 subst hN
 intro j u hj
 match j,hj with
 | 0,hj=>simp at hj;subst hj;simp[Addr.add]
 | 1,hj=>simp at hj;subst hj;simp[Addr.add]
 | 2,hj=>simp at hj;subst hj;simp[Addr.add]
 | 3,hj=>simp at hj;subst hj;simp[Addr.add]
theorem two_one (a b c d:Int):∀ u∈[Value.int .i64 a,Value.int .i64 b,Value.int .i64 c,Value.int .i64 d],u.oneCell' = true:=by
 intro u hu;simp at hu;rcases hu with rfl|rfl|rfl|rfl <;> rfl
def EdAt (w:World) (B:Nat) (A:Option Addr) (E:List M.Ed):Prop :=
 0<E.length→∃ b cs,A=some ⟨b,0,none⟩∧B≤b∧w.heap[b]?=some (.cells cs 146 (0,0))∧∀ (j:Nat) (u:Value),(cellsR (edR E))[j]?=some u→cs[j]?=some u
theorem edAt_of {w:World}{B:Nat}{A:Option Addr}{n c:Nat}{E:List M.Ed}(hr:Rd w w.heap.size A n c (edR E)) (h:0<n→∃ b cs,A=some ⟨b,0,none⟩∧B≤b∧w.heap[b]?=some (.cells cs 146 (0,0))):n=E.length∧EdAt w B A E:=by
 have hl:E.length=n:=by have:=hr.len;unfold edR at this;simpa using this
 refine ⟨hl.symm,fun h0=>?_⟩
 obtain ⟨b,cs,rfl,hB,hh⟩:=h (by omega)
 obtain ⟨b', off,e,_,hc⟩:=hr.at_ (by omega)
 injection e with e
 injection e with e1 e2 _
 subst e1 e2
 refine ⟨b,cs,rfl,hB,hh,fun j u hu=>?_⟩
 have:=hc j u hu
 rwa [cell_of_row w b (0+j) cs _ (0,0) hh,Nat.zero_add] at this
def EdgesPost (w:World) (ls:List (List Rg)) (e:Ending) (w' : World):Prop :=
 ∃ A c E,e=.returned (.slice A E.length c)∧M.IsE ls E∧E.length≤48000∧EdAt w' w.heap.size A E∧Below w.heap.size w w'
theorem sortedE {L:List Rg}{E:List M.Ed}(hp:L.Perm (edR E)) (hs:L.Pairwise fun x y=>x.1≤y.1):∃ E' : List M.Ed,L=edR E' ∧ E'.Perm E∧E'.Pairwise fun x y=>x.1≤y.1:=by
 have hL:L=edR (L.map fun r=>(r.1,r.2.toNat)):=by
  unfold edR
  rw[List.map_map]
  symm
  have:∀ r∈L,((fun e:M.Ed=>(e.1,(e.2:Int))) ∘ fun r:Rg=>(r.1,r.2.toNat)) r=r:=fun r hr=>by
   have:=hp.mem_iff.1 hr
   unfold edR at this
   obtain ⟨e,_,rfl⟩:=List.mem_map.1 this
   simp
  conv=>rhs;rw[← List.map_id L]
  exact List.map_congr_left this
 refine ⟨L.map fun r=>(r.1,r.2.toNat),hL,?_,?_⟩
 ·have:=hp.map fun r:Rg=>((r.1,r.2.toNat):M.Ed)
  refine this.trans (List.Perm.of_eq ?_)
  unfold edR
  rw[List.map_map]
  conv=>rhs;rw[← List.map_id E]
  exact List.map_congr_left fun e _=>by simp
 ·rw[List.pairwise_map];exact hs

set_option maxHeartbeats 4000000 in
set_option maxRecDepth 100000 in
theorem sedges_any {w:World}{A:Option Addr}{n c:Nat}{gs:List Given}(hg:RdS w w.heap.size A n c gs) (hn:n≤60) (hl:∀ l∈listsOf gs,l.length≤400) :
  Calls Tryz.prog 72 #[.slice A n c] w (EdgesPost w (listsOf gs)):=by
 obtain ⟨i0,hi0,hz0,hz1,hz2⟩:=info_parts info_E
 have HG:=ha_ hg
 have HL:=ha_ hl
 clear hg hl
 go_enter Tryz.func72,Tryz.ntmps72
 go_wp2_with fail
 go_loopw [3,10] (fun v i wr=>∃ k:Nat,k≤n∧i=.int .i64 k∧GathE w (M.edgesTo (listsOf gs) k) v wr) (fun _ i _=>n - (intOf i).toNat)
 case atStart=>exact ⟨0,Nat.zero_le _,rfl,none,0,0,rfl,World.ownsRow_nil _ _ _ _,Below.refl _ _⟩
 case round =>
  obtain ⟨k,hk,rfl,A1,m,c1,rfl,hown,hbel⟩:=hrel
  have hml:m≤800*k:=by
   have h1:=hown.len
   have h2:=edges_bound HL.out k
   unfold edR at h1
   simp at h1
   omega
  have HO:=ha_ hown
  have HB:=ha_ hbel
  clear hown hbel
  by_cases hlt:k<n
  ·obtain ⟨b1,o1,g,rfl,hb1,hr,k1,hrd⟩:=(HG.out.on HB.out).got hlt
   have HGL:=ha_ (lists_get hr)
   have HR:=ha_ hrd
   have HS:=ha_ (M.edgesTo_succ (listsOf gs) k)
   clear hr hrd hb1
   obtain ⟨gA,gn,gc,gl⟩:=g
   go_wp2_with fail
   refine (plain_said _ _ _ _ _ HR.out).mono ?_
   rintro e w2 ⟨Ap,np,cp,rfl,hop,hb2⟩
   have hnp:np≤400:=by
    have h1:=hop.len
    have h2:=(M.plainL_ok gl).2.2
    by_cases h4:gl.length≤400
    ·omega
    ·have:M.plainL gl=[]:=by unfold M.plainL;rw[if_neg h4]
     rw[this] at h1;simp at h1;omega
   have HP:Hid (GathP w (M.edgesTo (listsOf gs) k++M.oneF k ((M.plainL gl).take 0)) Ap np cp (M.plainL gl) (.slice A1 m c1) w2):=by
    show GathP _ _ _ _ _ _ _ _
    rw[show M.oneF k ((M.plainL gl).take 0)=[] from rfl,List.append_nil]
    exact ⟨A1,m,c1,rfl,zg_ HO.out hb2,own_mono hop HB.out.size,HB.out.trans (hb2.mono HB.out.size)⟩
   have HPL:=ha_ hop.len
   clear hop hb2 HO HB HR
   generalize hpl:M.plainL gl=p at *
   have HQ:=ha_ hpl
   clear hpl
   go_wp2_with fail
   go_loopw [3,18] (fun v j wx=>∃ t:Nat,t≤np∧j=.int .i64 t∧GathP w (M.edgesTo (listsOf gs) k++M.oneF k (p.take t)) Ap np cp p v wx) (fun _ j _=>np - (intOf j).toNat)
   case atStart=>exact ⟨0,Nat.zero_le _,rfl,HP.out⟩
   case round =>
    obtain ⟨t,ht,rfl,A2,m2,c2,rfl,hO2,hP2,hB2⟩:=hrel
    have hm2:m2≤60000:=by
     have h1:=hO2.len
     have h2:=edges_bound HL.out k
     have h3:=one_len k (p.take t)
     have h4:(p.take t).length≤t:=List.length_take_le _ _
     unfold edR at h1
     simp only[List.length_map,List.length_append] at h1
     omega
    have hsz:=hB2.size
    have HO2:=ha_ hO2
    have HP2:=ha_ hP2
    have HB2:=ha_ hB2
    by_cases hlt2:t<np
    ·obtain ⟨bp,op,lo,hi,rfl,hbp,hr2,d1,d2⟩:=hP2.rd.got hlt2
     have HT:=ha_ (one_take k p t lo hi hr2)
     have hm3:0≤lo∧lo≤hi∧hi≤1114111:=by
      have:=M.edge_range (M.plainL_ok gl).1 (r:=(lo,hi)) (by rw[HQ.out];exact List.mem_of_getElem? hr2)
      exact this
     obtain ⟨q1,q2,q3⟩:=hm3
     clear hr2 hO2 hP2 hB2 hbp
     go_wp2_with (at_builtin;refine wpList_append_own _ rfl _ _ 143 rfl w.heap.size 146 i0 (.agg #[.int .i64 0,.int .i64 0]) 2 16 Tryz.underlying143 hi0 hz0 hz1 hz2 rfl (by decide) _ _ _ rfl (World.ownsRow.alloc (World.ownsRow.alloc HO2.out _) _) ⟨wr.heap.size+1,0,none⟩ 2 2 [.int .i64 lo,.int .i64 k,.int .i64 (hi+1),.int .i64 k] rfl rfl ?c1 (two_one _ _ _ _) ?c3 ?c4 ?c5 ?_)
     case c1=>exact news_two _ _ (by simp) _ _ _ _ _
     case c3=>simp only[maxLen];omega
     case c4=>omega
     case c5=>simp;omega
     intro v' w1 hown' hgrow _
     have R:=gathP_step _ _ HO2.out HP2.out HB2.out hown' hgrow
     rw[List.append_assoc,← HT.out] at R
     have RR:=ha_ R
     clear R hown' hgrow
     go_wp2
     go_roundw
     case rel=>exact ⟨t+1,by omega,by go_num,RR.out⟩
     case measure=>simp[intOf];omega
    ·have ht2:p.take t=p:=List.take_of_length_le (by rw[HPL.out];omega)
     have R:GathE w (M.edgesTo (listsOf gs) (k+1)) (.slice A2 m2 c2) wr:=by
      rw[HS.out,HGL.out,HQ.out]
      rw[ht2] at HO2
      exact ⟨A2,m2,c2,rfl,HO2.out,HB2.out⟩
     have RR:=ha_ R
     clear R hO2 hP2 hB2 ht2
     go_wp2
     go_roundw
     case rel=>exact ⟨k+1,by omega,by go_num,RR.out⟩
     case measure=>simp[intOf];omega
  ·have hkn:k=n:=by omega
   subst hkn
   go_wp2_with fail
   refine (sort_anyE HO.out HB.out.size (by omega)).mono ?_
   rintro e w2 ⟨rfl,L', hp,hs,hrd,hbk,hb2⟩
   obtain ⟨E', rfl,hp', hs'⟩:=sortedE hp hs
   obtain ⟨hl1,hat⟩:=edAt_of hrd hbk
   have hlen:E'.length≤48000:=by
    have h1:=edges_bound HL.out k
    have h2:=hp'.length_eq
    omega
   subst hl1
   have hls:(listsOf gs).length=k:=by have:=HG.out.len;simp[listsOf,this]
   have R:EdgesPost w (listsOf gs) (.returned (.slice A1 E'.length c1)) w2:=⟨A1,c1,E', rfl,⟨by rw[hls];exact hp', hs'⟩,hlen,hat,HB.out.trans hb2⟩
   have RR:=ha_ R
   clear R hp hs hrd hbk hb2 hp' hs' hat hlen hls HO HB HG HL
   go_wp2
   go_ret
   exact RR.out

set_option maxHeartbeats 400000 in
theorem first_any {w:World}{A:Option Addr}{n c:Nat}{a:List Rg}(ha:Rd w w.heap.size A n c a) :
  Calls Tryz.prog 37 #[.slice A n c] w (Num w (firstF (M.plainL a))):=by
 have hcon:=ha_ (plain_said w A n c a ha)
 clear ha
 go_enter Tryz.func37,Tryz.ntmps37
 go_wp2_with fail
 refine hcon.out.mono ?_
 rintro e w1 ⟨A1,n1,c1,rfl,ho,hb⟩
 have HB:=ha_ hb
 have hr:=ho.rd
 have hm:n1≤maxLen:=Nat.le_trans hr.cap hr.capm
 unfold maxLen at hm
 clear ho hb
 by_cases h0:n1=0
 ·subst h0
  have hL:M.plainL a=[]:=List.eq_nil_of_length_eq_zero hr.len
  have HF:Hid (firstF (M.plainL a)=-1):=by rw[hL];rfl
  clear hr hL
  go_wp2
  go_ret
  exact ⟨by rw[HF.out];rfl,HB.out⟩
 ·obtain ⟨b,off,lo,hi,rfl,_,hk,k1,k2⟩:=hr.got (k:=0) (by omega)
  have hf:firstF (M.plainL a)=lo:=by
   cases hp:M.plainL a with
   | nil=>rw[hp] at hk;simp at hk
   | cons r t=>rw[hp] at hk;simp at hk;simp[firstF,hk]
  have HF:=ha_ hf
  have g0:((n1:Int) == 0)=false:=by simp;omega
  have k1' : w1.cell? ⟨b,off,none⟩=some (.int .i64 lo):=by simpa using k1
  clear hr hk hf k1 k2
  go_wp2
  go_ret
  exact ⟨by rw[HF.out];rfl,HB.out⟩
open Go.RowKit Go.Shelf

set_option maxHeartbeats 400000 in
theorem has_pred (x:Int) (B:Nat) (w:World) (hB:B<w.heap.size) (hcell:w.cell? ⟨B,0,none⟩=some (.int .i64 x)) :
  PredBelow Tryz.prog 58 #[.pointer (some ⟨B,0,none⟩)] (fun r=>.agg (encR r).toArray) (fun r=>M.inR r x) w:=fun W r hb=>by
 have hc:W.cell? ⟨B,0,none⟩=some (.int .i64 x):=(hb.cell (p:=⟨B,0,none⟩) hB).trans hcell
 have hBW:B<W.heap.size:=Nat.lt_of_lt_of_le hB hb.size
 have hne:B≠W.heap.size:=by omega
 have HB:=ha_ hb
 clear hb hcell
 show Calls Tryz.prog 58 #[.agg #[.int .i64 r.1,.int .i64 r.2],.pointer (some ⟨B,0,none⟩)] W _
 unfold M.inR
 by_cases h1:r.1≤x <;> by_cases h2:x≤r.2
 all_goals
  go_enter Tryz.func58,Tryz.ntmps58
  go_wp2
  go_ret
  exact ⟨by simp[h1,h2],HB.out.alloc HB.out.size _⟩
set_option maxHeartbeats 400000 in
theorem index_none (A:Option Addr) (c:Nat) (fv:Value) (w:World):Calls Tryz.prog 74 #[.slice A 0 c,fv] w fun e w' => e=.returned (.int .i64 (-1))∧w=w' := by
 go_enter Tryz.func74,Tryz.ntmps74
 go_wp2
 refine wp_loop_rounds 1 ?_
 rw[rounds_succ]
 go_wp2
 go_ret
 exact ⟨rfl,rfl⟩
set_option maxHeartbeats 400000 in
theorem contains_none (A:Option Addr) (c:Nat) (fv:Value) (w:World):Calls Tryz.prog 57 #[.slice A 0 c,fv] w fun e w' => e=.returned (.bool false)∧w=w' := by
 go_enter Tryz.func57,Tryz.ntmps57
 go_wp2_with fail
 refine (index_none A c fv w).mono ?_
 rintro e w' ⟨rfl,rfl⟩
 go_wp2
 go_ret
 exact ⟨rfl,rfl⟩
theorem contains_any {w:World}{A:Option Addr}{n c:Nat}{a:List Rg}(ha:Rd w w.heap.size A n c a) (x:Int) :
  Calls Tryz.prog 57 #[.slice A n c,.func (.func 58) #[] #[.pointer (some ⟨w.heap.size,0,none⟩)]] (w.alloc (.cells #[.int .i64 x] 3)) (Boo w (M.covb a x)):=by
 by_cases h0:n=0
 ·subst h0
  have hL:a=[]:=List.eq_nil_of_length_eq_zero ha.len
  subst hL
  exact (contains_none A c _ _).mono fun e w' ⟨he,hw⟩=>⟨he,by rw[← hw];exact (Below.refl _ _).alloc (Nat.le_refl _) _⟩
 ·obtain ⟨b,off,rfl,hb,hc⟩:=ha.at_ (by omega)
  have eg:∀ args w,(callFunc 58 args).run Tryz.prog w=.ok (.enter 58 args) w:=enters_of Tryz.func58 (by kernel_rfl) rfl
  have hcon:=AnyQ.slices_ContainsFunc Tryz.layRangeHasFunc 2 Tryz.isAgg108 Tryz.sizeOf108 encR encR_len (fun r=>M.inR r x) 58 #[.pointer (some ⟨w.heap.size,0,none⟩)] eg b off n c a (w.alloc (.cells #[.int .i64 x] 3))
   (has_pred x w.heap.size _ (by simp) (by simp)) (by rw[ha.len];exact Nat.le_refl _) (by have:=ha.cap;have:=ha.capm;unfold maxLen at *;omega) (by simp;omega) (fun j hj i v hi=>by
    refine (World.cell?_alloc_lt w _ _ hb).trans ?_
    rw[Nat.add_assoc]
    refine hc _ _ ?_
    have hj2:a[j]! = a[j]:=by simp[hj]
    rw[hj2] at hi
    match i,hi with
    | 0,hi=>simp[encR] at hi;rw[← hi];exact cellsR_lo a j hj
    | 1,hi=>simp[encR] at hi;rw[← hi];exact cellsR_hi a j hj
    | i+2,hi=>simp[encR] at hi)
  change Calls Tryz.prog 57 _ _ _ at hcon
  rw[List.take_of_length_le (by rw[ha.len];exact Nat.le_refl _),any_cov] at hcon
  exact hcon.mono fun e w' ⟨he,hw⟩=>⟨he,((Below.refl _ w).alloc (Nat.le_refl _) _).trans (hw.mono (by simp))⟩
set_option maxHeartbeats 1000000 in
theorem has_any {w:World}{A:Option Addr}{n c:Nat}{a:List Rg}(ha:Rd w w.heap.size A n c a) (x:Int) :
  Calls Tryz.prog 35 #[.slice A n c,.int .i64 x] w (Boo w (M.hasB a x)):=by
 have hn:n≤maxLen:=Nat.le_trans ha.cap ha.capm
 have HC:=ha_ (contains_any ha x)
 have hl:=ha.len
 have hB:Below w.heap.size w (w.alloc (.cells #[.int .i64 x] 3)):=(Below.refl _ _).alloc (Nat.le_refl _) _
 have HB:=ha_ hB
 clear hB
 by_cases h1:400<n
 ·have HQ:Hid (M.hasB a x=false):=by show M.hasB a x=false;unfold M.hasB;rw[decide_eq_false (by omega)];rfl
  have g1:decide (400<n)=true:=by simpa using h1
  clear ha hl HC
  go_enter Tryz.func35,Tryz.ntmps35
  go_wp2_with (go_at_call 56;refine (tooMany_any _ _ _ _ hn).mono ?_;rintro e w' ⟨rfl,rfl⟩)
  go_ret
  exact ⟨by rw[HQ.out];rfl,HB.out⟩
 ·have g1:decide (400<n)=false:=by simpa using h1
  by_cases h2:x<0
  ·have HQ:Hid (M.hasB a x=false):=by show M.hasB a x=false;unfold M.hasB M.isch;rw[decide_eq_false (show ¬ 0≤x by omega)];simp
   clear ha hl HC
   go_enter Tryz.func35,Tryz.ntmps35
   go_wp2_with (go_at_call 56;refine (tooMany_any _ _ _ _ hn).mono ?_;rintro e w' ⟨rfl,rfl⟩)
   go_ret
   exact ⟨by rw[HQ.out];rfl,HB.out⟩
  ·by_cases h3:1114111<x
   ·have HQ:Hid (M.hasB a x=false):=by show M.hasB a x=false;unfold M.hasB M.isch;rw[decide_eq_false (show ¬ x≤1114111 by omega)];simp
    clear ha hl HC
    go_enter Tryz.func35,Tryz.ntmps35
    go_wp2_with (go_at_call 56;refine (tooMany_any _ _ _ _ hn).mono ?_;rintro e w' ⟨rfl,rfl⟩)
    go_ret
    exact ⟨by rw[HQ.out];rfl,HB.out⟩
   ·have HQ:Hid (M.hasB a x=M.covb a x):=by show M.hasB a x=M.covb a x;unfold M.hasB M.isch;rw[decide_eq_true (show a.length≤400 by omega),decide_eq_true (show 0≤x by omega),decide_eq_true (show x≤1114111 by omega)];simp
    clear ha hl
    go_enter Tryz.func35,Tryz.ntmps35
    go_wp2_with (first|(go_at_call 56;refine (tooMany_any _ _ _ _ hn).mono ?_;rintro e w' ⟨rfl,rfl⟩)|(go_at_call 57;refine HC.out.mono ?_;rintro e w' ⟨rfl,hb⟩))
    go_ret
    exact ⟨by rw[HQ.out];rfl,hb⟩

theorem GathI.on {w wr wx:World}{L:List Int}{v:Value}(h:GathI w L v wr) (hb:Below wr.heap.size wr wx):GathI w L v wx:=by
 obtain ⟨A,m,c,e,h1,h2⟩:=h
 exact ⟨A,m,c,e,zg_ h1 hb,h2.trans (hb.mono h2.size)⟩
set_option maxHeartbeats 1000000 in
theorem sfirsts_any {w:World}{A:Option Addr}{n c:Nat}{gs:List Given}(hg:RdS w w.heap.size A n c gs) (hs:gs.length≤100000) :
  Calls Tryz.prog 19 #[.slice A n c] w (FreshI w (firstsF (listsOf gs))):=by
 obtain ⟨i0,hi0,hz0,hz1,hz2⟩:=info_parts info_I
 have hn:n≤100000:=by rw[← hg.len];exact hs
 have HG:=ha_ hg
 clear hg hs
 go_enter Tryz.func19,Tryz.ntmps19
 go_wp2_with fail
 go_loopw [3,8] (fun v i wr=>∃ k:Nat,k≤n∧i=.int .i64 k∧GathI w (firstsF (listsOf (gs.take k))) v wr) (fun _ i _=>n - (intOf i).toNat)
 case atStart=>exact ⟨0,Nat.zero_le _,rfl,none,0,0,rfl,World.ownsRow_nil _ _ _ _,Below.refl _ _⟩
 case round =>
  obtain ⟨k,hk,rfl,A1,m1,c1,rfl,hown,hbel⟩:=hrel
  by_cases hlt:k<n
  ·obtain ⟨b1,o1,g,rfl,hlt1,hr,k1,hrd⟩:=HG.out.got hlt
   have HT:=ha_ (firsts_take hr)
   have k1' := (hbel.cell (p:=⟨b1,o1+k,none⟩) hlt1).trans k1
   have RD:=ha_ (hrd.on hbel)
   have hm1:m1≤k:=by
    have h1:=hown.1
    simp[cellsI,firstsF,listsOf] at h1;omega
   have HO:=ha_ hown
   have HB:=ha_ hbel
   clear hr hrd k1 hown hbel
   obtain ⟨gA,gn,gc,gl⟩:=g
   go_wp2_with fail
   refine (first_any RD.out).mono ?_
   rintro e w1 ⟨rfl,hb1⟩
   have HO1:Hid (w1.ownsRow w.heap.size 3 1 (.slice A1 m1 c1) m1 (cellsI (firstsF (listsOf (gs.take k))))):=zg_ HO.out hb1
   have HB1:=ha_ (HB.out.trans (hb1.mono HB.out.size))
   clear hb1 HO HB
   generalize hf:firstF (M.plainL gl)=f at *
   have HF:=ha_ hf
   clear hf
   go_wp2_with (at_builtin;refine wpList_append_own _ rfl _ _ 23 rfl w.heap.size 3 i0 (.int .i64 0) 1 8 Tryz.underlying23 hi0 hz0 hz1 hz2 rfl (by decide) _ _ _ rfl (World.ownsRow.alloc HO1.out _) ⟨w1.heap.size,0,none⟩ 1 1 [.int .i64 f] rfl rfl ?c1 (one_x _) ?c3 ?c4 ?c5 ?_)
   case c1=>exact newsI_at _ _ rfl _ _
   case c3=>simp only[maxLen];omega
   case c4=>omega
   case c5=>have:=HB1.out.size;simp;omega
   intro v' w2 hown' hgrow _
   have hb2:Below w.heap.size w w2:=(HB1.out.alloc HB1.out.size _).grown hgrow (by have:=HB1.out.size;simp;omega) (fun k hk=>(HO1.out.lt k hk).1)
   have R:GathI w (firstsF (listsOf (gs.take (k+1)))) v' w2:=gathI_of (n:=m1+1) (by rw[HT.out];simpa [cellsI] using hown') hb2
   have RR:=ha_ R
   clear R hown' hgrow hb2
   go_wp2
   go_roundw
   case rel=>exact ⟨k+1,by omega,by go_num,RR.out⟩
   case measure=>simp[intOf];omega
  ·have ht:gs.take k=gs:=List.take_of_length_le (by rw[HG.out.len];omega)
   rw[ht] at hown
   have R:FreshI w (firstsF (listsOf gs)) (.returned (.slice A1 m1 c1)) wr:=⟨A1,m1,c1,rfl,RdI.of_own hown,hbel⟩
   have RR:=ha_ R
   clear R hown hbel ht
   go_wp2
   go_ret
   exact RR.out


def idxF (p:List Rg→Bool) (ls:List (List Rg)):Int:=match ls.findIdx? p with|some i=>(i:Int)|none=>-1
theorem idx_found {p:List Rg→Bool}{gs:List Given}{k:Nat}{g:Given}(hn:∀ j h,j<k→gs[j]?=some h→p h.l=false) (hg:gs[k]?=some g) (hx:p g.l=true):idxF p (listsOf gs)=k:=by
 obtain ⟨hk,hgk⟩:=List.getElem?_eq_some_iff.1 hg
 have:(listsOf gs).findIdx? p=some k:=by
  rw[List.findIdx?_eq_some_iff_getElem]
  refine ⟨by simpa [listsOf] using hk,by simp[listsOf,hgk,hx],fun j hj=>?_⟩
  have hj' : j<gs.length:=by omega
  simp only[listsOf,List.getElem_map]
  rw[hn j gs[j] hj (List.getElem?_eq_getElem hj')];simp
 unfold idxF;rw[this]
theorem idx_none {p:List Rg→Bool}{gs:List Given}(hn:∀ j h,j<gs.length→gs[j]?=some h→p h.l=false):idxF p (listsOf gs)=-1:=by
 have:(listsOf gs).findIdx? p=none:=by
  rw[List.findIdx?_eq_none_iff]
  intro l hl
  simp only[listsOf,List.mem_map] at hl
  obtain ⟨g,hg,rfl⟩:=hl
  obtain ⟨j,hj⟩:=List.getElem?_of_mem hg
  exact hn j g (List.getElem?_eq_some_iff.1 hj).1 hj
 unfold idxF;rw[this]
def PredS (fn:Nat) (lb:Array Value) (p:List Rg→Bool) (w:World):Prop :=
 ∀ (W:World) (g:Given),Below w.heap.size w W→Rd W W.heap.size g.A g.n g.c g.l→Calls Tryz.prog fn (#[.slice g.A g.n g.c]++lb) W (Boo W (p g.l))

set_option maxHeartbeats 1000000 in
theorem index_any {w:World}{A:Option Addr}{n c:Nat}{gs:List Given}(fn:Nat) (lb:Array Value) (p:List Rg→Bool) (hg:RdS w w.heap.size A n c gs) (eg:∀ args w,(callFunc fn args).run Tryz.prog w=.ok (.enter fn args) w) (hp:PredS fn lb p w) :
  Calls Tryz.prog 33 #[.slice A n c,.func (.func fn) #[] lb] w (Num w (idxF p (listsOf gs))):=by
 have hn:n≤maxLen:=Nat.le_trans hg.cap hg.capm
 unfold maxLen at hn
 have HG:=ha_ hg
 have HP:=ha_ hp
 clear hg hp
 go_enter Tryz.func33,Tryz.ntmps33
 go_wp2_with fail
 go_loopw [8] (fun i wr=>∃ k:Nat,k≤n∧i=.int .i64 k∧(∀ j h,j<k→gs[j]?=some h→p h.l=false)∧Below w.heap.size w wr) (fun i _=>n - (intOf i).toNat)
 case atStart=>exact ⟨0,Nat.zero_le _,rfl,fun j h hj=>absurd hj (by omega),Below.refl _ _⟩
 case round =>
  obtain ⟨k,hk,rfl,hne,hbel⟩:=hrel
  have HN:=ha_ hne
  have HB:=ha_ hbel
  clear hne
  by_cases hlt:k<n
  ·obtain ⟨b1,o1,g,rfl,_,hr,k1,hrd⟩:=(HG.out.on hbel).got hlt
   have HR:=ha_ hr
   have hcall:=HP.out wr g hbel hrd
   clear hr hrd hbel
   obtain ⟨gA,gn,gc,gl⟩:=g
   cases hx:p gl
   ·have HF:Hid (∀ j h,j<k+1→gs[j]?=some h→p h.l=false):=fun j h hj hh=>by
     by_cases e:j=k
     ·subst e;rw[HR.out] at hh;injection hh with hh;subst hh;exact hx
     ·exact HN.out j h (by omega) hh
    have HC:=ha_ (hcall.mono (R' := fun e w' => e=.returned (.bool false)∧Below wr.heap.size wr w') fun e w' ⟨h1,h2⟩=>⟨by rw[h1];show Ending.returned (.bool (p gl))=_;rw[hx],h2⟩)
    clear hx hcall
    go_wp2_with (go_at_fn fn;refine HC.out.mono ?_;rintro e w2 ⟨rfl,hb2⟩)
    have HB2:=ha_ (HB.out.trans (hb2.mono HB.out.size))
    clear hb2
    go_wp2
    go_roundw
    case rel=>exact ⟨k+1,by omega,by go_num,HF.out,HB2.out⟩
    case measure=>simp[intOf];omega
   ·have HF:=ha_ (idx_found HN.out HR.out hx)
    have HC:=ha_ (hcall.mono (R' := fun e w' => e=.returned (.bool true)∧Below wr.heap.size wr w') fun e w' ⟨h1,h2⟩=>⟨by rw[h1];show Ending.returned (.bool (p gl))=_;rw[hx],h2⟩)
    clear hx hcall
    go_wp2_with (go_at_fn fn;refine HC.out.mono ?_;rintro e w2 ⟨rfl,hb2⟩)
    have HB2:=ha_ (HB.out.trans (hb2.mono HB.out.size))
    clear hb2
    go_wp2
    go_ret
    exact ⟨by rw[HF.out];rfl,HB2.out⟩
  ·have HF:Hid (idxF p (listsOf gs)=-1):=idx_none fun j h hj hh=>HN.out j h (by have:=HG.out.len;omega) hh
   clear hbel
   go_wp2
   go_ret
   exact ⟨by rw[HF.out];rfl,HB.out⟩
theorem idx_ge (p:List Rg→Bool) (ls:List (List Rg)):decide (0≤idxF p ls)=ls.any p:=by
 unfold idxF
 cases h:ls.findIdx? p with
 | none =>
  rw[List.findIdx?_eq_none_iff] at h
  have:ls.any p=false:=by rw[List.any_eq_false];intro x hx;rw[h x hx];simp
  rw[this];rfl
 | some i =>
  obtain ⟨h1,h2,_⟩:=List.findIdx?_eq_some_iff_getElem.1 h
  have:ls.any p=true:=List.any_eq_true.2 ⟨_,List.getElem_mem h1,h2⟩
  rw[this];simp
set_option maxHeartbeats 1000000 in
theorem containsS_any {w:World}{A:Option Addr}{n c:Nat}{gs:List Given}(fn:Nat) (lb:Array Value) (p:List Rg→Bool) (hg:RdS w w.heap.size A n c gs) (eg:∀ args w,(callFunc fn args).run Tryz.prog w=.ok (.enter fn args) w) (hp:PredS fn lb p w) :
  Calls Tryz.prog 49 #[.slice A n c,.func (.func fn) #[] lb] w (Boo w ((listsOf gs).any p)):=by
 have HC:=ha_ (index_any fn lb p hg eg hp)
 rw[← idx_ge]
 generalize idxF p (listsOf gs)=r at *
 clear hg hp
 go_enter Tryz.func49,Tryz.ntmps49
 go_wp2_with fail
 refine HC.out.mono ?_
 rintro e w2 ⟨rfl,hb⟩
 have HB:=ha_ hb
 clear hb
 go_wp2
 go_ret
 exact ⟨rfl,HB.out⟩
theorem tooLong_any (A:Option Addr) (n c:Nat) (w:World) (hn:n≤maxLen) :
  Calls Tryz.prog 50 #[.slice A n c] w fun e w' => e=.returned (.bool (decide (400<n)))∧w=w' := by
 unfold maxLen at hn
 go_enter Tryz.func50,Tryz.ntmps50
 go_wp2
 go_ret
 exact ⟨by simp;omega,rfl⟩
theorem tooLong_pred (w:World):PredS 50 #[] (fun l=>decide (400<l.length)) w:=fun W g _ hr =>
 (tooLong_any g.A g.n g.c W (Nat.le_trans hr.cap hr.capm)).mono fun e w' ⟨he,hw⟩=>⟨by rw[he];show _=Ending.returned (.bool (decide (400<g.l.length)));rw[hr.len],by rw[hw];exact Below.refl _ _⟩
theorem class_is (ls:List (List Rg)) (x:Int):idxF (fun l=>M.hasB l x) ls=classF ls x:=rfl
set_option maxHeartbeats 1000000 in
theorem class1_pred (w:World) (b:Nat) (x:Int) (hb:b<w.heap.size) (hc:w.cell? ⟨b,0,none⟩=some (.int .i64 x)):PredS 34 #[.pointer (some ⟨b,0,none⟩)] (fun l=>M.hasB l x) w:=fun W g hW hr=>by
 have hc' : W.cell? ⟨b,0,none⟩=some (.int .i64 x):=(hW.cell (p:=⟨b,0,none⟩) hb).trans hc
 have HC:=ha_ (has_any hr x)
 clear hr hW hc
 obtain ⟨gA,gn,gc,gl⟩:=g
 go_enter Tryz.func34,Tryz.ntmps34
 go_wp2_with fail
 refine HC.out.mono ?_
 rintro e w2 ⟨rfl,hb2⟩
 have HB:=ha_ hb2
 clear hb2
 go_wp2
 go_ret
 exact ⟨rfl,HB.out⟩
set_option maxHeartbeats 1000000 in
theorem sclass_any {w:World}{A:Option Addr}{n c:Nat}{gs:List Given}(hg:RdS w w.heap.size A n c gs) (x:Int) :
  Calls Tryz.prog 17 #[.slice A n c,.int .i64 x] w (Num w (classF (listsOf gs) x)):=by
 have hb:=qd_ w (.cells #[.int .i64 x] 3)
 have eg:∀ args w,(callFunc 34 args).run Tryz.prog w=.ok (.enter 34 args) w:=enters_of Tryz.func34 (by kernel_rfl) rfl
 have HC:=ha_ (index_any 34 #[.pointer (some ⟨w.heap.size,0,none⟩)] (fun l=>M.hasB l x) (hg.on hb) eg (class1_pred _ w.heap.size x (by simp) (by simp)))
 rw[class_is] at HC
 have HB:=ha_ hb
 generalize classF (listsOf gs) x=r at *
 clear hg hb eg
 go_enter Tryz.func17,Tryz.ntmps17
 go_wp2_with fail
 refine HC.out.mono ?_
 rintro e w2 ⟨rfl,hb2⟩
 have HB2:=ha_ (HB.out.trans (hb2.mono HB.out.size))
 clear hb2
 go_wp2
 go_ret
 exact ⟨rfl,HB2.out⟩
end Go.Proofs.YtbbmjdddemahfaaGreat
set_option maxRecDepth 100000
namespace Go.Proofs.YtbbmjdddemahfaaGreat
open Go.RowKit Go.Shelf

def allF (f:Int→Option Int):List Int→Option (List Int)
 | []=>some []
 | x :: t=>match f x,allF f t with
  | some y,some l=>some (y :: l)
  | _,_=>none
theorem allF_none {f:Int→Option Int}:∀ {L:List Int}{k:Nat}{x:Int},L[k]?=some x→f x=none→allF f L=none
 | [],k,x,h,_=>by simp at h
 | a :: t,0,x,h,hx=>by
  injection h with h
  subst h
  simp[allF,hx]
 | a :: t,k+1,x,h,hx=>by
  have:=allF_none (L:=t) h hx
  simp only[allF,this]
  cases f a <;> rfl
theorem allF_snoc {f:Int→Option Int}{x y:Int}(hx:f x=some y):∀ {L acc:List Int},allF f L=some acc→allF f (L++[x])=some (acc++[y])
 | [],acc,h=>by
  injection h with h
  subst h
  simp[allF,hx]
 | a :: t,acc,h=>by
  unfold allF at h
  cases ha:f a with
  | none=>simp[ha] at h
  | some b =>
   cases ht:allF f t with
   | none=>simp[ha,ht] at h
   | some l =>
    simp[ha,ht] at h
    subst h
    have:=allF_snoc hx ht
    simp[allF,ha,this]
theorem allF_take {f:Int→Option Int}{L acc:List Int}{k:Nat}{x y:Int}(h:allF f (L.take k)=some acc) (hk:L[k]?=some x) (hx:f x=some y):allF f (L.take (k+1))=some (acc++[y]):=by
 have e:L.take (k+1)=L.take k++[x]:=by rw[List.take_add_one,hk];rfl
 rw[e]
 exact allF_snoc hx h
theorem allF_len {f:Int→Option Int}:∀ {L acc:List Int},allF f L=some acc→acc.length=L.length
 | [],acc,h=>by
  injection h with h
  subst h
  rfl
 | a :: t,acc,h=>by
  unfold allF at h
  cases ha:f a with
  | none=>simp[ha] at h
  | some b =>
   cases ht:allF f t with
   | none=>simp[ha,ht] at h
   | some l =>
    simp[ha,ht] at h
    subst h
    have:=allF_len ht
    simp[this]
def wordF (gs:List Given) (x:Int):Option Int:=if classF (listsOf gs) x<0 then none else some (classF (listsOf gs) x)
def WdP (w:World) (o:Option (List Int)) (en:Ending) (w' : World):Prop:=∃ A n c,en=.returned (.tuple #[.slice A n c,.int .i64 (if o=none then 1 else 0)])∧RdI w' w'.heap.size A n c (o.getD [])∧Below w.heap.size w w'
theorem rdI_nil (w:World):RdI w w.heap.size none 0 0 []:=⟨rfl,Nat.le_refl _,by simp[maxLen],fun h=>absurd h (by omega)⟩
theorem wd_none {w w' : World}(h:Below w.heap.size w w'){o:Option (List Int)}(ho:o=none):WdP w o (.returned (.tuple #[.slice none 0 0,.int .i64 1])) w' := by
 subst ho
 exact ⟨none,0,0,rfl,rdI_nil _,h⟩
theorem fresh_gath {w wr:World}{L:List Int}{v:Value}(h:GathI w L v wr):∃ A n c,v=.slice A n c∧RdI wr wr.heap.size A n c L∧Below w.heap.size w wr:=by
 obtain ⟨A,m,c,rfl,hown,hbel⟩:=h
 exact ⟨A,m,c,rfl,RdI.of_own hown,hbel⟩
set_option maxHeartbeats 2000000 in
theorem sword_any {w:World}{A:Option Addr}{n c:Nat}{gs:List Given}(hg:RdS w w.heap.size A n c gs){B:Option Addr}{m d:Nat}{L:List Int}(hl:RdI w w.heap.size B m d L) (hm:m≤100000) :
  Calls Tryz.prog 6 #[.slice A n c,.slice B m d] w (WdP w (allF (wordF gs) L)):=by
 obtain ⟨i0,hi0,hz0,hz1,hz2⟩:=info_parts info_I
 have HG:=ha_ hg
 have HL:=ha_ hl
 have HLN:=ha_ hl.len
 clear hg hl
 go_enter Tryz.func6,Tryz.ntmps6
 go_wp2_with fail
 go_loopw [6,12] (fun v i wr=>∃ (k:Nat) (acc:List Int),k≤m∧i=.int .i64 k∧Hid (allF (wordF gs) (L.take k)=some acc)∧GathI w acc v wr) (fun _ i _=>m - (intOf i).toNat)
 case atStart=>exact ⟨0,[],Nat.zero_le _,rfl,rfl,none,0,0,rfl,World.ownsRow_nil _ _ _ _,Below.refl _ _⟩
 case round =>
  obtain ⟨k,acc,hk,rfl,HA,A1,m1,c1,rfl,hown,hbel⟩:=hrel
  have hm1:m1≤k:=by
   have h1:=hown.1
   have h2:=allF_len HA.out
   simp[cellsI] at h1 h2
   omega
  by_cases hlt:k<m
  ·obtain ⟨b1,o1,x,rfl,hlt1,hx,k1⟩:=HL.out.got hlt
   have k1' := (hbel.cell (p:=⟨b1,o1+k,none⟩) hlt1).trans k1
   have HC:=ha_ (sclass_any (HG.out.on hbel) x)
   have HX:=ha_ hx
   have HO:=ha_ hown
   have HB:=ha_ hbel
   have HW:Hid (wordF gs x=if classF (listsOf gs) x<0 then none else some (classF (listsOf gs) x)):=rfl
   clear hx k1 hown hbel
   generalize hf:classF (listsOf gs) x=f at *
   clear hf
   by_cases hneg:f<0
   ·have HN:Hid (allF (wordF gs) L=none):=allF_none HX.out (HW.out.trans (if_pos hneg))
    go_wp2_with fail
    refine HC.out.mono ?_
    rintro e w1 ⟨rfl,hb1⟩
    have HR:=ha_ (wd_none (HB.out.trans (hb1.mono HB.out.size)) HN.out)
    go_wp2
    go_ret2
    exact HR.out
   ·have HT:=ha_ (allF_take HA.out HX.out (HW.out.trans (if_neg hneg)))
    go_wp2_with fail
    refine HC.out.mono ?_
    rintro e w1 ⟨rfl,hb1⟩
    have HB1:=ha_ (HB.out.trans (hb1.mono HB.out.size))
    have HO1:=ha_ (zg_ HO.out hb1)
    go_wp2_with (at_builtin;refine wpList_append_own _ rfl _ _ 23 rfl w.heap.size 3 i0 (.int .i64 0) 1 8 Tryz.underlying23 hi0 hz0 hz1 hz2 rfl (by decide) _ _ _ rfl (World.ownsRow.alloc HO1.out _) ⟨w1.heap.size,0,none⟩ 1 1 [.int .i64 f] rfl rfl ?c1 (one_x _) ?c3 ?c4 ?c5 ?_)
    case c1=>exact newsI_at _ _ rfl _ _
    case c3=>simp only[maxLen];omega
    case c4=>omega
    case c5=>have:=HB1.out.size;simp;omega
    intro v' w2 hown' hgrow _
    have hb2:Below w.heap.size w w2:=(HB1.out.alloc HB1.out.size _).grown hgrow (by have:=HB1.out.size;simp;omega) (fun k hk=>(HO1.out.lt k hk).1)
    have R:GathI w (acc++[f]) v' w2:=gathI_of (n:=m1+1) (by simpa [cellsI] using hown') hb2
    have RR:=ha_ R
    clear R hown' hgrow hb2
    go_wp2
    go_roundw
    case rel=>exact ⟨k+1,acc++[f],by omega,by go_num,HT.out,RR.out⟩
    case measure=>simp[intOf];omega
  ·have ht:L.take k=L:=List.take_of_length_le (by rw[HLN.out];omega)
   have HS:Hid (allF (wordF gs) L=some acc):=ht ▸ HA.out
   have HR:Hid (WdP w (allF (wordF gs) L) (.returned (.tuple #[.slice A1 m1 c1,.int .i64 0])) wr):=by
    show WdP _ _ _ _
    rw[HS.out]
    obtain ⟨A2,n2,c2,e2,hr2,hb2⟩:=fresh_gath (w:=w) (L:=acc) ⟨A1,m1,c1,rfl,hown,hbel⟩
    exact ⟨A2,n2,c2,by rw[show Value.slice A1 m1 c1=.slice A2 n2 c2 from e2];rfl,hr2,hb2⟩
   clear hown hbel ht
   go_wp2
   go_ret2
   exact HR.out
set_option maxHeartbeats 2000000 in
theorem dword_any {w:World}{A:Option Addr}{n c:Nat}{gs:List Given}(hg:RdS w w.heap.size A n c gs){B:Option Addr}{m d:Nat}{L:List Int}(hl:RdI w w.heap.size B m d L) (hm:m≤100000) :
  Calls Tryz.prog 7 #[.slice A n c,.slice B m d] w (WdP w (allF (wordF gs) L)):=by
 obtain ⟨i0,hi0,hz0,hz1,hz2⟩:=info_parts info_I
 have HG:=ha_ hg
 have HL:=ha_ hl
 have HLN:=ha_ hl.len
 clear hg hl
 go_enter Tryz.func7,Tryz.ntmps7
 go_wp2_with fail
 go_loopw [6,7] (fun v i wr=>∃ (k:Nat) (acc:List Int),k≤m∧i=.int .i64 k∧Hid (allF (wordF gs) (L.take k)=some acc)∧GathI w acc v wr) (fun _ i _=>m - (intOf i).toNat)
 case atStart=>exact ⟨0,[],Nat.zero_le _,rfl,rfl,none,0,0,rfl,World.ownsRow_nil _ _ _ _,Below.refl _ _⟩
 case round =>
  obtain ⟨k,acc,hk,rfl,HA,A1,m1,c1,rfl,hown,hbel⟩:=hrel
  have hm1:m1≤k:=by
   have h1:=hown.1
   have h2:=allF_len HA.out
   simp[cellsI] at h1 h2
   omega
  by_cases hlt:k<m
  ·obtain ⟨b1,o1,x,rfl,hlt1,hx,k1⟩:=HL.out.got hlt
   have k1' := (hbel.cell (p:=⟨b1,o1+k,none⟩) hlt1).trans k1
   have HC:=ha_ (tclass_any (HG.out.on hbel) x)
   have HX:=ha_ hx
   have HO:=ha_ hown
   have HB:=ha_ hbel
   have HW:Hid (wordF gs x=if classF (listsOf gs) x<0 then none else some (classF (listsOf gs) x)):=rfl
   clear hx k1 hown hbel
   generalize hf:classF (listsOf gs) x=f at *
   clear hf
   by_cases hneg:f<0
   ·have HN:Hid (allF (wordF gs) L=none):=allF_none HX.out (HW.out.trans (if_pos hneg))
    go_wp2_with fail
    refine HC.out.mono ?_
    rintro e w1 ⟨rfl,e1⟩
    subst e1
    have HR:=ha_ (wd_none HB.out HN.out)
    go_wp2
    go_ret2
    exact HR.out
   ·have HT:=ha_ (allF_take HA.out HX.out (HW.out.trans (if_neg hneg)))
    go_wp2_with fail
    refine HC.out.mono ?_
    rintro e w1 ⟨rfl,e1⟩
    subst e1
    have HB1:=ha_ HB.out
    have HO1:=ha_ HO.out
    go_wp2_with (at_builtin;refine wpList_append_own _ rfl _ _ 23 rfl w.heap.size 3 i0 (.int .i64 0) 1 8 Tryz.underlying23 hi0 hz0 hz1 hz2 rfl (by decide) _ _ _ rfl (World.ownsRow.alloc HO1.out _) ⟨wr.heap.size,0,none⟩ 1 1 [.int .i64 f] rfl rfl ?c1 (one_x _) ?c3 ?c4 ?c5 ?_)
    case c1=>exact newsI_at _ _ rfl _ _
    case c3=>simp only[maxLen];omega
    case c4=>omega
    case c5=>have:=HB1.out.size;simp;omega
    intro v' w2 hown' hgrow _
    have hb2:Below w.heap.size w w2:=(HB1.out.alloc HB1.out.size _).grown hgrow (by have:=HB1.out.size;simp;omega) (fun k hk=>(HO1.out.lt k hk).1)
    have R:GathI w (acc++[f]) v' w2:=gathI_of (n:=m1+1) (by simpa [cellsI] using hown') hb2
    have RR:=ha_ R
    clear R hown' hgrow hb2
    go_wp2
    go_roundw
    case rel=>exact ⟨k+1,acc++[f],by omega,by go_num,HT.out,RR.out⟩
    case measure=>simp[intOf];omega
  ·have ht:L.take k=L:=List.take_of_length_le (by rw[HLN.out];omega)
   have HS:Hid (allF (wordF gs) L=some acc):=ht ▸ HA.out
   have HR:Hid (WdP w (allF (wordF gs) L) (.returned (.tuple #[.slice A1 m1 c1,.int .i64 0])) wr):=by
    show WdP _ _ _ _
    rw[HS.out]
    obtain ⟨A2,n2,c2,e2,hr2,hb2⟩:=fresh_gath (w:=w) (L:=acc) ⟨A1,m1,c1,rfl,hown,hbel⟩
    exact ⟨A2,n2,c2,by rw[show Value.slice A1 m1 c1=.slice A2 n2 c2 from e2];rfl,hr2,hb2⟩
   clear hown hbel ht
   go_wp2
   go_ret2
   exact HR.out

def charF (fs:List Int) (x:Int):Option Int:=if x<0 then none else match fs[x.toNat]? with
 | none=>none
 | some y=>if y<0 then none else some y
theorem char_neg {fs:List Int}{x:Int}(h:x<0):charF fs x=none:=if_pos h
theorem char_out {fs:List Int}{i:Nat}(h:¬ i<fs.length):charF fs (i:Int)=none:=by
 unfold charF
 rw[if_neg (by omega),Int.toNat_natCast,List.getElem?_eq_none (by omega)]
theorem char_none {fs:List Int}{i:Nat}{y:Int}(h:fs[i]?=some y) (hy:y<0):charF fs (i:Int)=none:=by
 unfold charF
 rw[if_neg (by omega),Int.toNat_natCast,h]
 exact if_pos hy
theorem char_some {fs:List Int}{i:Nat}{y:Int}(h:fs[i]?=some y) (hy:¬ y<0):charF fs (i:Int)=some y:=by
 unfold charF
 rw[if_neg (by omega),Int.toNat_natCast,h]
 exact if_neg hy
set_option maxHeartbeats 4000000 in
theorem schars_any {w:World}{A:Option Addr}{n c:Nat}{gs:List Given}(hg:RdS w w.heap.size A n c gs) (hs:gs.length≤100000){B:Option Addr}{m d:Nat}{L:List Int}(hl:RdI w w.heap.size B m d L) (hm:m≤100000) :
  Calls Tryz.prog 8 #[.slice A n c,.slice B m d] w (WdP w (allF (charF (firstsF (listsOf gs))) L)):=by
 obtain ⟨i0,hi0,hz0,hz1,hz2⟩:=info_parts info_I
 have HC0:=ha_ (sfirsts_any hg hs)
 have hfl:(firstsF (listsOf gs)).length≤100000:=by simpa [firstsF,listsOf] using hs
 have HL0:=ha_ hl
 have HLN:=ha_ hl.len
 clear hg hl hs
 obtain ⟨fs,hfs9⟩:∃ fs,Hid (fs=firstsF (listsOf gs)):=⟨_,rfl⟩
 rw[← hfs9.out] at HC0 hfl
 rw[← hfs9.out]
 clear hfs9
 go_enter Tryz.func8,Tryz.ntmps8
 go_wp2_with fail
 refine HC0.out.mono ?_
 rintro e w1 ⟨A2,n2,c2,rfl,hr1,hb1⟩
 have RI:=ha_ hr1
 have HFN:=ha_ hr1.len
 have hn2:n2≤100000:=by have:=hr1.len;omega
 have HL:=ha_ (HL0.out.on hb1)
 have B1:=ha_ hb1
 clear hr1 hb1 HL0 HC0 hfl
 go_wp2_with fail
 go_loopw [7,14] (fun v i wr=>∃ (k:Nat) (acc:List Int),k≤m∧i=.int .i64 k∧Hid (allF (charF fs) (L.take k)=some acc)∧GathI w1 acc v wr) (fun _ i _=>m - (intOf i).toNat)
 case atStart=>exact ⟨0,[],Nat.zero_le _,rfl,rfl,none,0,0,rfl,World.ownsRow_nil _ _ _ _,Below.refl _ _⟩
 case round =>
  obtain ⟨k,acc,hk,rfl,HA,A1,m1,c1,rfl,hown,hbel⟩:=hrel
  have hm1:m1≤k:=by
   have h1:=hown.1
   have h2:=allF_len HA.out
   simp[cellsI] at h1 h2
   omega
  by_cases hlt:k<m
  ·obtain ⟨b1,o1,x,rfl,hlt1,hx,k1⟩:=HL.out.got hlt
   have k1' := (hbel.cell (p:=⟨b1,o1+k,none⟩) hlt1).trans k1
   have HX:=ha_ hx
   have HO:=ha_ hown
   have HB:=ha_ hbel
   have RI2:=ha_ (RI.out.on hbel)
   clear hx k1 hown hbel
   by_cases hneg:x<0
   ·have HN:Hid (allF (charF fs) L=none):=allF_none HX.out (char_neg hneg)
    have HR:Hid (WdP w (allF (charF fs) L) (.returned (.tuple #[.slice none 0 0,.int .i64 1])) wr):=wd_none (B1.out.trans (HB.out.mono B1.out.size)) HN.out
    clear HN
    go_wp2_with fail
    go_ret2
    exact HR.out
   ·obtain ⟨i,rfl⟩:∃ i:Nat,x=(i:Int):=⟨x.toNat,by omega⟩
    by_cases hge:i<n2
    ·obtain ⟨b2,o2,y,rfl,hlt2,hy,k2⟩:=RI2.out.got hge
     have HY:=ha_ hy
     clear hy
     have hge1:(i:Int)<(n2:Int):=by omega
     have hge0:(0:Int)≤(i:Int):=by omega
     by_cases hy0:y<0
     ·have HN:Hid (allF (charF fs) L=none):=allF_none HX.out (char_none HY.out hy0)
      have HR:Hid (WdP w (allF (charF fs) L) (.returned (.tuple #[.slice none 0 0,.int .i64 1])) wr):=wd_none (B1.out.trans (HB.out.mono B1.out.size)) HN.out
      clear HN
      go_wp2_with fail
      go_ret2
      exact HR.out
     ·have HT:=ha_ (allF_take HA.out HX.out (char_some HY.out hy0))
      go_wp2_with (at_builtin;refine wpList_append_own _ rfl _ _ 23 rfl w1.heap.size 3 i0 (.int .i64 0) 1 8 Tryz.underlying23 hi0 hz0 hz1 hz2 rfl (by decide) _ _ _ rfl (World.ownsRow.alloc HO.out _) ⟨wr.heap.size,0,none⟩ 1 1 [.int .i64 y] rfl rfl ?c1 (one_x _) ?c3 ?c4 ?c5 ?_)
      case c3=>simp only[maxLen];omega
      case c4=>omega
      case c5=>have:=HB.out.size;simp;omega
      intro v' w2 hown' hgrow _
      have hb2:Below w1.heap.size w1 w2:=(HB.out.alloc HB.out.size _).grown hgrow (by have:=HB.out.size;simp;omega) (fun k hk=>(HO.out.lt k hk).1)
      have R:GathI w1 (acc++[y]) v' w2:=gathI_of (n:=m1+1) (by simpa [cellsI] using hown') hb2
      have RR:=ha_ R
      clear R hown' hgrow hb2
      go_wp2
      go_roundw
      case rel=>exact ⟨k+1,acc++[y],by omega,by go_num,HT.out,RR.out⟩
      case measure=>simp[intOf];omega
    ·have hge1:(n2:Int)≤(i:Int):=by omega
     have hge0:(0:Int)≤(i:Int):=by omega
     have HN:Hid (allF (charF fs) L=none):=allF_none HX.out (char_out (by rw[HFN.out];exact hge))
     have HR:Hid (WdP w (allF (charF fs) L) (.returned (.tuple #[.slice none 0 0,.int .i64 1])) wr):=wd_none (B1.out.trans (HB.out.mono B1.out.size)) HN.out
     clear HN
     go_wp2_with fail
     go_ret2
     exact HR.out
  ·have ht:L.take k=L:=List.take_of_length_le (by rw[HLN.out];omega)
   have HS:Hid (allF (charF fs) L=some acc):=ht ▸ HA.out
   have HR:Hid (WdP w (allF (charF fs) L) (.returned (.tuple #[.slice A1 m1 c1,.int .i64 0])) wr):=by
    show WdP _ _ _ _
    rw[HS.out]
    obtain ⟨A2,n2,c2,e2,hr2,hb2⟩:=fresh_gath (w:=w1) (L:=acc) ⟨A1,m1,c1,rfl,hown,hbel⟩
    exact ⟨A2,n2,c2,by rw[show Value.slice A1 m1 c1=.slice A2 n2 c2 from e2];rfl,hr2,B1.out.trans (hb2.mono B1.out.size)⟩
   clear hown hbel ht
   go_wp2
   go_ret2
   exact HR.out
set_option maxHeartbeats 4000000 in
theorem dchars_any {w:World}{A:Option Addr}{n c:Nat}{gs:List Given}(hg:RdS w w.heap.size A n c gs) (hs:gs.length≤100000){B:Option Addr}{m d:Nat}{L:List Int}(hl:RdI w w.heap.size B m d L) (hm:m≤100000) :
  Calls Tryz.prog 9 #[.slice A n c,.slice B m d] w (WdP w (allF (charF (firstsF (listsOf gs))) L)):=by
 obtain ⟨i0,hi0,hz0,hz1,hz2⟩:=info_parts info_I
 have HC0:=ha_ (tfirsts_any hg hs)
 have hfl:(firstsF (listsOf gs)).length≤100000:=by simpa [firstsF,listsOf] using hs
 have HL0:=ha_ hl
 have HLN:=ha_ hl.len
 clear hg hl hs
 obtain ⟨fs,hfs9⟩:∃ fs,Hid (fs=firstsF (listsOf gs)):=⟨_,rfl⟩
 rw[← hfs9.out] at HC0 hfl
 rw[← hfs9.out]
 clear hfs9
 go_enter Tryz.func9,Tryz.ntmps9
 go_wp2_with fail
 refine HC0.out.mono ?_
 rintro e w1 ⟨A2,n2,c2,rfl,hr1,hb1⟩
 have RI:=ha_ hr1
 have HFN:=ha_ hr1.len
 have hn2:n2≤100000:=by have:=hr1.len;omega
 have HL:=ha_ (HL0.out.on hb1)
 have B1:=ha_ hb1
 clear hr1 hb1 HL0 HC0 hfl
 go_wp2_with fail
 go_loopw [6,8] (fun v i wr=>∃ (k:Nat) (acc:List Int),k≤m∧i=.int .i64 k∧Hid (allF (charF fs) (L.take k)=some acc)∧GathI w1 acc v wr) (fun _ i _=>m - (intOf i).toNat)
 case atStart=>exact ⟨0,[],Nat.zero_le _,rfl,rfl,none,0,0,rfl,World.ownsRow_nil _ _ _ _,Below.refl _ _⟩
 case round =>
  obtain ⟨k,acc,hk,rfl,HA,A1,m1,c1,rfl,hown,hbel⟩:=hrel
  have hm1:m1≤k:=by
   have h1:=hown.1
   have h2:=allF_len HA.out
   simp[cellsI] at h1 h2
   omega
  by_cases hlt:k<m
  ·obtain ⟨b1,o1,x,rfl,hlt1,hx,k1⟩:=HL.out.got hlt
   have k1' := (hbel.cell (p:=⟨b1,o1+k,none⟩) hlt1).trans k1
   have HX:=ha_ hx
   have HO:=ha_ hown
   have HB:=ha_ hbel
   have RI2:=ha_ (RI.out.on hbel)
   clear hx k1 hown hbel
   by_cases hneg:x<0
   ·have HN:Hid (allF (charF fs) L=none):=allF_none HX.out (char_neg hneg)
    have HR:Hid (WdP w (allF (charF fs) L) (.returned (.tuple #[.slice none 0 0,.int .i64 1])) wr):=wd_none (B1.out.trans (HB.out.mono B1.out.size)) HN.out
    clear HN
    go_wp2_with fail
    go_ret2
    exact HR.out
   ·obtain ⟨i,rfl⟩:∃ i:Nat,x=(i:Int):=⟨x.toNat,by omega⟩
    by_cases hge:i<n2
    ·obtain ⟨b2,o2,y,rfl,hlt2,hy,k2⟩:=RI2.out.got hge
     have HY:=ha_ hy
     clear hy
     have hge1:(i:Int)<(n2:Int):=by omega
     have hge0:(0:Int)≤(i:Int):=by omega
     by_cases hy0:y<0
     ·have HN:Hid (allF (charF fs) L=none):=allF_none HX.out (char_none HY.out hy0)
      have HR:Hid (WdP w (allF (charF fs) L) (.returned (.tuple #[.slice none 0 0,.int .i64 1])) wr):=wd_none (B1.out.trans (HB.out.mono B1.out.size)) HN.out
      clear HN
      go_wp2_with fail
      go_ret2
      exact HR.out
     ·have HT:=ha_ (allF_take HA.out HX.out (char_some HY.out hy0))
      go_wp2_with (at_builtin;refine wpList_append_own _ rfl _ _ 23 rfl w1.heap.size 3 i0 (.int .i64 0) 1 8 Tryz.underlying23 hi0 hz0 hz1 hz2 rfl (by decide) _ _ _ rfl (World.ownsRow.alloc HO.out _) ⟨wr.heap.size,0,none⟩ 1 1 [.int .i64 y] rfl rfl ?c1 (one_x _) ?c3 ?c4 ?c5 ?_)
      case c3=>simp only[maxLen];omega
      case c4=>omega
      case c5=>have:=HB.out.size;simp;omega
      intro v' w2 hown' hgrow _
      have hb2:Below w1.heap.size w1 w2:=(HB.out.alloc HB.out.size _).grown hgrow (by have:=HB.out.size;simp;omega) (fun k hk=>(HO.out.lt k hk).1)
      have R:GathI w1 (acc++[y]) v' w2:=gathI_of (n:=m1+1) (by simpa [cellsI] using hown') hb2
      have RR:=ha_ R
      clear R hown' hgrow hb2
      go_wp2
      go_roundw
      case rel=>exact ⟨k+1,acc++[y],by omega,by go_num,HT.out,RR.out⟩
      case measure=>simp[intOf];omega
    ·have hge1:(n2:Int)≤(i:Int):=by omega
     have hge0:(0:Int)≤(i:Int):=by omega
     have HN:Hid (allF (charF fs) L=none):=allF_none HX.out (char_out (by rw[HFN.out];exact hge))
     have HR:Hid (WdP w (allF (charF fs) L) (.returned (.tuple #[.slice none 0 0,.int .i64 1])) wr):=wd_none (B1.out.trans (HB.out.mono B1.out.size)) HN.out
     clear HN
     go_wp2_with fail
     go_ret2
     exact HR.out
  ·have ht:L.take k=L:=List.take_of_length_le (by rw[HLN.out];omega)
   have HS:Hid (allF (charF fs) L=some acc):=ht ▸ HA.out
   have HR:Hid (WdP w (allF (charF fs) L) (.returned (.tuple #[.slice A1 m1 c1,.int .i64 0])) wr):=by
    show WdP _ _ _ _
    rw[HS.out]
    obtain ⟨A2,n2,c2,e2,hr2,hb2⟩:=fresh_gath (w:=w1) (L:=acc) ⟨A1,m1,c1,rfl,hown,hbel⟩
    exact ⟨A2,n2,c2,by rw[show Value.slice A1 m1 c1=.slice A2 n2 c2 from e2];rfl,hr2,B1.out.trans (hb2.mono B1.out.size)⟩
   clear hown hbel ht
   go_wp2
   go_ret2
   exact HR.out
end Go.Proofs.YtbbmjdddemahfaaGreat
