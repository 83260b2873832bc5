/- Part of the proof. -/
import Derived.Test.YtbbmjdddemahfaaGreatSW17
import Derived.Test.YtbbmjdddemahfaaGreatSW15
import Derived.Test.YtbbmjdddemahfaaGreatSW04
import Derived.Deep.WholeRow
namespace Go.Proofs.YtbbmjdddemahfaaGreat
open Go.RowKit Go.Shelf
open M (Rg)
attribute [local go_sem] Oper.semAt_some

theorem pieces_any (A:Option Addr) (n c:Nat) (w:World):Calls Tryz.prog 51 #[.slice A n c] w fun e w' => e=.returned (.func (.func 71) #[] #[.pointer (some ⟨w.heap.size,0,none⟩)])∧w' = w.alloc (.cells #[.slice A n c] 22):=by
 go_enter Tryz.func51,Tryz.ntmps51
 go_wp2
 go_ret
 exact ⟨rfl,rfl⟩
theorem own_keeps {w w' : World}{B:Nat}{e:TypeId}{k n:Nat}{v:Value}{xs:List Value}(h:w.ownsRow B e k v n xs) (he:(e != 110)=true) (hk:Keeps mine w w'):w'.ownsRow B e k v n xs:=by
 refine ⟨h.1,?_⟩
 rcases h.2 with h2|⟨g,cap,cur,h1,hB,hg,h3⟩
 ·exact .inl h2
 ·exact .inr ⟨g,cap,cur,h1,hB,hk.2 _ _ hg he,h3⟩
theorem Rws.keeps {w w' : World}{B:Nat}{A:Option Addr}{n c:Nat}{hs:List Given}(h:Rws w B A n c hs) (hk:Keeps mine w w'):Rws w' B A n c hs :=
 ⟨own_keeps h.out (by decide) hk,fun g hg=>own_keeps (h.each g hg) (by decide) hk,h.apart⟩
theorem Boxed.keeps {w w' : World}{b:Nat}{t:TypeId}{v:Value}(h:Boxed w b t v) (ht:(t != 110)=true) (hk:Keeps mine w w'):Boxed w' b t v:=hk.2 _ _ h ht
theorem map_keeps {w w' : World}{b n:Nat}{D:DataW Unit}(h:w.ownsMap Tryz.prog 110 (plainElem Tryz.prog 3) b n D) (hk:Keeps mine w w'):w'.ownsMap Tryz.prog 110 (plainElem Tryz.prog 3) b n D:=by
 obtain ⟨es,clock,hb,F,hs,hD⟩:=h
 exact ⟨es,clock,hk.2 _ _ hb rfl,F,hs,hD⟩
structure Bxs where
 r0:Nat
 r1:Nat
 b4:Nat
 b5:Nat
 bm:Nat
structure OfK (w:World) (x:Bxs) (W:World):Prop where
 box0:Boxed W x.r0 22 (.slice none 0 0)
 box1:Boxed W x.r1 26 (.int .i64 0)
 box5:Boxed W x.b5 103 (.map (some x.bm))
 ne:x.r0≠x.b4
 low:w.heap.size≤x.r0∧w.heap.size≤x.r1∧w.heap.size≤x.b4∧w.heap.size≤x.b5∧w.heap.size≤x.bm
 bel:Below w.heap.size w W
theorem OfK.keeps {w W W' : World}{x:Bxs}(h:OfK w x W) (hb:Below w.heap.size W W') (hk:Keeps mine W W'):OfK w x W' :=
 ⟨Boxed.keeps h.box0 (by decide) hk,Boxed.keeps h.box1 (by decide) hk,Boxed.keeps h.box5 (by decide) hk,h.ne,h.low,h.bel.trans hb⟩
def OfI (w:World) (x:Bxs) (pre:List Pxi) (W:World):Prop :=
 ∃ A n c hs D,Boxed W x.b4 22 (.slice A n c)∧Rws W w.heap.size A n c hs∧listsOf hs=M.atomsOf (pre.map bare)∧n≤200∧(∀ a∈M.atomsOf (pre.map bare),a.length≤400) ∧
  W.ownsMap Tryz.prog 110 (plainElem (H:=Unit) Tryz.prog 3) x.bm pre.length D∧MapOk D (M.keys (pre.map bare))∧OfK w x W
theorem OfI.keeps {w W W' : World}{x:Bxs}{pre:List Pxi}(h:OfI w x pre W) (hb:Below w.heap.size W W') (hk:Keeps mine W W'):OfI w x pre W' := by
 obtain ⟨A,n,c,hs,D,h1,h2,h3,h4,h5,h6,h7,h8⟩:=h
 exact ⟨A,n,c,hs,D,Boxed.keeps h1 (by decide) hk,h2.keeps hk,h3,h4,h5,map_keeps h6 hk,h7,h8.keeps hb hk⟩
def OfX (w:World) (x:Bxs) (pre:List Pxi) (W:World):Prop :=
 Boxed W x.r0 22 (.slice none 0 0)∧Boxed W x.r1 26 (.int .i64 9)∧Below w.heap.size w W∧((M.keys (pre.map bare)).length=201∨∃ o,400<(M.cls (pre.map bare) o).length)
theorem OfX.keeps {w W W' : World}{x:Bxs}{pre:List Pxi}(h:OfX w x pre W) (hb:Below w.heap.size W W') (hk:Keeps mine W W'):OfX w x pre W' :=
 ⟨Boxed.keeps h.1 (by decide) hk,Boxed.keeps h.2.1 (by decide) hk,h.2.2.1.trans hb,h.2.2.2⟩
theorem book_its (o:Obj) (h:book o=true):its o=false:=by cases o <;> simp_all [book,its]
theorem book_mine (o:Obj) (h:book o=true):mine o=false:=by cases o <;> simp_all [book,mine]

theorem two_boxes (w:World):Below w.heap.size w ((w.alloc (.cells #[.slice none 0 0] 22)).alloc (.cells #[.int .i64 0] 26)):=(qd_ w _).trans ((qd_ _ _).mono (by simp))
theorem enters_long:∀ args w,(callFunc 50 args).run Tryz.prog w=.ok (.enter 50 args) w:=enters_of Tryz.func50 (by kernel_rfl) rfl
theorem enters_pieces:∀ args w,(callFunc 71 args).run Tryz.prog w=.ok (.enter 71 args) w:=enters_of Tryz.func71 (by kernel_rfl) rfl

theorem two_boxed {w w2:World}(hb:Below ((w.alloc (.cells #[.slice none 0 0] 22)).alloc (.cells #[.int .i64 0] 26)).heap.size ((w.alloc (.cells #[.slice none 0 0] 22)).alloc (.cells #[.int .i64 0] 26)) w2) :
  Boxed w2 w.heap.size 22 (.slice none 0 0)∧Boxed w2 (w.heap.size+1) 26 (.int .i64 0):=by
 constructor
 ·exact (hb.block _ (by simp;omega)).trans ((Boxed.new w _ _).alloc _)
 ·refine (hb.block _ (by simp)).trans ?_
  have:=Boxed.new (w.alloc (.cells #[.slice none 0 0] 22)) 26 (.int .i64 0)
  rwa [World.size_alloc] at this
theorem two_cells {w w2:World}(hb:Below ((w.alloc (.cells #[.slice none 0 0] 22)).alloc (.cells #[.int .i64 0] 26)).heap.size ((w.alloc (.cells #[.slice none 0 0] 22)).alloc (.cells #[.int .i64 0] 26)) w2) :
  w2.cell? ⟨w.heap.size,0,none⟩=some (.slice none 0 0)∧w2.cell? ⟨w.heap.size+1,0,none⟩=some (.int .i64 0)∧w2.frozen? ⟨w.heap.size,0,none⟩=false∧w2.frozen? ⟨w.heap.size+1,0,none⟩=false :=
 ⟨(two_boxed hb).1.cell,(two_boxed hb).2.cell,(two_boxed hb).1.frozen,(two_boxed hb).2.frozen⟩

theorem boxed_ne {W:World}{a b:Nat}{t t' : TypeId}{v v' : Value}(h:Boxed W a t v) (h' : Boxed W b t' v') (ht:t≠t'):a≠b:=by
 intro e
 subst e
 have:some (Obj.cells #[v] t)=some (Obj.cells #[v'] t'):=h.symm.trans h'
 injection this with this
 injection this with _ e2
 exact ht e2
theorem boxed_deferred {W:World}{a D:Nat}{t:TypeId}{v:Value}{ds:Option (List Deferred)}(h:Boxed W a t v) (h' : W.heap[D]?=some (.deferred ds)):D≠a:=by
 intro e
 subst e
 have:some (Obj.cells #[v] t)=some (Obj.deferred ds):=h.symm.trans h'
 injection this with this
 cases this

theorem exit_cells {w W:World}{x:Bxs}(h:OfK w x W):W.cell? ⟨x.r0,0,none⟩=some (.slice none 0 0)∧W.frozen? ⟨x.r0,0,none⟩=false ∧
  (W.setCell ⟨x.r0,0,none⟩ (.slice none 0 0)).cell? ⟨x.r1,0,none⟩=some (.int .i64 0)∧(W.setCell ⟨x.r0,0,none⟩ (.slice none 0 0)).frozen? ⟨x.r1,0,none⟩=false:=by
 have hne:=(boxed_ne h.box0 h.box1 (by decide)).symm
 have B1:=Boxed.other h.box1 hne (.slice none 0 0)
 exact ⟨h.box0.cell,h.box0.frozen,B1.cell,B1.frozen⟩
theorem exit_post {w W:World}{x:Bxs}{pre:List Pxi}(h:OfK w x W) (why:(M.keys (pre.map bare)).length=201∨∃ o,400<(M.cls (pre.map bare) o).length) :
  OfX w x pre ((W.setCell ⟨x.r0,0,none⟩ (.slice none 0 0)).setCell ⟨x.r1,0,none⟩ (.int .i64 9))∧Keeps book W ((W.setCell ⟨x.r0,0,none⟩ (.slice none 0 0)).setCell ⟨x.r1,0,none⟩ (.int .i64 9)):=by
 have hne:=(boxed_ne h.box0 h.box1 (by decide)).symm
 have B1:=Boxed.other h.box1 hne (.slice none 0 0)
 have B0:=Boxed.other (Boxed.set (.slice none 0 0) h.box0) hne.symm (.int .i64 9)
 refine ⟨⟨B0,Boxed.set _ B1,(h.bel.setCell (p:=⟨x.r0,0,none⟩) h.low.1 _).setCell (p:=⟨x.r1,0,none⟩) h.low.2.1 _,why⟩,?_⟩
 exact (Keeps.set (p:=book) h.box0 rfl 0 _).trans (Keeps.set (p:=book) B1 rfl 0 _)
def allBut:Obj→Bool
 | .cells _ t _=>!(t == 108 || t == 44)
 | _=>true
theorem allBut_its (o:Obj) (h:(its o || book o)=true):allBut o=true:=by
 cases o <;> simp_all [its,book,allBut]
 rcases h with h|h <;> subst h <;> decide
theorem OfK.allBut {w W W' : World}{x:Bxs}(h:OfK w x W) (hb:Below w.heap.size W W') (hk:Keeps allBut W W'):OfK w x W' :=
 ⟨hk.2 _ _ h.box0 rfl,hk.2 _ _ h.box1 rfl,hk.2 _ _ h.box5 rfl,h.ne,h.low,h.bel.trans hb⟩
theorem app_done {w W W2 w1:World}{x:Bxs}{ob n c k:Nat}{hs:List Given}{g:Given}{p:Pxi}{pre:List Pxi}{v' : Value}{D:DataW Unit}(hb2:Below W.heap.size W W2)
  (hb4:Boxed W x.b4 22 (.slice (some ⟨ob,0,none⟩) n c)) (hrw:Rws W w.heap.size (some ⟨ob,0,none⟩) n c hs) (hk:hs[k]?=some g) (hla:(listsOf hs).set k (g.l++[p.1])=M.atomsOf ((pre++[p]).map bare)) (hn:n≤200)
  (h4:∀ a∈listsOf hs,a.length≤400) (hg4:g.l.length<400) (hom:W.ownsMap Tryz.prog 110 (plainElem Tryz.prog 3) x.bm (pre.length+1) D) (hmk:MapOk D (M.keys ((pre++[p]).map bare))) (hok:OfK w x W)
  (ho:w1.ownsRow w.heap.size 108 2 v' (g.n+1) (cellsR (g.l++[p.1]))) (hgr:W2.grownBy w1 (hdr g).ownBlock) (hat:v'.ownBlock=(hdr g).ownBlock∨v'.ownBlock=some W2.heap.size) :
  (∃ A' c', v' = .slice A' (g.n+1) c')∧w1.cell? ⟨ob,k,none⟩=some (hdr g)∧w1.frozen? ⟨ob,k,none⟩=false∧Keeps allBut W w1∧OfI w x (pre++[p]) (w1.setCell ⟨ob,k,none⟩ v')∧Keeps (fun o=>its o || book o) W (w1.setCell ⟨ob,k,none⟩ v'):=by
 have hrw2:=hrw.keep hb2
 obtain ⟨A', c', rfl,hR⟩:=hrw2.app hk ho hgr hat
 have hgo:=hrw2.each g (List.mem_of_getElem? hk)
 have hO:w1.ownsRow w.heap.size 44 1 (.slice (some ⟨ob,0,none⟩) n c) n (hs.map hdr):=hrw2.out.kept hgr (.inr fun e=>row_type hrw2.out hgo (by decide) rfl (e ▸ rfl))
 have hkn:k<n:=by rw[← hrw.len];exact (List.getElem?_eq_some_iff.1 hk).1
 have hob:∃ cur,w1.heap[ob]?=some (.cells cur 44 (0,0)):=by
  rcases hO.2 with ⟨h,_⟩|⟨g', cap,cur,h,_,hg,_⟩
  ·cases h
  ·injection h with h;injection h with h;injection h with h;subst h;exact ⟨cur,hg⟩
 obtain ⟨cur,hob⟩:=hob
 have hk1:Keeps allBut W w1:=by
  refine (Keeps.below hb2 _).trans (Keeps.grown hgr fun r o hr ho' => ?_)
  rcases hgo.2 with ⟨h,_⟩|⟨g', cap,cur', h,_,hg,_⟩
  ·unfold hdr at hr;rw[h] at hr;simp[Value.ownBlock] at hr
  ·unfold hdr at hr;rw[h] at hr;simp[Value.ownBlock] at hr
   subst hr
   rw[hg] at ho'
   injection ho' with ho'
   subst ho'
   rfl
 have hk2:=hk1.trans (Keeps.set (p:=allBut) hob rfl k (.slice A' (g.n+1) c'))
 have hsz:=hok.bel.size
 have hbl:Below w.heap.size W (w1.setCell ⟨ob,k,none⟩ (.slice A' (g.n+1) c')) :=
  ((hb2.mono hsz).grown hgr (Nat.le_trans hsz hb2.size) (fun i hi=>(hgo.lt i hi).1)).setCell (p:=⟨ob,k,none⟩) (hO.lt ob rfl).1 _
 refine ⟨⟨_,_,rfl⟩,by rw[hO.cellAt k (by omega)];simp[hk],hO.frozenAt k,hk1,⟨_,n,c,_,D,hk2.2 _ _ hb4 rfl,hR,?_,hn,?_,?_,hmk,hok.allBut hbl hk2⟩,hk2.sub allBut_its⟩
 ·rw[← hla];simp[listsOf,List.map_set]
 ·intro a ha
  rw[← hla] at ha
  rcases List.mem_or_eq_of_mem_set ha with h|h
  ·exact h4 a h
  ·subst h;simp;omega
 ·obtain ⟨es,clock,hb,F,hs', hD⟩:=hom
  rw[List.length_append]
  exact ⟨es,clock,hk2.2 _ _ hb rfl,F,hs', hD⟩

def notOut:Obj→Bool
 | .cells _ t _=>!(t == 44)
 | .map _ _=>false
 | _=>true
def keepB:Obj→Bool
 | .cells _ t _=>!(t == 44) && !(t == 22)
 | .map _ _=>false
 | _=>true
theorem keepB_out (o:Obj) (h:keepB o=true):notOut o=true:=by cases o <;> simp_all [keepB,notOut]
theorem keepB_book (o:Obj) (h:book o=true):keepB o=true:=by cases o <;> simp_all [keepB,book]
theorem rws_map {W w1:World}{B bm m:Nat}{A1:Option Addr}{n1 c1:Nat}{hs:List Given}{D:DataW Unit}(hrw:Rws W B A1 n1 c1 hs) (hom:W.ownsMap Tryz.prog 110 (plainElem Tryz.prog 3) bm m D) (hg1:W.grownBy w1 (some bm)):Rws w1 B A1 n1 c1 hs:=by
 obtain ⟨es,clock,hbm,hrest⟩:=hom
 have k1:∀ (k:Nat) (cs:Array Value) (t:TypeId) (f:Nat × Nat),W.heap[k]?=some (.cells cs t f)→w1.heap[k]?=some (.cells cs t f):=fun k cs t f h=>by
  refine (hg1.block k (Array.getElem?_eq_some_iff.1 h).1 fun e=>?_).trans h
  injection e with e;subst e;rw[hbm] at h;cases h
 refine ⟨⟨hrw.out.1,?_⟩,fun g hg=>⟨(hrw.each g hg).1,?_⟩,hrw.apart⟩
 ·rcases hrw.out.2 with h|⟨g,cap,cur,h1,hB,hg,h3⟩
  ·exact .inl h
  ·exact .inr ⟨g,cap,cur,h1,hB,k1 _ _ _ _ hg,h3⟩
 ·rcases (hrw.each g hg).2 with h|⟨g,cap,cur,h1,hB,hg,h3⟩
  ·exact .inl h
  ·exact .inr ⟨g,cap,cur,h1,hB,k1 _ _ _ _ hg,h3⟩
theorem boxed_map {W w1:World}{b bm m:Nat}{t:TypeId}{v:Value}{D:DataW Unit}(h:Boxed W b t v) (hom:W.ownsMap Tryz.prog 110 (plainElem Tryz.prog 3) bm m D) (hg1:W.grownBy w1 (some bm)):Boxed w1 b t v:=by
 obtain ⟨es,clock,hbm,hrest⟩:=hom
 refine h.kept hg1 fun e=>?_
 injection e with e;subst e
 have:some (Obj.cells #[v] t)=some (Obj.map es clock):=h.symm.trans hbm
 cases this
theorem news_nil (w:World) (N:Nat) (hN:N=w.heap.size) (t:TypeId):∀ j u,[Value.slice none 0 0][j]?=some u→(w.alloc (.cells #[.slice none 0 0] t)).cell? ((⟨N,0,none⟩:Addr).add j)=some u:=by
 subst hN
 intro j u hj
 match j,hj with
 | 0,hj=>simp at hj;subst hj;simp[Addr.add]
theorem new_done {w W w1 W1 w2:World}{x:Bxs}{A1:Option Addr}{n1 c1 m:Nat}{hs:List Given}{D D1:DataW Unit}{v' : Value}(hok:OfK w x W) (hb4:Boxed W x.b4 22 (.slice A1 n1 c1)) (hrw:Rws W w.heap.size A1 n1 c1 hs)
  (hom:W.ownsMap Tryz.prog 110 (plainElem Tryz.prog 3) x.bm m D) (hg1:W.grownBy w1 (some x.bm)) (hom1:w1.ownsMap Tryz.prog 110 (plainElem Tryz.prog 3) x.bm (m+1) D1) (hW1:Below w1.heap.size w1 W1)
  (ho2:w2.ownsRow w.heap.size 44 1 v' (n1+1) (hs.map hdr++[.slice none 0 0])) (hg2:W1.grownBy w2 (Value.slice A1 n1 c1).ownBlock) :
  ∃ ob c', v' = .slice (some ⟨ob,0,none⟩) (n1+1) c' ∧ Boxed w2 x.b4 22 (.slice A1 n1 c1)∧Boxed (w2.setCell ⟨x.b4,0,none⟩ v') x.b4 22 v' ∧ Rws (w2.setCell ⟨x.b4,0,none⟩ v') w.heap.size (some ⟨ob,0,none⟩) (n1+1) c' (hs++[⟨none,0,0,[]⟩]) ∧
   (w2.setCell ⟨x.b4,0,none⟩ v').ownsMap Tryz.prog 110 (plainElem Tryz.prog 3) x.bm (m+1) D1∧OfK w x (w2.setCell ⟨x.b4,0,none⟩ v')∧Keeps keepB W (w2.setCell ⟨x.b4,0,none⟩ v'):=by
 obtain ⟨es,clock,hbm,hrest⟩:=hom
 have hsz:=hok.bel.size
 have hrw1:=rws_map hrw ⟨es,clock,hbm,hrest⟩ hg1
 have hrw2:=hrw1.keep hW1
 obtain ⟨ob,c', rfl,hR⟩:=hrw2.push ho2 hg2
 have k2:Keeps notOut W w2:=by
  refine (Keeps.grown (p:=notOut) hg1 fun r o hr ho=>?_).trans ((Keeps.below hW1 _).trans (Keeps.grown hg2 fun r o hr ho=>?_))
  ·injection hr with hr;subst hr;rw[hbm] at ho;injection ho with ho;subst ho;rfl
  ·rcases hrw2.out.2 with ⟨h,_⟩|⟨g', cap,cur', h,_,hg,_⟩
   ·rw[h] at hr;simp[Value.ownBlock] at hr
   ·rw[h] at hr;simp[Value.ownBlock] at hr
    subst hr
    rw[hg] at ho
    injection ho with ho
    subst ho
    rfl
 have hb4' : Boxed w2 x.b4 22 (.slice A1 n1 c1):=k2.2 _ _ hb4 rfl
 have k3:=(k2.sub keepB_out).trans (Keeps.set (p:=keepB) hb4' rfl 0 (.slice (some ⟨ob,0,none⟩) (n1+1) c'))
 have hw12:Below w.heap.size w1 w2:=(hW1.mono (Nat.le_trans hsz hg1.size)).grown hg2 (Nat.le_trans (Nat.le_trans hsz hg1.size) hW1.size) (fun i hi=>(hrw2.out.lt i hi).1)
 have hbl:Below w.heap.size W (w2.setCell ⟨x.b4,0,none⟩ (.slice (some ⟨ob,0,none⟩) (n1+1) c')) :=
  (((Below.refl _ _).grown hg1 hsz (fun i hi=>by injection hi with hi;subst hi;exact hok.low.2.2.2.2)).trans hw12).setCell (p:=⟨x.b4,0,none⟩) hok.low.2.2.1 _
 refine ⟨ob,c', rfl,hb4', Boxed.set _ hb4', ?_,?_,⟨?_,k3.2 _ _ hok.box1 rfl,k3.2 _ _ hok.box5 rfl,hok.ne,hok.low,hok.bel.trans hbl⟩,k3⟩
 ·refine ⟨ownsRow_setCell_other hR.out (fun e=>Boxed.not_row hb4' (by decide) hR.out e.symm) _,fun g hg=>?_,hR.apart⟩
  exact ownsRow_setCell_other (hR.each g hg) (fun e=>Boxed.not_row hb4' (by decide) (hR.each g hg) e.symm) _
 ·obtain ⟨es1,clock1,hbm1,hrest1⟩:=hom1
  refine ⟨es1,clock1,?_,hrest1⟩
  have hne:x.bm≠x.b4:=fun e=>by
   have h1:W.heap[x.b4]?=some (.map es clock):=by rw[← e];exact hbm
   have h2:W.heap[x.b4]?=some (.cells #[.slice A1 n1 c1] 22):=hb4
   rw[h1] at h2;cases h2
  rw[heap_setCell_other _ _ _ _ hne]
  refine (hg2.block x.bm ?_ ?_).trans ((hW1.block x.bm (Array.getElem?_eq_some_iff.1 hbm1).1).trans hbm1)
  ·exact Nat.lt_of_lt_of_le (Array.getElem?_eq_some_iff.1 hbm1).1 hW1.size
  ·intro e
   rcases hrw2.out.2 with ⟨h,_⟩|⟨g', cap,cur', h,_,hg,_⟩
   ·rw[h] at e;simp[Value.ownBlock] at e
   ·rw[h] at e;simp[Value.ownBlock] at e
    have h1:=(hW1.block x.bm (Array.getElem?_eq_some_iff.1 hbm1).1).trans hbm1
    rw[e,hg] at h1;cases h1
 ·have h0:w2.heap[x.r0]?=some (.cells #[.slice none 0 0] 22):=k2.2 _ _ hok.box0 rfl
  show (w2.setCell ⟨x.b4,0,none⟩ _).heap[x.r0]?=_
  rw[heap_setCell_other _ _ _ _ hok.ne];exact h0
def AppS (b4 ob k:Nat) (v g:Value) (w' : World):Prop:=w'.cell? ⟨b4,0,none⟩=some v∧w'.cell? ⟨ob,k,none⟩=some g
theorem appS_old {b4 ob k:Nat}{v g:Value}{W W2:World}(h1:W.cell? ⟨b4,0,none⟩=some v) (h2:W.cell? ⟨ob,k,none⟩=some g) (hb:Below W.heap.size W W2):AppS b4 ob k v g W2:=by
 have lt:∀ {b i:Nat} {u:Value},W.cell? ⟨b,i,none⟩=some u→b<W.heap.size:=fun {b i u} h=>by
  rcases Nat.lt_or_ge b W.heap.size with g|g
  ·exact g
  ·unfold World.cell? at h;rw[Array.getElem?_eq_none g] at h;cases h
 exact ⟨(hb.cell (p:=⟨b4,0,none⟩) (lt h1)).trans h1,(hb.cell (p:=⟨ob,k,none⟩) (lt h2)).trans h2⟩

theorem i64_wf (x:Int) (h1:0≤x) (h2:x≤1000000):(Lit.int .i64 x).wf=true:=by
 have e1:IntKind.i64.min=-9223372036854775808:=by decide
 have e2:IntKind.i64.max=9223372036854775807:=by decide
 simp[Lit.wf,e1,e2];omega
theorem row_nil {W:World}{B ob n c k:Nat}{hs:List Given}(h:Rws W B (some ⟨ob,0,none⟩) n c hs) (hk:hs[k]?=some ⟨none,0,0,[]⟩):W.cell? ⟨ob,k,none⟩=some (.slice none 0 0):=by
 have hl:=h.len
 have hkl:=(List.getElem?_eq_some_iff.1 hk).1
 rw[h.out.cellAt k (by omega)]
 simp[hk,hdr]
theorem keepB_its (o:Obj) (h:(its o || book o)=true):keepB o=true:=by
 cases o with
 | cells c t f =>
  have h' : t=110∨t=146:=by simpa [its,book] using h
  rcases h' with rfl|rfl <;> rfl
 | map a b=>simp[its,book] at h
 | _=>rfl

set_option maxHeartbeats 2000000 in
theorem sof_sets {w:World}{A:Option Addr}{n c:Nat}{ls:List (List Rg)}(hn:n≤maxLen) (hl:ls.length=n) (h60:60<n) :
  Calls Tryz.prog 25 #[.slice A n c] w (OfPost w ls):=by
 unfold maxLen at hn
 have HF:Hid (∀ w', Below w.heap.size w w' → OfPost w ls (.returned (.tuple #[.slice none 0 0,.int .i64 9])) w'):=fun w' hb=>of_none (spec_sets (by omega)) hb
 have HB:=ha_ (two_boxes w)
 clear hl
 go_enter Tryz.func25,Tryz.ntmps25
 go_wp2
 refine bodyPost_ret (v:=.tuple #[.slice none 0 0,.int .i64 9]) (by simp[results,Tryz.results25,go_sem]) rfl ?_
 exact HF.out _ ((qd_ w _).trans ((qd_ _ _).mono (by simp)))
set_option maxHeartbeats 2000000 in
theorem sof_long {w:World}{A:Option Addr}{n c:Nat}{gs:List Given}(hg:RdS w w.heap.size A n c gs) (h60:n≤60) (hlong:(listsOf gs).any (fun l=>decide (400<l.length))=true) :
  Calls Tryz.prog 25 #[.slice A n c] w (OfPost w (listsOf gs)):=by
 have HF:Hid (∀ w', Below w.heap.size w w' → OfPost w (listsOf gs) (.returned (.tuple #[.slice none 0 0,.int .i64 9])) w'):=fun w' hb=>by
  obtain ⟨l,hl,h4⟩:=List.any_eq_true.1 hlong
  exact of_none (spec_long hl (by simpa using h4)) hb
 have HB:=ha_ (two_boxes w)
 have HC:=ha_ (containsS_any 50 #[] (fun l=>decide (400<l.length)) (hg.on (two_boxes w)) enters_long (tooLong_pred _))
 rw[hlong] at HC
 clear hg hlong
 go_enter Tryz.func25,Tryz.ntmps25
 go_wp2_with fail
 refine HC.out.mono ?_
 rintro e w2 ⟨rfl,hb2⟩
 obtain ⟨c0,c1,f0,f1⟩:=two_cells hb2
 have HB2:=ha_ (HB.out.trans (hb2.mono (by simp;omega)))
 have hs2:w.heap.size≤w2.heap.size:=HB2.out.size
 clear hb2 HC HB
 go_wp2
 refine bodyPost_ret (v:=.tuple #[.slice none 0 0,.int .i64 9]) (by simp[results,Tryz.results25,go_sem,c0,c1]) rfl ?_
 exact HF.out _ ((HB2.out.setCell (p:=⟨w.heap.size,0,none⟩) (Nat.le_refl _) _).setCell (p:=⟨w.heap.size+1,0,none⟩) (by simp) _)

set_option maxHeartbeats 4000000 in
set_option maxRecDepth 100000 in
theorem sof_any {w:World}{A:Option Addr}{n c:Nat}{gs:List Given}(hg:RdS w w.heap.size A n c gs) :
  Calls Tryz.prog 25 #[.slice A n c] w (OfPost w (listsOf gs)):=by
 have hn:n≤maxLen:=Nat.le_trans hg.cap hg.capm
 have hll:(listsOf gs).length=n:=by simp[listsOf,hg.len]
 by_cases h60:60<n
 ·exact sof_sets hn hll h60
 cases hlong:(listsOf gs).any (fun l=>decide (400<l.length))
 case true=>exact sof_long hg (by omega) hlong
 unfold maxLen at hn
 have HSM:Hid (∀ l∈listsOf gs,l.length≤400):=fun l hl=>by
  have:=List.any_eq_false.1 hlong l hl
  simpa using this
 have HG:=ha_ hg
 have HLL:=ha_ hll
 have HC:=ha_ (containsS_any 50 #[] (fun l=>decide (400<l.length)) (hg.on (two_boxes w)) enters_long (tooLong_pred _))
 rw[hlong] at HC
 have HB:=ha_ (two_boxes w)
 clear hg hll hlong
 have hmm:=@run_makeMap Tryz.prog
 obtain ⟨i0,hi0,hz0,hz1,hz2⟩:=info_parts info_R
 obtain ⟨s0,hs0,hy0,hy1,hy2⟩:=info_parts info_S
 refine (callsIn_wide (n:=2)).1 ?_
 refine callsIn_of_wp_marks Tryz.func25 rfl trivial ?_ rfl
 simp only[Tryz.ntmps25,List.size_toArray,List.length_cons,List.length_nil,Nat.reduceAdd,Nat.reduceSub,Array.replicate_succ,Array.replicate_zero,List.push_toArray,List.append_toArray,List.nil_append,List.cons_append]
 have d60:decide ((60:Int)<(n:Int))=false:=by simp;omega
 gi_wp2_with fail
 refine ⟨trivial,?_⟩
 refine (callsIn_wide.2 HC.out).mono ?_
 rintro e w1 ⟨rfl,hb1⟩
 obtain ⟨bx0,bx1⟩:=two_boxed hb1
 have HX0:=ha_ bx0
 have HX1:=ha_ bx1
 have HB1:=ha_ (HB.out.trans (hb1.mono (by simp;omega)))
 have hs1:w.heap.size+1+1≤w1.heap.size:=by have:=hb1.size;simp at this;omega
 clear hb1 bx0 bx1 HC HB
 gi_wp2_with fail
 refine ⟨trivial,?_⟩
 refine (callsIn_wide.2 (pieces_any _ _ _ _)).mono ?_
 rintro e w2 ⟨rfl,rfl⟩
 gi_wp2_with fail
 have k1:=qd_ w1 (.cells #[.slice none 0 0] 22)
 have k2:=qd_ (w1.alloc (.cells #[.slice none 0 0] 22)) (.map #[] 0)
 have k3:=qd_ ((w1.alloc (.cells #[.slice none 0 0] 22)).alloc (.map #[] 0)) (.cells #[.map (some (w1.heap.size+1))] 103)
 have k4:=qd_ (((w1.alloc (.cells #[.slice none 0 0] 22)).alloc (.map #[] 0)).alloc (.cells #[.map (some (w1.heap.size+1))] 103)) (.cells #[.slice A n c] 22)
 have kb:Below w1.heap.size w1 ((((w1.alloc (.cells #[.slice none 0 0] 22)).alloc (.map #[] 0)).alloc (.cells #[.map (some (w1.heap.size+1))] 103)).alloc (.cells #[.slice A n c] 22)) :=
  ((k1.trans (k2.mono k1.size)).trans (k3.mono (by simp;omega))).trans (k4.mono (by simp;omega))
 have HI0:Hid (OfI w ⟨w.heap.size,w.heap.size+1,w1.heap.size,w1.heap.size+1+1,w1.heap.size+1⟩ [] ((((w1.alloc (.cells #[.slice none 0 0] 22)).alloc (.map #[] 0)).alloc (.cells #[.map (some (w1.heap.size+1))] 103)).alloc (.cells #[.slice A n c] 22))):=by
  refine ⟨none,0,0,[],.map [],?_,Rws.start _ _,rfl,by omega,by simp[M.atomsOf,M.keys],?_,mapOk_start,?_,?_,?_,(by show w.heap.size≠w1.heap.size;omega),?_,?_⟩
  ·exact (((Boxed.new w1 _ _).alloc _).alloc _).alloc _
  ·have:=(World.ownsMap_made (w1.alloc (.cells #[.slice none 0 0] 22)) Tryz.prog 110 (plainElem (H:=Unit) Tryz.prog 3)).kept (World.grownBy_alloc _ (.cells #[.map (some (w1.heap.size+1))] 103) none) (by simp)
   have:=this.kept (World.grownBy_alloc _ (.cells #[.slice A n c] 22) none) (by simp)
   rwa [World.size_alloc] at this
  ·exact (kb.block w.heap.size (by omega)).trans HX0.out
  ·exact (kb.block (w.heap.size+1) (by omega)).trans HX1.out
  ·have:=(Boxed.new ((w1.alloc (.cells #[.slice none 0 0] 22)).alloc (.map #[] 0)) 103 (.map (some (w1.heap.size+1)))).alloc (.cells #[.slice A n c] 22)
   rwa [World.size_alloc,World.size_alloc] at this
  ·exact ⟨Nat.le_refl _,by show w.heap.size≤w.heap.size+1;omega,by show w.heap.size≤w1.heap.size;omega,by show w.heap.size≤w1.heap.size+1+1;omega,by show w.heap.size≤w1.heap.size+1;omega⟩
  ·exact HB1.out.trans (kb.mono (by omega))
 have HR:Hid (RdS ((((w1.alloc (.cells #[.slice none 0 0] 22)).alloc (.map #[] 0)).alloc (.cells #[.map (some (w1.heap.size+1))] 103)).alloc (.cells #[.slice A n c] 22)) ((((w1.alloc (.cells #[.slice none 0 0] 22)).alloc (.map #[] 0)).alloc (.cells #[.map (some (w1.heap.size+1))] 103)).alloc (.cells #[.slice A n c] 22)).heap.size A n c gs):=HG.out.on (HB1.out.trans (kb.mono (by omega)))
 have hcell:((((w1.alloc (.cells #[.slice none 0 0] 22)).alloc (.map #[] 0)).alloc (.cells #[.map (some (w1.heap.size+1))] 103)).alloc (.cells #[.slice A n c] 22)).cell? ⟨w1.heap.size+1+1+1,0,none⟩=some (.slice A n c):=by
  have:=(Boxed.new (((w1.alloc (.cells #[.slice none 0 0] 22)).alloc (.map #[] 0)).alloc (.cells #[.map (some (w1.heap.size+1))] 103)) 22 (.slice A n c)).cell
  rwa [World.size_alloc,World.size_alloc,World.size_alloc] at this
 have hsz:((((w1.alloc (.cells #[.slice none 0 0] 22)).alloc (.map #[] 0)).alloc (.cells #[.map (some (w1.heap.size+1))] 103)).alloc (.cells #[.slice A n c] 22)).heap.size=w1.heap.size+1+1+1+1:=by simp
 clear k1 k2 k3 k4 kb HG HX0 HX1 HB1
 generalize (((w1.alloc (.cells #[.slice none 0 0] 22)).alloc (.map #[] 0)).alloc (.cells #[.map (some (w1.heap.size+1))] 103)).alloc (.cells #[.slice A n c] 22)=WL at *
 have hlow:w.heap.size≤WL.heap.size:=by omega
 have HIT:=ha_ (iter_any HR.out (by omega) HSM.out (Bs:=w1.heap.size+1+1+1) (by omega) hcell)
 clear hcell HR
 generalize hx0:(⟨w.heap.size,w.heap.size+1,w1.heap.size,w1.heap.size+1+1,w1.heap.size+1⟩:Bxs)=x at *
 obtain ⟨r0,r1,b4,b5,bm⟩:=x
 injection hx0 with e0 e1 e2 e3 e4
 have hbsl:w1.heap.size+1+1+1=b5+1:=by omega
 generalize w1.heap.size+1+1+1=bs at *
 rw[e3,e4,e2,e1,e0]
 clear e0 e1 e2 e3 e4 hsz hs1 hbsl
 refine range_law (n:=0) (gf:=71) (lb:=#[.pointer (some ⟨bs,0,none⟩)]) rfl enters_pieces HIT.out book_its book_mine (fun _=>rfl) (OfI w ⟨r0,r1,b4,b5,bm⟩) (OfX w ⟨r0,r1,b4,b5,bm⟩)
  (fun pre A B h hb hk=>h.keeps (hb.mono hlow) hk) (fun pre A B h hb hk=>h.keeps (hb.mono hlow) hk) HI0.out
  (fun p a' W' => ∃ bp bw,W'.heap[bp]?=some (.cells #[.int .i64 p.1.1,.int .i64 p.1.2] 108 (0,0))∧W'.heap[bw]?=some (.cells (owV p.2.1) 110 (0,0))∧a' = { tmps:=#[.slice A n c,undef,.pointer (some ⟨r0,0,none⟩),.pointer (some ⟨r1,0,none⟩),.pointer (some ⟨b4,0,none⟩),.pointer (some ⟨b5,0,none⟩),.pointer (some ⟨bp,0,none⟩),.pointer (some ⟨bw,0,none⟩),undef,undef,.slice A n c,.int .i64 n,.bool false,.bool false,.slice A n c,.bool false,.bool false,.map (some bm),.slice A n c,.func (.func 71) #[] #[.pointer (some ⟨bs,0,none⟩)],.agg #[.int .i64 p.1.1,.int .i64 p.1.2],.agg (owV p.2.1),undef,undef,undef,undef,undef,undef,undef,undef,undef,undef,undef,undef,undef,undef,undef,undef,undef,undef,undef,undef,undef,undef,undef,undef,undef,undef,undef,undef,undef,undef,undef,undef,undef,undef,undef,undef,undef],defers:=[] })
  ?ax ?assign ?body ?done ?stop
 case ax =>
  rintro p a' W' W'' ⟨bp,bw,h1,h2,h3⟩ hk
  exact ⟨bp,bw,hk.2 _ _ h1 rfl,hk.2 _ _ h2 rfl,h3⟩
 case assign =>
  intro l pre p W K hi hK
  obtain ⟨⟨lo,hi'⟩,o,ho⟩:=p
  have hz:(owV o).size=60:=by rw[owV_size,ho]
  have h1:(owV o).all (·.oneCell')=true:=by
   rw[Array.all_eq_true_iff_forall_mem]
   intro v hv
   unfold owV at hv
   simp at hv
   rcases hv with ⟨_,rfl⟩|⟨_,rfl⟩ <;> rfl
  have HZ:=ha_ hz
  have H1:=ha_ h1
  have HK:=ha_ hK
  clear hi hK hz h1
  simp only[encP]
  gi_wp2_with (refine store_arr rfl 110 (.tmp 7) (.tmp 21) rfl (W.heap.size+1) rfl (owV o) _ rfl 110 (by rw[← World.size_alloc W (.cells #[.int .i64 lo,.int .i64 hi'] 108)];exact World.alloc_heap_new _ _) (by rw[HZ.out];exact info_O) (by rw[HZ.out];rfl) H1.out ?_)
  have hsr:=World.setRow_alloc_new (W.alloc (.cells #[.int .i64 lo,.int .i64 hi'] 108)) (Array.replicate 60 (.bool false)) (owV o) 110
  rw[World.size_alloc] at hsr
  refine (congrArg (K _) hsr).mpr ?_
  refine HK.out _ _ ((qd_ W _).trans ((qd_ _ _).mono (by simp))) ⟨W.heap.size,W.heap.size+1,?_,?_,rfl⟩
  ·exact (Below.heap_alloc _ _ _ (by simp)).trans (World.alloc_heap_new W _)
  ·rw[← World.size_alloc W (.cells #[.int .i64 lo,.int .i64 hi'] 108)];exact World.alloc_heap_new _ _
 case body =>
  rintro l pre ⟨⟨lo,hi⟩,o,ho⟩ a' W hI ⟨bp,bw,hbp,hbw,rfl⟩ hlen
  obtain ⟨A1,n1,c1,hs,D,hb4,hrw,hla,hn1,hla4,hom,hmk,hok⟩:=hI
  have x4:=hb4.cell
  have x5:=hok.box5.cell
  have hpl:pre.length<maxLen:=by unfold maxLen;omega
  have HPW:=ha_ hbw
  have HPP:=ha_ hbp
  have HOM:=ha_ hom
  have HMK:=ha_ hmk
  have HRW:=ha_ hrw
  have HLA:=ha_ hla
  have HOK:=ha_ hok
  have HB4:=ha_ hb4
  have HKY:=ha_ (key_ow o ho)
  have HL4:=ha_ hla4
  clear hbw hbp hom hmk hrw hla hok hb4 hla4
  by_cases hkn:o∈M.keys (pre.map bare)
  ·obtain ⟨k,hk⟩:=List.getElem?_of_mem hkn
   have hhas:Maps.has D (klit o)=true:=by rw[HMK.out.has];simpa using hkn
   have HAT:Hid (∀ cc:Int,D.atKey (klit o) (.lit (.int .i64 0))=.lit (.int .i64 cc)→cc=k):=fun cc hc=>by
    rw[HMK.out.at_ k o hk] at hc;injection hc with hc;injection hc with _ hc;exact hc.symm
   have hkn1:k<n1:=by
    have h1:=(List.getElem?_eq_some_iff.1 hk).1
    have h2:=congrArg List.length HLA.out
    have h3:=HRW.out.len
    simp[listsOf,M.atomsOf] at h2
    omega
   obtain ⟨ob,oo,g,hA1,_,hgk,kc,hgrd⟩:=HRW.out.rdS.got hkn1
   have hoo:oo=0:=by
    rcases HRW.out.out.2 with ⟨h1,_⟩|⟨gb,_,_,h1,_⟩
    ·injection h1 with h1;rw[hA1] at h1;cases h1
    ·injection h1 with h1;rw[hA1] at h1;injection h1 with h1;injection h1
   subst hoo
   subst hA1
   have hgl:g.l=M.cls (pre.map bare) o:=by
    have h1:(listsOf hs)[k]?=some g.l:=by simp[listsOf,hgk]
    rw[HLA.out,M.atoms_at hk] at h1
    injection h1 with h1
    exact h1.symm
   have hlen' := hgrd.len
   obtain ⟨gA,gn,gc,gl⟩:=g
   have HGL:=ha_ hgl
   have HLE:Hid (gl.length=gn):=hlen'
   have HGK:=ha_ hgk
   have kc' : W.cell? ⟨ob,k,none⟩=some (.slice gA gn gc):=by simpa using kc
   have HKK:=ha_ hk
   have HMK2:Hid (MapOk D (M.keys ((pre++[((lo,hi),(⟨o,ho⟩:Ow))]).map bare))):=by
    show MapOk D _
    rw[List.map_append,List.map_cons,List.map_nil,M.keys_snoc,if_pos (show (bare ((lo,hi),⟨o,ho⟩)).2∈_ from hkn)]
    exact HMK.out
   have kd:((k:Int) == 200)=false:=by simp;omega
   have z1:(0:Int)≤(k:Int):=by omega
   have z2:(k:Int)<(n1:Int):=by omega
   have hgn:gn≤400:=by
    have h1:=HL4.out _ (List.mem_of_getElem? (M.atoms_at hk))
    have h2:=HLE.out
    rw[← HGL.out] at h1
    have h3:gl.length≤400:=h1
    omega
   have HAN:Hid ((listsOf hs).set k (gl++[(lo,hi)])=M.atomsOf ((pre++[((lo,hi),(⟨o,ho⟩:Ow))]).map bare)):=by
    show (listsOf hs).set k (gl++[(lo,hi)])=_
    rw[List.map_append,List.map_cons,List.map_nil,M.atoms_known (x:=bare ((lo,hi),(⟨o,ho⟩:Ow))) hk,← HLA.out]
    have h1:gl=M.cls (pre.map bare) o:=HGL.out
    rw[h1];rfl
   clear hkn hk hgl hlen' hgk kc hgrd
   obtain ⟨e1,e2,e3,e4⟩:=exit_cells HOK.out
   by_cases h4:gn=400
   ·have g4:((gn:Int) == 400)=true:=by simp;omega
    have HX:=ha_ (exit_post (pre:=pre++[((lo,hi),(⟨o,ho⟩:Ow))]) HOK.out (.inr ⟨o,by
     rw[List.map_append,List.map_cons,List.map_nil,M.cls_snoc,if_pos (show (bare ((lo,hi),(⟨o,ho⟩:Ow))).2=o from rfl),List.length_append,← HGL.out,HLE.out]
     simp;omega⟩))
    gi_wp2_with (first|(refine load_arr rfl 110 (.tmp 7) rfl bw rfl 110 (owV o) (0,0) _ HPW.out Tryz.underlying110 rfl (by rw[owV_size,ho];exact info_O) ?_)|(gi_at_lookup;refine wpListIn_lookup_own_ok_int _ rfl _ _ 103 rfl 110 3 .i64 ow_keyed Tryz.underlying103 Tryz.underlying3 (Tryz.zeroValue3 _) bm pre.length D rfl HOM.out _ _ rfl HKY.out ?_;intro cc hat hwc;obtain rfl:=HAT.out cc hat;clear hat hwc))
    exact ⟨HX.out.2,HX.out.1⟩
   ·have g4:((gn:Int) == 400)=false:=by simp;omega
    have hgl4:gl.length<400:=by have:=HLE.out;omega
    gi_wp2_with (first|(refine load_arr rfl 110 (.tmp 7) rfl bw rfl 110 (owV o) (0,0) _ HPW.out Tryz.underlying110 rfl (by rw[owV_size,ho];exact info_O) ?_)|(gi_at_lookup;refine wpListIn_lookup_own_ok_int _ rfl _ _ 103 rfl 110 3 .i64 ow_keyed Tryz.underlying103 Tryz.underlying3 (Tryz.zeroValue3 _) bm pre.length D rfl HOM.out _ _ rfl HKY.out ?_;intro cc hat hwc;obtain rfl:=HAT.out cc hat;clear hat hwc))
    have hp0:W.cell? ⟨bp,0,none⟩=some (.int .i64 lo):=by rw[cell_of_row _ _ _ _ _ _ HPP.out];rfl
    have hp1:W.cell? ⟨bp,1,none⟩=some (.int .i64 hi):=by rw[cell_of_row _ _ _ _ _ _ HPP.out];rfl
    have SS:AppS b4 ob k (.slice (some ⟨ob,0,none⟩) n1 c1) (.slice gA gn gc) W.drew:=⟨x4,kc'⟩
    refine region_round (AppS b4 ob k (.slice (some ⟨ob,0,none⟩) n1 c1) (.slice gA gn gc)) 10 11 (by kernel_rfl) (by kernel_rfl) rfl ?_
    refine Z_take 0 (v:=.slice (some ⟨ob,0,none⟩) n1 c1) rfl (by kernel_rfl) (by kernel_rfl) (by decide) (by kernel_rfl) (by kernel_rfl) (fun _ _ _ h=>h) SS rfl (fun w' hS=>?_) ?_
    ·obtain ⟨s1,s2⟩:=hS;go_simp
    refine Z_take 1 (v:=.int .i64 k) rfl (by kernel_rfl) (by kernel_rfl) (by decide) (by kernel_rfl) (by kernel_rfl) (fun _ _ _ h=>h) SS rfl (fun w' hS=>?_) ?_
    ·obtain ⟨s1,s2⟩:=hS;go_simp
    refine Z_take 2 (v:=.slice (some ⟨ob,0,none⟩) n1 c1) rfl (by kernel_rfl) (by kernel_rfl) (by decide) (by kernel_rfl) (by kernel_rfl) (fun _ _ _ h=>h) SS rfl (fun w' hS=>?_) ?_
    ·obtain ⟨s1,s2⟩:=hS;go_simp
    refine Z_take 3 (v:=.int .i64 k) rfl (by kernel_rfl) (by kernel_rfl) (by decide) (by kernel_rfl) (by kernel_rfl) (fun _ _ _ h=>h) SS rfl (fun w' hS=>?_) ?_
    ·obtain ⟨s1,s2⟩:=hS;go_simp
    refine Z_take 4 (v:=.pointer (some ⟨ob,k,none⟩)) rfl (by kernel_rfl) (by kernel_rfl) (by decide) (by kernel_rfl) (by kernel_rfl) (fun _ _ _ h=>h) SS rfl (fun w' hS=>?_) ?_
    ·obtain ⟨s1,s2⟩:=hS;go_simp
    refine Z_take 5 (v:=.slice gA gn gc) rfl (by kernel_rfl) (by kernel_rfl) (by decide) (by kernel_rfl) (by kernel_rfl) (fun _ _ _ h=>h) SS rfl (fun w' hS=>?_) ?_
    ·obtain ⟨s1,s2⟩:=hS;go_simp
    refine zk_ 6 rfl (by kernel_rfl) rfl ?_
    go_simp
    refine zk_ 7 rfl (by kernel_rfl) rfl ?_
    go_simp
    have HB2:Below W.heap.size W ((W.alloc (.cells #[.int .i64 lo,.int .i64 hi] 108)).drew):=(qd_ W _).drew
    refine ⟨appS_old x4 kc' HB2,?_⟩
    refine zk_ 8 rfl (by kernel_rfl) rfl ?_
    refine app_wp (.tmp 53) (.tmp 55) 44 rfl w.heap.size 108 i0 (.agg #[.int .i64 0,.int .i64 0]) 2 16 Tryz.underlying44 hi0 hz0 hz1 hz2 rfl (by decide) (.slice gA gn gc) gn (cellsR gl) rfl ((HRW.out.keep HB2).each _ (List.mem_of_getElem? HGK.out)) ⟨W.heap.size,0,none⟩ 1 1 [.int .i64 lo,.int .i64 hi] rfl rfl (news_at W _ rfl lo hi _) (news_one _ _) (by simp only[maxLen];omega) (by omega) (by have:=HOK.out.bel.size;simp;omega) ?_
    intro v' w1 ho1 hg1 hat
    obtain ⟨⟨A', c', rfl⟩,q1,q2,q3,q4,q5⟩:=app_done (x:=⟨r0,r1,b4,b5,bm⟩) (p:=((lo,hi),⟨o,ho⟩)) (pre:=pre) HB2 HB4.out HRW.out HGK.out HAN.out hn1 (by rw[HLA.out];exact HL4.out) hgl4 (HOM.out.mono (by omega)) HMK2.out HOK.out (by rw[zi_];exact ho1) hg1 hat
    have HS1:AppS b4 ob k (.slice (some ⟨ob,0,none⟩) n1 c1) (.slice gA gn gc) w1:=⟨Boxed.cell (q3.2 _ _ HB4.out rfl),q1⟩
    have q1' : w1.cell? ⟨ob,k,none⟩=some (.slice gA gn gc):=q1
    have Q4:=ha_ q4
    have Q5:=ha_ q5
    clear q1 q3 q4 q5 ho1 hg1 hat
    refine ⟨fun _=>HS1,?_⟩
    refine zk_ 9 rfl (by kernel_rfl) rfl ?_
    go_simp
    refine zk_ 10 rfl (by kernel_rfl) rfl ?_
    go_simp
    refine Z_done (by kernel_rfl) ?_
    show Exit.inBlock 1 _ .normal _ _
    gi_wp2
    exact ⟨Q5.out,Q4.out⟩
  ·have hhas:Maps.has D (klit o)=false:=by rw[HMK.out.has];simpa using hkn
   have hkl:(M.keys (pre.map bare)).length=n1:=by
    have h2:=congrArg List.length HLA.out
    have h3:=HRW.out.len
    simp[listsOf,M.atomsOf] at h2
    omega
   have hks:M.keys ((pre++[((lo,hi),(⟨o,ho⟩:Ow))]).map bare)=M.keys (pre.map bare)++[o]:=by
    rw[List.map_append,List.map_cons,List.map_nil,M.keys_snoc,if_neg (show (bare ((lo,hi),⟨o,ho⟩)).2∉_ from hkn)];rfl
   have HMK2:Hid (MapOk (D.put (klit o) (.lit (.int .i64 n1))) (M.keys ((pre++[((lo,hi),(⟨o,ho⟩:Ow))]).map bare))):=by
    show MapOk _ _
    rw[hks,← hkl];exact HMK.out.put hkn
   have HAN:Hid ((listsOf (hs++[⟨none,0,0,[]⟩])).set n1 ([]++[(lo,hi)])=M.atomsOf ((pre++[((lo,hi),(⟨o,ho⟩:Ow))]).map bare)):=by
    show (listsOf (hs++[⟨none,0,0,[]⟩])).set n1 ([]++[(lo,hi)])=_
    rw[List.map_append,List.map_cons,List.map_nil,M.atoms_new (x:=bare ((lo,hi),(⟨o,ho⟩:Ow))) hkn,← HLA.out]
    have h3:(listsOf hs).length=n1:=by have:=HRW.out.len;simp[listsOf];omega
    simp only[listsOf,List.map_append,List.map_cons,List.map_nil,List.nil_append] at h3 ⊢
    rw[← h3];simp[bare]
   have HL43:Hid (∀ a∈listsOf (hs++[⟨none,0,0,[]⟩]),a.length≤400):=fun a ha=>by
    simp only[listsOf,List.map_append,List.map_cons,List.map_nil] at ha
    rcases List.mem_append.1 ha with h|h
    ·exact HL4.out a (by rw[← HLA.out];exact h)
    ·simp at h;subst h;simp
   have HGN:Hid ((hs++[(⟨none,0,0,[]⟩:Given)])[n1]?=some ⟨none,0,0,[]⟩):=by
    show (hs++[(⟨none,0,0,[]⟩:Given)])[n1]?=_
    have:=HRW.out.len
    rw[← this];simp
   have HWF:Hid ((Lit.int .i64 (n1:Int)).wf=true):=by
    show (Lit.int .i64 (n1:Int)).wf=true
    exact i64_wf _ (by omega) (by omega)
   have HKL:=ha_ hkl
   have HKS:=ha_ hks
   have z1:(0:Int)≤(n1:Int):=by omega
   clear hkn hkl hks
   by_cases h200:n1=200
   ·have g2:((n1:Int) == 200)=true:=by simp;omega
    have H200:=ha_ h200
    clear h200
    gi_wp2_with (first|(refine load_arr rfl 110 (.tmp 7) rfl bw rfl 110 (owV o) (0,0) _ HPW.out Tryz.underlying110 rfl (by rw[owV_size,ho];exact info_O) ?_)|(gi_at_lookup;refine wpListIn_lookup_own_ok_int _ rfl _ _ 103 rfl 110 3 .i64 ow_keyed Tryz.underlying103 Tryz.underlying3 (Tryz.zeroValue3 _) bm pre.length D rfl HOM.out _ _ rfl HKY.out ?_;intro cc hat hwc;clear hat hwc)|(gi_at_mapUpdate;refine wpListIn_mapUpdate_own _ rfl _ _ _ 103 rfl 110 3 ow_keyed Tryz.underlying103 _ bm pre.length D rfl HOM.out hpl _ _ _ rfl rfl HKY.out (.lit (.int .i64 n1)) [] (plainElem_int Tryz.underlying3 HWF.out) ?_;intro w1 hom1 hg1;have x4' := (boxed_map HB4.out HOM.out hg1).cell;have HM1:=ha_ hom1;have HG1:=ha_ hg1;have HRW1:=ha_ (rws_map HRW.out HOM.out hg1);have hsz1:w.heap.size≤w1.heap.size:=Nat.le_trans HOK.out.bel.size hg1.size;clear hom1 hg1)|(gi_at_builtin;refine wpListIn_append_own_at _ rfl _ _ 22 rfl w.heap.size 44 s0 (.slice none 0 0) 1 24 Tryz.underlying22 hs0 hy0 hy1 hy2 rfl (by decide) _ _ _ rfl ((HRW1.out.alloc _).out) ⟨w1.heap.size,0,none⟩ 1 1 [.slice none 0 0] rfl rfl (news_nil _ _ rfl _) (by intro u hu;simp at hu;subst hu;rfl) (by simp only[maxLen];omega) (by omega) (by simp;omega) ?_;intro v' w2 ho2 hg2 _ _;obtain ⟨ob,c', rfl,t1,t2,t3,t4,t5,t6⟩:=new_done HOK.out HB4.out HRW.out HOM.out HG1.out HM1.out (qd_ _ _) ho2 hg2;have y1:=t1.cell;have y2:=t1.frozen;have y4:=t2.cell;have HB43:=ha_ t2;have HRW3:=ha_ t3;have HOM3:=ha_ t4;have HOK3:=ha_ t5;have KW3:=ha_ t6;obtain ⟨e1,e2,e3,e4⟩:=exit_cells t5;have HX:=ha_ (exit_post (pre:=pre++[((lo,hi),(⟨o,ho⟩:Ow))]) t5 (.inl (by rw[HKS.out,List.length_append,HKL.out,H200.out];rfl)));have KB:=ha_ (t6.sub keepB_book);clear ho2 hg2 t1 t2 t3 t4 t5 t6))
    exact ⟨KB.out.trans HX.out.2,HX.out.1⟩
   ·have g2:((n1:Int) == 200)=false:=by simp;omega
    have hn2:n1+1≤200:=by omega
    clear h200
    gi_wp2_with (first|(refine load_arr rfl 110 (.tmp 7) rfl bw rfl 110 (owV o) (0,0) _ HPW.out Tryz.underlying110 rfl (by rw[owV_size,ho];exact info_O) ?_)|(gi_at_lookup;refine wpListIn_lookup_own_ok_int _ rfl _ _ 103 rfl 110 3 .i64 ow_keyed Tryz.underlying103 Tryz.underlying3 (Tryz.zeroValue3 _) bm pre.length D rfl HOM.out _ _ rfl HKY.out ?_;intro cc hat hwc;clear hat hwc)|(gi_at_mapUpdate;refine wpListIn_mapUpdate_own _ rfl _ _ _ 103 rfl 110 3 ow_keyed Tryz.underlying103 _ bm pre.length D rfl HOM.out hpl _ _ _ rfl rfl HKY.out (.lit (.int .i64 n1)) [] (plainElem_int Tryz.underlying3 HWF.out) ?_;intro w1 hom1 hg1;have x4' := (boxed_map HB4.out HOM.out hg1).cell;have HM1:=ha_ hom1;have HG1:=ha_ hg1;have HRW1:=ha_ (rws_map HRW.out HOM.out hg1);have hsz1:w.heap.size≤w1.heap.size:=Nat.le_trans HOK.out.bel.size hg1.size;clear hom1 hg1)|(gi_at_builtin;refine wpListIn_append_own_at _ rfl _ _ 22 rfl w.heap.size 44 s0 (.slice none 0 0) 1 24 Tryz.underlying22 hs0 hy0 hy1 hy2 rfl (by decide) _ _ _ rfl ((HRW1.out.alloc _).out) ⟨w1.heap.size,0,none⟩ 1 1 [.slice none 0 0] rfl rfl (news_nil _ _ rfl _) (by intro u hu;simp at hu;subst hu;rfl) (by simp only[maxLen];omega) (by omega) (by simp;omega) ?_;intro v' w2 ho2 hg2 _ _;obtain ⟨ob,c', rfl,t1,t2,t3,t4,t5,t6⟩:=new_done HOK.out HB4.out HRW.out HOM.out HG1.out HM1.out (qd_ _ _) ho2 hg2;have y1:=t1.cell;have y2:=t1.frozen;have y4:=t2.cell;have HB43:=ha_ t2;have HRW3:=ha_ t3;have HOM3:=ha_ t4;have HOK3:=ha_ t5;have KW3:=ha_ t6;have kn:=row_nil t3 HGN.out;have HPP3:=ha_ (t6.2 _ _ HPP.out rfl);have KW:=ha_ (t6.sub keepB_its);clear ho2 hg2 t1 t2 t3 t4 t5 t6))
    generalize w2.setCell ⟨b4,0,none⟩ (.slice (some ⟨ob,0,none⟩) (n1+1) c')=W3 at *
    have z3:¬ ((n1:Int)+1≤(n1:Int)):=by omega
    have hp0:W3.cell? ⟨bp,0,none⟩=some (.int .i64 lo):=by rw[cell_of_row _ _ _ _ _ _ HPP3.out];rfl
    have hp1:W3.cell? ⟨bp,1,none⟩=some (.int .i64 hi):=by rw[cell_of_row _ _ _ _ _ _ HPP3.out];rfl
    have SS:AppS b4 ob n1 (.slice (some ⟨ob,0,none⟩) (n1+1) c') (.slice none 0 0) W3.drew:=⟨y4,kn⟩
    refine region_round (AppS b4 ob n1 (.slice (some ⟨ob,0,none⟩) (n1+1) c') (.slice none 0 0)) 10 11 (by kernel_rfl) (by kernel_rfl) rfl ?_
    refine Z_take 0 (v:=.slice (some ⟨ob,0,none⟩) (n1+1) c') rfl (by kernel_rfl) (by kernel_rfl) (by decide) (by kernel_rfl) (by kernel_rfl) (fun _ _ _ h=>h) SS rfl (fun w' hS=>?_) ?_
    ·obtain ⟨s1,s2⟩:=hS;go_simp
    refine Z_take 1 (v:=.int .i64 n1) rfl (by kernel_rfl) (by kernel_rfl) (by decide) (by kernel_rfl) (by kernel_rfl) (fun _ _ _ h=>h) SS rfl (fun w' hS=>?_) ?_
    ·obtain ⟨s1,s2⟩:=hS;go_simp
    refine Z_take 2 (v:=.slice (some ⟨ob,0,none⟩) (n1+1) c') rfl (by kernel_rfl) (by kernel_rfl) (by decide) (by kernel_rfl) (by kernel_rfl) (fun _ _ _ h=>h) SS rfl (fun w' hS=>?_) ?_
    ·obtain ⟨s1,s2⟩:=hS;go_simp
    refine Z_take 3 (v:=.int .i64 n1) rfl (by kernel_rfl) (by kernel_rfl) (by decide) (by kernel_rfl) (by kernel_rfl) (fun _ _ _ h=>h) SS rfl (fun w' hS=>?_) ?_
    ·obtain ⟨s1,s2⟩:=hS;go_simp
    refine Z_take 4 (v:=.pointer (some ⟨ob,n1,none⟩)) rfl (by kernel_rfl) (by kernel_rfl) (by decide) (by kernel_rfl) (by kernel_rfl) (fun _ _ _ h=>h) SS rfl (fun w' hS=>?_) ?_
    ·obtain ⟨s1,s2⟩:=hS;go_simp
    refine Z_take 5 (v:=.slice none 0 0) rfl (by kernel_rfl) (by kernel_rfl) (by decide) (by kernel_rfl) (by kernel_rfl) (fun _ _ _ h=>h) SS rfl (fun w' hS=>?_) ?_
    ·obtain ⟨s1,s2⟩:=hS;go_simp
    refine zk_ 6 rfl (by kernel_rfl) rfl ?_
    go_simp
    refine zk_ 7 rfl (by kernel_rfl) rfl ?_
    go_simp
    have HB2:Below W3.heap.size W3 ((W3.alloc (.cells #[.int .i64 lo,.int .i64 hi] 108)).drew):=(qd_ W3 _).drew
    refine ⟨appS_old y4 kn HB2,?_⟩
    refine zk_ 8 rfl (by kernel_rfl) rfl ?_
    refine app_wp (.tmp 53) (.tmp 55) 44 rfl w.heap.size 108 i0 (.agg #[.int .i64 0,.int .i64 0]) 2 16 Tryz.underlying44 hi0 hz0 hz1 hz2 rfl (by decide) (.slice none 0 0) 0 (cellsR []) rfl (World.ownsRow_nil _ _ _ _) ⟨W3.heap.size,0,none⟩ 1 1 [.int .i64 lo,.int .i64 hi] rfl rfl (news_at W3 _ rfl lo hi _) (news_one _ _) (by simp only[maxLen];omega) (by omega) (by have:=HOK3.out.bel.size;simp;omega) ?_
    intro v' w1 ho1 hg1 hat
    obtain ⟨⟨A', c'', rfl⟩,q1,q2,q3,q4,q5⟩:=app_done (x:=⟨r0,r1,b4,b5,bm⟩) (p:=((lo,hi),⟨o,ho⟩)) (pre:=pre) HB2 HB43.out HRW3.out HGN.out HAN.out (by omega) HL43.out (by show ([]:List Rg).length<400;simp) HOM3.out HMK2.out HOK3.out ho1 hg1 hat
    have HS1:AppS b4 ob n1 (.slice (some ⟨ob,0,none⟩) (n1+1) c') (.slice none 0 0) w1:=⟨Boxed.cell (q3.2 _ _ HB43.out rfl),q1⟩
    have q1' : w1.cell? ⟨ob,n1,none⟩=some (.slice none 0 0):=q1
    have Q4:=ha_ q4
    have Q5:=ha_ q5
    clear q1 q3 q4 q5 ho1 hg1 hat
    refine ⟨fun _=>HS1,?_⟩
    refine Z_take 9 (v:=.pointer (some ⟨ob,n1,none⟩)) rfl (by kernel_rfl) (by kernel_rfl) (by decide) (by kernel_rfl) (by kernel_rfl) (fun _ _ _ h=>h) HS1 rfl (fun w' hS=>?_) ?_
    ·obtain ⟨s1,s2⟩:=hS;go_simp
    refine zk_ 10 rfl (by kernel_rfl) rfl ?_
    go_simp
    refine Z_done (by kernel_rfl) ?_
    show Exit.inBlock 1 _ .normal _ _
    gi_wp2
    exact ⟨KW.out.trans Q5.out,Q4.out⟩
 case done =>
  rintro D xs W hD hS ⟨A1,n1,c1,hs,D', hb4,hrw,hla,hn1,hla4,hom,hmk,hok⟩ hK
  have HF:Hid (∀ w', RdS w' w'.heap.size A1 n1 c1 hs→Below w.heap.size w w' → OfPost w (listsOf gs) (.returned (.tuple #[.slice A1 n1 c1,.int .i64 0])) w'):=fun w' hr hb=>by
   have hl:(listsOf gs).length≤60:=by rw[HLL.out];omega
   have hat:=M.run_atoms hl hS
   have hlen:(M.atomsOf (xs.map bare)).length≤200:=by rw[← hla];simp[listsOf,hrw.len];exact hn1
   exact ⟨some (M.atomsOf (xs.map bare)),spec_some hl HSM.out hat hlen hla4,(fun h=>by cases h),(fun R h=>by injection h with h;subst h;exact ⟨A1,n1,c1,hs,rfl,hr,hla⟩),hb⟩
  have x0:=hok.box0.cell
  have x1:=hok.box1.cell
  have x4:=hb4.cell
  have f0:=hok.box0.frozen
  have hne:r1≠r0:=(boxed_ne hok.box0 hok.box1 (by decide)).symm
  have B1:=Boxed.other hok.box1 hne (.slice A1 n1 c1)
  have x1' := B1.cell
  have f1' := B1.frozen
  have B0' := Boxed.set (.slice A1 n1 c1) hok.box0
  have B0'' := Boxed.other B0' hne.symm (.int .i64 0)
  have B1'' := Boxed.set (.int .i64 0) B1
  have hd0:=boxed_deferred hok.box0 hK
  have hd1:=boxed_deferred hok.box1 hK
  have hK2:((W.setCell ⟨r0,0,none⟩ (.slice A1 n1 c1)).setCell ⟨r1,0,none⟩ (.int .i64 0)).heap[D]?=some (.deferred (some [])):=by
   rw[heap_setCell_other _ _ _ _ hd1,heap_setCell_other _ _ _ _ hd0];exact hK
  have HP:Hid (Rws ((W.setCell ⟨r0,0,none⟩ (.slice A1 n1 c1)).setCell ⟨r1,0,none⟩ (.int .i64 0)) w.heap.size A1 n1 c1 hs):=by
   refine ⟨?_,fun g hg=>?_,hrw.apart⟩
   ·exact ownsRow_setCell_other (ownsRow_setCell_other hrw.out (fun e=>Boxed.not_row hok.box0 (by decide) hrw.out e.symm) _) (fun e=>Boxed.not_row B1 (by decide) (ownsRow_setCell_other hrw.out (fun e=>Boxed.not_row hok.box0 (by decide) hrw.out e.symm) _) e.symm) _
   ·have hr:=hrw.each g hg
    exact ownsRow_setCell_other (ownsRow_setCell_other hr (fun e=>Boxed.not_row hok.box0 (by decide) hr e.symm) _) (fun e=>Boxed.not_row B1 (by decide) (ownsRow_setCell_other hr (fun e=>Boxed.not_row hok.box0 (by decide) hr e.symm) _) e.symm) _
  have HBL:Hid (Below w.heap.size w ((W.setCell ⟨r0,0,none⟩ (.slice A1 n1 c1)).setCell ⟨r1,0,none⟩ (.int .i64 0))):=(hok.bel.setCell (p:=⟨r0,0,none⟩) hok.low.1 _).setCell (p:=⟨r1,0,none⟩) hok.low.2.1 _
  have X0:=ha_ B0''
  have X1:=ha_ B1''
  have HK2:=ha_ hK2
  have hDw:w.heap.size≤D:=by omega
  clear hb4 hrw hla hla4 hom hmk hok hS hK B0' B0'' B1'' B1 hK2 hd0 hd1
  gi_wp2_with fail
  generalize (W.setCell ⟨r0,0,none⟩ (.slice A1 n1 c1)).setCell ⟨r1,0,none⟩ (.int .i64 0)=W2 at *
  refine ⟨by simp,.inl ⟨_,_,rfl,run_takeDeferred HK2.out,?_⟩⟩
  have y0:=(Keeps.put (p:=fun o=>!book o) HK2.out rfl (.deferred none)).2 _ _ X0.out rfl
  have y1:=(Keeps.put (p:=fun o=>!book o) HK2.out rfl (.deferred none)).2 _ _ X1.out rfl
  have z0:=Boxed.cell y0
  have z1:=Boxed.cell y1
  have HE:=ha_ (HF.out _ (HP.out.keeps (Keeps.put HK2.out rfl (.deferred none))).rdS (HBL.out.trans (below_put hDw (Array.getElem?_eq_some_iff.1 HK2.out).1 (.deferred none))))
  clear y0 y1 HF HP HBL X0 X1
  generalize W2.putObj D (.deferred none)=W3 at *
  exact ⟨.tuple #[.slice A1 n1 c1,.int .i64 0],by simp[results,Tryz.results25,go_sem,z0,z1],HE.out⟩
 case stop =>
  rintro D pre W hD ⟨ys,hrun,hpre⟩ ⟨hb0,hb1,hbel,hwhy⟩ hK
  have hl:(listsOf gs).length≤60:=by rw[HLL.out];omega
  have HF:Hid (M.OfSpec (listsOf gs) none):=by
   rcases hwhy with h|⟨o,ho⟩
   ·exact spec_many (M.run_many hl hrun hpre h)
   ·obtain ⟨a,ha,h4⟩:=M.run_wide (ls:=listsOf gs) hpre ho
    exact spec_wide (M.run_atoms hl hrun) ha h4
  have HB0:=ha_ hb0
  have HB1:=ha_ hb1
  have HBL:=ha_ hbel
  have HK2:=ha_ hK
  have hDw:w.heap.size≤D:=by omega
  clear hb0 hb1 hbel hK hwhy hrun hpre
  gi_wp2_with fail
  refine ⟨by simp,.inl ⟨_,_,rfl,run_takeDeferred HK2.out,?_⟩⟩
  have y0:=(Keeps.put (p:=fun o=>!book o) HK2.out rfl (.deferred none)).2 _ _ HB0.out rfl
  have y1:=(Keeps.put (p:=fun o=>!book o) HK2.out rfl (.deferred none)).2 _ _ HB1.out rfl
  have z0:=Boxed.cell y0
  have z1:=Boxed.cell y1
  have HE:=ha_ (of_none HF.out (HBL.out.trans (below_put hDw (Array.getElem?_eq_some_iff.1 HK2.out).1 (.deferred none))))
  clear y0 y1 HF HBL HB0 HB1
  generalize W.putObj D (.deferred none)=W3 at *
  exact ⟨.tuple #[.slice none 0 0,.int .i64 9],by simp[results,Tryz.results25,go_sem,z0,z1],HE.out⟩
end Go.Proofs.YtbbmjdddemahfaaGreat
