/- Part of the proof. -/
import Derived.OrdersHeld
import Derived.OrdersIn
import Derived.StillTail
import Derived.OwnWalkIn
import Derived.RangeFuncNested
import Derived.RangeFuncBox
import Derived.RangeFuncLeaves
import Derived.Below
import Derived.Deep.Draws
import Derived.Maps.AppendAt
namespace Go.Proofs.YtbbmjdddemahfaaGreat
open Go.RowKit

section
variable {P:Program}{ops:Array Oper}{Q:Exit→Act→World→Prop}{md:Region.Mode}{S:World→Prop}{z:Nat}
def AnyZ (P:Program) (md:Region.Mode) (ops:Array Oper) (Q:Exit→Act→World→Prop) (S:World→Prop) (z:Nat):Nat→Array Bool→Act→World→Prop
 | 0,listed,a,w=>Region.ready md ops listed=[]∧Q .normal a w
 | m+1,listed,a,w=>(Region.ready md ops listed=[]→Q .normal a w) ∧
  ∀ i∈Region.ready md ops listed,wpOp P ops Q i (fun a' w' => (i≠z→S w')∧AnyZ P md ops Q S z m (listed.setIfInBounds i true) a' w') a w
theorem any_of_Z:∀ (m:Nat) (listed:Array Bool) (a:Act) (w:World),AnyZ P md ops Q S z m listed a w→wpAny P md ops Q m listed a w
 | 0,_,_,_,h=>h
 | m+1,_,_,_,h=>⟨h.1,fun i hi=>wpOp_mono (fun a' w' hk=>any_of_Z m _ a' w' hk.2) (h.2 i hi)⟩
def lastB (md:Region.Mode) (ops:Array Oper) (z:Nat):Bool:=(List.range ops.size).all fun i=>i == z || Region.waitsFor md ops z i
theorem last_spec (h:lastB md ops z=true){i:Nat}(hi:i<ops.size) (hz:i≠z):Region.waitsFor md ops z i=true:=by
 have:=List.all_eq_true.1 h i (List.mem_range.2 hi)
 simpa [hz] using this
theorem Z_first {i:Nat}{oi:Oper}{v:Value}(hi:ops[i]?=some oi) (hsel:Region.noSelect ops=true) (hwait:Region.waitsFor md ops z i=true)
  (hQ:∀ c a w,Q (.panic c) (a.put oi.dst v) w→Q (.panic c) a w) :
  ∀ (m:Nat) (listed:Array Bool) (a:Act) (w:World),
   (∀ j oj,ops[j]?=some oj→j≠i→listed.getD j true=false→(∀ e∈oj.after,Region.binds md e=true→e.on≠i)→oi.apart ops oj=true) →
   i∈Region.ready md ops listed→YieldsIf P ops S oi v a→S w →
   AnyZ P md ops Q S z m (listed.setIfInBounds i true) (a.put oi.dst v) w→AnyZ P md ops Q S z (m+1) listed a w:=by
 have hs:=Region.noSelect_spec hsel
 intro m
 induction m with
 | zero =>
  intro listed a w _ hr hy hS H
  constructor
  ·intro h;rw[h] at hr;cases hr
  ·intro j hj
   by_cases hji:j=i
   ·rw[hji];exact hy.wpOp hi hS ⟨fun _=>hS,H⟩
   ·have h1:=ready_mono hj hji
    rw[H.1] at h1
    cases h1
 | succ m ih =>
  intro listed a w hfree hr hy hS H
  constructor
  ·intro h;rw[h] at hr;cases hr
  ·intro j hj
   by_cases hji:j=i
   ·rw[hji];exact hy.wpOp hi hS ⟨fun _=>hS,H⟩
   ·have hK:=H.2 j (ready_mono hj hji)
    obtain ⟨hjun,oj,hoj,hall⟩:=mem_ready.1 hj
    have hnot:∀ e∈oj.after,Region.binds md e=true→e.on≠i:=by
     intro e he hb heq
     have g1:=hall e he hb
     have g0:=(mem_ready.1 hr).1
     rw[heq] at g1
     rcases Nat.lt_or_ge i listed.size with h' | h'
     ·simp[h'] at g0 g1;rw[g0] at g1;cases g1
     ·simp[Array.getElem?_eq_none h'] at g1
    have hjz:j≠z:=by
     intro e
     subst e
     obtain ⟨oz,hoz,e,he,hb,heq⟩:=Region.waitsFor_spec hwait
     rw[hoj] at hoz
     injection hoz with hoz
     subst hoz
     exact hnot e he hb heq
    have h2:=wpOp_putIf hoj (hfree j oj hoj hji hjun hnot) (fun cs b=>hs i oi cs b hi) (fun cs b=>hs j oj cs b hoj) hQ hy hK
    have hfree' : ∀ k ok,ops[k]?=some ok→k≠i→(listed.setIfInBounds j true).getD k true=false→(∀ e∈ok.after,Region.binds md e=true→e.on≠i)→oi.apart ops ok=true:=by
     intro k ok hk hki hun hno
     refine hfree k ok hk hki ?_ hno
     by_cases hjk:j=k
     ·rw[← hjk];exact hjun
     ·rwa [getD_set_ne true hjk] at hun
    refine wpOp_mono (fun a' w' h3=>?_) h2
    have hS' := h3.2.1 hjz
    refine ⟨fun _=>hS', ih _ a' w' hfree' (ready_mono hr (Ne.symm hji)) h3.1 hS' ?_⟩
    rw[Array.setIfInBounds_comm _ _ hji]
    exact h3.2.2
theorem Z_take (i:Nat){oi:Oper}{v:Value}{m:Nat}{listed:Array Bool}{a:Act}{w:World}(hi:ops[i]?=some oi) (hs:Region.noSelect ops=true) (hlast:lastB md ops z=true) (hiz:i≠z)
  (hf:Region.free md ops listed i=true) (hr:(Region.ready md ops listed).contains i=true) (hQ:∀ c a w,Q (.panic c) (a.put oi.dst v) w→Q (.panic c) a w) (hS:S w)
  (hg:oi.guard=none) (hy:∀ w,S w→(execOp a.eval oi).run P w=.ok (.value v) w)
  (h:AnyZ P md ops Q S z m (listed.setIfInBounds i true) (a.put oi.dst v) w):AnyZ P md ops Q S z (m+1) listed a w :=
 Z_first hi hs (last_spec hlast (Array.getElem?_eq_some_iff.1 hi).1 hiz) hQ m listed a w (Region.free_spec hi hf) (by simpa using hr) (.inl ⟨by simp[Region.wanted,hg],hy⟩) hS h
theorem qc_ (i:Nat){oi:Oper}{v:Value}{m:Nat}{listed:Array Bool}{a:Act}{w:World}(hi:ops[i]?=some oi) (hs:Region.noSelect ops=true) (hwait:Region.waitsFor md ops z i=true)
  (hf:Region.free md ops listed i=true) (hr:(Region.ready md ops listed).contains i=true) (hQ:∀ c a w,Q (.panic c) (a.put oi.dst v) w→Q (.panic c) a w) (hS:S w)
  (hg:oi.guard=none) (hy:∀ w,S w→(execOp a.eval oi).run P w=.ok (.value v) w)
  (h:AnyZ P md ops Q S z m (listed.setIfInBounds i true) (a.put oi.dst v) w):AnyZ P md ops Q S z (m+1) listed a w :=
 Z_first hi hs hwait hQ m listed a w (Region.free_spec hi hf) (by simpa using hr) (.inl ⟨by simp[Region.wanted,hg],hy⟩) hS h
theorem zk_ (i:Nat){oi:Oper}{m:Nat}{listed:Array Bool}{a:Act}{w:World}(hi:ops[i]?=some oi) (hr:Region.ready md ops listed=[i]) (hg:oi.guard=none)
  (h:oi.wp P a w (fun a' w' => (i≠z→S w')∧AnyZ P md ops Q S z m (listed.setIfInBounds i true) a' w') Q):AnyZ P md ops Q S z (m+1) listed a w:=by
 refine ⟨fun h0=>(by rw[hr] at h0;cases h0),fun j hj=>?_⟩
 rw[hr] at hj
 have e:j=i:=by simpa using hj
 subst e
 unfold wpOp
 simp only[hi]
 rw[if_pos (by simp[Region.wanted,hg])]
 exact .inl h
theorem app_wp {o:Oper}{a:Act}{w:World}{K:Act→World→Prop}(s x:Operand) (t:TypeId) (ho:o.op=.call { callee:=.builtin .append,args:=#[s,x],argTypes:=#[t,t] })
  (base:Nat) (e:TypeId) (i:TypeInfo) (zv:Value) (size bytes:Nat) (ht:P.underlying t=some (.slice e)) (hi:P.info? e=some i) (hz:i.zero=some zv)
  (hsize:i.size=size) (hby:i.bytes=bytes) (hzs:zv.cells.size=size) (hsz:0<size)
  (v:Value) (n:Nat) (xs:List Value) (hs:a.eval s=v) (hown:w.ownsRow base e size v n xs)
  (ad:Addr) (m c:Nat) (news:List Value) (hx:a.eval x=.slice (some ad) m c) (hl:news.length=m*size) (hnews:∀ j u,news[j]?=some u→w.cell? (ad.add j)=some u) (h1:∀ u∈news,u.oneCell' = true)
  (h63:n+m≤maxLen) (hbytes:(n+m)*bytes≤140737488355328) (hbase:base≤w.heap.size)
  (h:∀ v' w', w'.ownsRow base e size v' (n+m) (xs++news)→w.grownBy w' v.ownBlock→(v'.ownBlock=v.ownBlock∨v'.ownBlock=some w.heap.size)→K (a.put o.dst v') w'):o.wp P a w K Q:=by
 obtain ⟨v', w', hrun,h2,h3,_,h5⟩:=run_append_own_at (P:=P) w base t o.type e i zv size bytes ht hi hz hsize hby hzs hsz v n xs hown ad m c news hl hnews h1 h63 hbytes hbase
 unfold Oper.wp execOp
 simp only[ho,resolve,invoke,builtin,Sem.run_bind,Sem.run_pure,Result.andThen_ok,List.map_toArray,List.map_cons,List.map_nil,hs,hx,hrun]
 exact h v' w' h2 h3 h5
theorem Z_done {listed:Array Bool}{a:Act}{w:World}(hr:Region.ready md ops listed=[]) (h:Q .normal a w):AnyZ P md ops Q S z 0 listed a w:=⟨hr,h⟩
theorem oper_round {n l:Nat}{o:Oper}{a:Act}{w:World}{K:Act→World→Prop}(hd:∀ c,o.op≠.defer c) (h:o.wp P a w K Q):o.wpIn (Fence.wide.inRound l) n P a w K Q:=by
 refine ⟨fun f _=>trivial,?_⟩
 rw[Oper.semAt_plain _ _ _ hd]
 unfold Oper.wp at h
 generalize (execOp a.eval o).run P w=r at h
 cases r with
 | ok x w' =>
  cases x with
  | value v=>exact h
  | skip=>exact h
  | defer d=>exact h
  | enter f args=>exact ⟨fun hc=>(by cases hc),CallsIn.inRound l (callsIn_wide.2 h)⟩
  | row row args =>
   refine ⟨fun hc=>(by cases hc),fun c cs _=>?_⟩
   obtain ⟨v,w', r1,r2⟩:=h c cs
   exact ⟨v,w', r1,stepsIn_wide.2 r2⟩
  | _=>exact h.elim
 | halt x w' =>
  cases x with
  | panic v=>exact h
  | _=>exact h.elim
theorem anyIn_of_any {n l:Nat}(hno:¬ LetsOut Q) (hd:∀ (j:Nat) (o:Oper) (c:Call),ops[j]?=some o→o.op≠.defer c) :
  ∀ (m:Nat) (listed:Array Bool) (a:Act) (w:World),wpAny P md ops Q m listed a w→wpAnyIn (Fence.wide.inRound l) n P md ops Q m listed a w
 | 0,_,_,_,h=>h
 | m+1,listed,a,w,h=>by
  refine ⟨h.1,fun i hi=>?_⟩
  have h1:=h.2 i hi
  unfold wpOp at h1
  unfold wpOpIn
  cases ho:ops[i]? with
  | none=>simp only[ho] at h1;exact anyIn_of_any hno hd m _ _ _ h1
  | some o =>
   simp only[ho] at h1 ⊢
   split
   ·rename_i hw
    rw[if_pos hw] at h1
    rcases h1 with h1|h1
    ·exact oper_round (fun c=>hd i o c ho) (Oper.wp_mono (fun a' w' hk=>anyIn_of_any hno hd m _ a' w' hk) h1)
    ·exact absurd h1.2 hno
   ·rename_i hw
    rw[if_neg hw] at h1
    exact ⟨fun f _=>trivial,anyIn_of_any hno hd m _ _ _ h1⟩
def noDefer (ops:Array Oper):Bool:=ops.all fun o=>match o.op with | .defer _=>false|_=>true
theorem noDefer_spec (h:noDefer ops=true) (j:Nat) (o:Oper) (c:Call) (hj:ops[j]?=some o):o.op≠.defer c:=by
 intro e
 have:=Array.all_eq_true_iff_forall_mem.1 h o (Array.mem_of_getElem? hj)
 rw[e] at this
 cases this
def OnlyN (Q:Exit→Act→World→Prop):Exit→Act→World→Prop
 | .normal,a,w=>Q .normal a w
 | _,_,_=>False
theorem onlyN_mono (e:Exit) (a:Act) (w:World) (h:OnlyN Q e a w):Q e a w:=by
 cases e with
 | normal=>exact h
 | _=>exact h.elim
theorem region_round {n l:Nat}{id:Nat}{a:Act}{w:World}(S:World→Prop) (z m:Nat) (hm:P.follows .mixedOrders=true) (hd:noDefer ops=true) (hsz:ops.size=m)
  (h:AnyZ P .any ops (OnlyN Q) S z m (Array.replicate m false) a w.drew):(Code.region id ops true).wpIn (Fence.wide.inRound l) n P Q a w:=by
 subst hsz
 exact wpIn_mono (wpIn_region_any hm (anyIn_of_any (fun ⟨_,_,h⟩=>h) (noDefer_spec hd) _ _ _ _ (any_of_Z _ _ _ _ h))) onlyN_mono
theorem qw_ {id:Nat}{a:Act}{w:World}(S:World→Prop) (z m:Nat) (hm:P.follows .mixedOrders=true) (hsz:ops.size=m)
  (h:AnyZ P .any ops (OnlyN Q) S z m (Array.replicate m false) a w.drew):(Code.region id ops true).wp P Q a w:=by
 subst hsz
 exact Go.wp_mono (wp_region_any hm (any_of_Z _ _ _ _ h)) onlyN_mono
end

def Keeps (p:Obj→Bool) (A B:World):Prop:=A.heap.size≤B.heap.size∧∀ (k:Nat) (o:Obj),A.heap[k]?=some o→p o=true→B.heap[k]?=some o
theorem Keeps.trans {p:Obj→Bool}{A B C:World}(h:Keeps p A B) (k:Keeps p B C):Keeps p A C:=⟨Nat.le_trans h.1 k.1,fun i o hi hp=>k.2 i o (h.2 i o hi hp) hp⟩
theorem Keeps.sub {p q:Obj→Bool}{A B:World}(h:Keeps p A B) (hq:∀ o,q o=true→p o=true):Keeps q A B:=⟨h.1,fun i o hi hp=>h.2 i o hi (hq o hp)⟩
theorem Keeps.below {A B:World}(h:Below A.heap.size A B) (p:Obj→Bool):Keeps p A B :=
 ⟨h.size,fun i _ hi _=>(h.block i (Array.getElem?_eq_some_iff.1 hi).1).trans hi⟩
theorem Keeps.grown {p:Obj→Bool}{A B:World}{row:Option Nat}(hg:A.grownBy B row) (hr:∀ r o,row=some r→A.heap[r]?=some o→p o=false):Keeps p A B:=by
 refine ⟨hg.size,fun i o hi hp=>?_⟩
 refine (hg.block i (Array.getElem?_eq_some_iff.1 hi).1 ?_).trans hi
 intro e
 have:=hr i o e.symm hi
 rw[hp] at this;cases this
theorem Keeps.set {p:Obj→Bool}{A:World}{b:Nat}{o:Obj}(hb:A.heap[b]?=some o) (hp:p o=false) (i:Nat) (v:Value):Keeps p A (A.setCell ⟨b,i,none⟩ v):=by
 refine ⟨by simp,fun k o' hk hp' => ?_⟩
 have hne:k≠b:=fun e=>by subst e;rw[hb] at hk;injection hk with hk;subst hk;rw[hp] at hp'; cases hp'
 rw[heap_setCell_other _ _ _ _ hne];exact hk
theorem Keeps.put {p:Obj→Bool}{A:World}{l:Nat}{o:Obj}(hl:A.heap[l]?=some o) (hp:p o=false) (o' : Obj):Keeps p A (A.putObj l o'):=by
 refine ⟨by simp,fun k o2 hk hp' => ?_⟩
 have hne:k≠l:=fun e=>by subst e;rw[hl] at hk;injection hk with hk;subst hk;rw[hp] at hp'; cases hp'
 rw[World.putObj_heap_other hne];exact hk
theorem Keeps.alloc (p:Obj→Bool) (A:World) (o:Obj):Keeps p A (A.alloc o):=Keeps.below ((Below.refl _ _).alloc (Nat.le_refl _) o) p
theorem Keeps.drewN (p:Obj→Bool) (A:World) (q:Nat):Keeps p A (A.drewN q):=⟨Nat.le_refl _,fun _ _ h _=>h⟩
theorem below_put {B:Nat}{A:World}{l:Nat}(hl:B≤l) (hlt:l<A.heap.size) (o' : Obj):Below B A (A.putObj l o'):=by
 refine ⟨rfl,rfl,rfl,by simp,fun k hk=>?_⟩
 rw[World.putObj_heap_other (by omega)]
def book:Obj→Bool
 | .loop _=>true
 | .deferred _=>true
 | _=>false

section
variable {α:Type}
def SeqM (P:Program) (gf:Nat) (lb:Array Value) (encs:α→Array Value) (its mine:Obj→Bool) (S Sp:List α→Prop) (N:Nat) (w:World):Prop :=
 ∀ (n l:Nat) (J Jx:List α→World→Prop) (W:World),Below w.heap.size w W →
  (∀ pre A B,J pre A→Below w.heap.size A B→Keeps (fun o=>mine o || book o) A B→J pre B) →
  (∀ pre A B,Jx pre A→Below w.heap.size A B→Keeps (fun o=>mine o || book o) A B→Jx pre B) →
  (∀ pre x A,J pre A→pre.length<N→YieldAt Fence.wide n P l (encs x) A fun e B =>
   (e=.returned (.bool true)∧J (pre++[x]) B∧Keeps its A B)∨(e=.returned (.bool false)∧Jx (pre++[x]) B)) →
  J [] W→CallsIn Fence.wide (n+1) P gf (#[.func (.yield l) #[] #[]]++lb) W fun e B=>(∃ v,e=.returned v)∧((∃ xs,S xs∧J xs B)∨(∃ pre,Sp pre∧Jx pre B))
def PostR (its:Obj→Bool) (I Ix:List α→World→Prop) (xs:List α) (W:World):Exit→Act→World→Prop
 | .normal,_,W' => Keeps (fun o=>its o || book o) W W' ∧ I xs W'
 | .ret,_,W' => Keeps book W W' ∧ Ix xs W'
 | _,_,_=>False
variable {P:Program}{n:Nat}{g:Operand}{ps:Array Tmp}{assign body:Code}{Q:Exit→Act→World→Prop}{a:Act}{w:World}
theorem range_law {gf:Nat}{lb:Array Value}(hg:a.eval g=.func (.func gf) #[] lb) (eg:∀ args w,(callFunc gf args).run P w=.ok (.enter gf args) w)
  {encs:α→Array Value} {its mine:Obj→Bool} {S Sp:List α→Prop} {N:Nat} (hseq:SeqM P gf lb encs its mine S Sp N w)
  (hits:∀ o,book o=true→its o=false) (hmine:∀ o,book o=true→mine o=false) (hps:∀ x,(encs x).size=ps.size)
  (I Ix:List α→World→Prop) (hI:∀ pre A B,I pre A→Below w.heap.size A B→Keeps mine A B→I pre B) (hIx:∀ pre A B,Ix pre A→Below w.heap.size A B→Keeps mine A B→Ix pre B)
  (h0:I [] w) (Ax:α→Act→World→Prop) (hAx:∀ x a' A B,Ax x a' A→Keeps (fun o=>!book o) A B→Ax x a' B)
  (hassign:∀ (l:Nat) (pre:List α) (x:α) (W:World) (K:Act→World→Prop),I pre W→(∀ a' W', Below W.heap.size W W' → Ax x a' W' → K a' W') →
   assign.wpIn (Fence.wide.inRound l) n P (Exit.then K (fun _ _ _=>False)) { tmps:=(ps.zip (encs x)).foldl (fun t (p,v)=>t.setIfInBounds p v) a.tmps,defers:=[] } W)
  (hbody:∀ (l:Nat) (pre:List α) (x:α) (a' : Act) (W:World),I pre W→Ax x a' W→pre.length<N→body.wpIn (Fence.wide.inRound l) n P (PostR its I Ix (pre++[x]) W) a' W)
  (hdone:∀ (D:Nat) (xs:List α) (W:World),w.heap.size≤D→S xs→I xs W→W.heap[D]?=some (.deferred (some []))→Q .normal { a with defers:={ target:=.collected D,args:=#[] } :: a.defers } W)
  (hstop:∀ (D:Nat) (pre:List α) (W:World),w.heap.size≤D→Sp pre→Ix pre W→W.heap[D]?=some (.deferred (some []))→Code.ret.wpIn Fence.wide (n+2) P Q { a with defers:={ target:=.collected D,args:=#[] } :: a.defers } W) :
  (Code.rangeFunc g ps assign body).wpIn Fence.wide (n+2) P Q a w:=by
 refine wpIn_rangeFunc fun fn _=>?_
 generalize hd:w.heap.size=d at *
 let rec' : LoopState→Option Code→Loop:=fun st pe=>{ state:=st,pending:=pe,fn,tmps:=a.tmps,params:=ps,assign,body,defers:=d }
 have hW1:(Instr.enterLoop fn a.tmps ps assign body Fence.wide.round).run P w=.ok (d+1,[{ target:=.collected d,args:=#[] }]) ((w.alloc (.deferred (some []))).alloc (.loop (rec' .ready none))):=by
  have:=run_enterLoop_outer (P:=P) (w:=w) fn a.tmps ps assign body
  rw[hd] at this;exact this
 have hB1:Below d w ((w.alloc (.deferred (some []))).alloc (.loop (rec' .ready none))):=((Below.refl _ _).alloc (by omega) _).alloc (by simp;omega) _
 have hL1:((w.alloc (.deferred (some []))).alloc (.loop (rec' .ready none))).heap[d+1]?=some (.loop (rec' .ready none)):=by
  have:=World.alloc_heap_new (w.alloc (.deferred (some []))) (.loop (rec' .ready none))
  rwa [World.size_alloc,hd] at this
 have hD1:((w.alloc (.deferred (some []))).alloc (.loop (rec' .ready none))).heap[d]?=some (.deferred (some [])):=by
  have h1:=World.alloc_heap_new w (.deferred (some []))
  rw[hd] at h1
  exact (Below.heap_alloc _ _ d (by simp;omega)).trans h1
 have hI1:I [] ((w.alloc (.deferred (some []))).alloc (.loop (rec' .ready none))):=hI _ _ _ h0 hB1 ((Keeps.alloc _ _ _).trans (Keeps.alloc _ _ _))
 generalize (w.alloc (.deferred (some []))).alloc (.loop (rec' .ready none))=W1 at *
 refine ⟨d+1,[{ target:=.collected d,args:=#[] }],W1,{ target:=.fn (.func gf) lb,args:=#[.func (.yield (d+1)) #[] #[]] },W1,gf,#[.func (.yield (d+1)) #[] #[]]++lb,W1,hW1,?_,fun _ _=>trivial,?_,fun h=>(by cases h),?_⟩
 ·simp only[resolve,hg];simp[go_sem]
 ·simp[invoke,go_sem,eg]
 have hk2:∀ {A B:World} {p:Obj→Bool},Keeps (fun o=>p o || book o) A B→Keeps p A B∧Keeps book A B:=fun h=>⟨h.sub fun o ho=>by simp[ho],h.sub fun o ho=>by simp[ho]⟩
 have hput:∀ (A:World) (r:Loop) (r' : Obj),A.heap[d+1]?=some (.loop r)→Below d A (A.putObj (d+1) r')∧Keeps its A (A.putObj (d+1) r')∧Keeps mine A (A.putObj (d+1) r')∧Keeps (fun o=>!book o) A (A.putObj (d+1) r')∧(A.putObj (d+1) r').heap[d+1]?=some r' ∧ (A.putObj (d+1) r').heap[d]?=A.heap[d]? := fun A r r' h =>
  ⟨below_put (by omega) (Array.getElem?_eq_some_iff.1 h).1 _,Keeps.put h (hits _ rfl) _,Keeps.put h (hmine _ rfl) _,Keeps.put h rfl _,World.putObj_heap_same (Array.getElem?_eq_some_iff.1 h).1,World.putObj_heap_other (by omega)⟩
 have hseq' := hseq n (d+1) (fun pre W=>I pre W∧W.heap[d+1]?=some (.loop (rec' .ready none))∧W.heap[d]?=some (.deferred (some [])))
  (fun pre W=>Ix pre W∧W.heap[d+1]?=some (.loop (rec' .done (some .ret)))∧W.heap[d]?=some (.deferred (some []))) W1 (by rw[hd];exact hB1)
  (fun pre A B h hb hk=>⟨hI _ _ _ h.1 (by rw[hd] at hb;exact hb) (hk2 hk).1,(hk2 hk).2.2 _ _ h.2.1 rfl,(hk2 hk).2.2 _ _ h.2.2 rfl⟩)
  (fun pre A B h hb hk=>⟨hIx _ _ _ h.1 (by rw[hd] at hb;exact hb) (hk2 hk).1,(hk2 hk).2.2 _ _ h.2.1 rfl,(hk2 hk).2.2 _ _ h.2.2 rfl⟩) ?round ⟨hI1,hL1,hD1⟩
 case round =>
  rintro pre x A ⟨hi,hl,hdf⟩ hlen
  have hy:=run_yield (P:=P) (args:=encs x) hl (hps x)
  refine ⟨fn,_,assign,body,hy,roundIn_of_wpIn trivial (hassign _ pre x A _ hi fun a' A' hb hax=>⟨_,run_beginRound (hb.block _ (Array.getElem?_eq_some_iff.1 hl).1 |>.trans hl) rfl,?_⟩)⟩
  have hl' := (hb.block _ (Array.getElem?_eq_some_iff.1 hl).1).trans hl
  have hd' := (hb.block _ (Array.getElem?_eq_some_iff.1 hdf).1).trans hdf
  have hlt:d≤A.heap.size:=by have:=(Array.getElem?_eq_some_iff.1 hdf).1;omega
  obtain ⟨p1,p2,p3,p4,p5,p6⟩:=hput A' _ (.loop { rec' .ready none with state:=.busy }) hl'
  have hi2:=hI _ _ _ (hI _ _ _ hi (hb.mono hlt) (Keeps.below hb _)) p1 p3
  refine wpIn_mono (hbody _ pre x a' _ hi2 (hAx _ _ _ _ hax p4) hlen) ?_
  rintro e a3 W3 hp
  cases e with
  | normal =>
   obtain ⟨hk3,hi3⟩:=hp
   have hl3:=(hk2 hk3).2.2 _ _ p5 rfl
   have hd3:=(hk2 hk3).2.2 _ _ (p6.trans hd') rfl
   obtain ⟨q1,q2,q3,q4,q5,q6⟩:=hput W3 _ (.loop (rec' .ready none)) hl3
   exact ⟨_,_,run_endRound (P:=P) none hl3,.inl ⟨rfl,⟨hI _ _ _ hi3 q1 q3,q5,q6.trans hd3⟩,(((Keeps.below hb its).trans p2).trans (hk2 hk3).1).trans q2⟩⟩
  | ret =>
   obtain ⟨hk3,hi3⟩:=hp
   have hl3:=hk3.2 _ _ p5 rfl
   have hd3:=hk3.2 _ _ (p6.trans hd') rfl
   obtain ⟨q1,q2,q3,q4,q5,q6⟩:=hput W3 _ (.loop (rec' .done (some .ret))) hl3
   exact ⟨_,_,run_endRound (P:=P) (some .ret) hl3,.inr ⟨rfl,hIx _ _ _ hi3 q1 q3,q5,q6.trans hd3⟩⟩
  | exit id=>exact hp.elim
  | goto t=>exact hp.elim
  | panic ch=>exact hp.elim
  | outgrown=>exact hp.elim
 refine hseq'.mono ?_
 rintro e W2 ⟨⟨v,rfl⟩,(⟨xs,hS,hi,hl,hk⟩|⟨pre,hSp,hi,hl,hk⟩)⟩
 ·obtain ⟨q1,q2,q3,q4,q5,q6⟩:=hput W2 _ (.loop { rec' .ready none with state:=.exhausted }) hl
  exact ⟨none,_,run_endLoop (P:=P) hl (by simp[rec']),hdone d xs _ (Nat.le_refl _) hS (hI _ _ _ hi q1 q3) (q6.trans hk)⟩
 ·obtain ⟨q1,q2,q3,q4,q5,q6⟩:=hput W2 _ (.loop { rec' .done (some .ret) with state:=.exhausted }) hl
  exact ⟨some .ret,_,run_endLoop (P:=P) hl (by simp[rec']),hstop d pre _ (Nat.le_refl _) hSp (hIx _ _ _ hi q1 q3) (q6.trans hk)⟩
end
end Go.Proofs.YtbbmjdddemahfaaGreat
