/- Part of the proof. -/
import Derived.Test.YtbbmjdddemahfaaGreatSW20
import Derived.Test.YtbbmjdddemahfaaGreatSW22
set_option maxRecDepth 100000
namespace Go.Proofs.YtbbmjdddemahfaaGreat
open Go.RowKit
open M (Rg)
open Y (Nd It)

theorem RdI6.got9 {w:World}{S:Nat→Prop}{A:Option Addr}{n c:Nat}{l:List It}(h:RdI6 w S A n c l){i:Nat}(hi:i<n):∃ (b off:Nat) (x:It) (Ab Aa:Option Addr) (nb cb na ca:Nat),A=some ⟨b,off,none⟩∧S b∧l[i]?=some x∧RdN w S Ab nb cb x.before.kids∧RdN w S Aa na ca x.after.kids ∧
  ∀ j u,(itC x Ab nb cb Aa na ca)[j]?=some u→w.cell? ⟨b,off+i*15+j,none⟩=some u:=by
 obtain ⟨h1,h2,h3,cs,h4,h5⟩:=h
 obtain ⟨b,off,e,hb,hcc⟩:=h4 (by omega)
 have hx:=List.getElem?_eq_getElem (l:=l) (i:=i) (by omega)
 obtain ⟨Ab,nb,cb,Aa,na,ca,e5,r1,r2⟩:=h5 i _ hx
 refine ⟨b,off,_,Ab,Aa,nb,cb,na,ca,e,hb,hx,r1,r2,fun j u hu=>?_⟩
 rw[Nat.add_assoc]
 exact hcc i hi j u (by rw[e5];exact hu)
theorem it_cells9 {w:World}{b o:Nat}{x:It}{Ab Aa:Option Addr}{nb cb na ca:Nat}(h:∀ j u,(itC x Ab nb cb Aa na ca)[j]?=some u→w.cell? ⟨b,o+j,none⟩=some u) :
  w.cell? ⟨b,o,none⟩=some (.int .i64 x.kind)∧w.cell? ⟨b,o+1,none⟩=some (.string x.name)∧w.cell? ⟨b,o+2,none⟩=some (.int .i64 x.number)∧w.cell? ⟨b,o+3,none⟩=some (.bool x.cut)∧w.cell? ⟨b,o+4,none⟩=some (.int .i64 x.before.kind)∧w.cell? ⟨b,o+5,none⟩=some (.string x.before.name)∧w.cell? ⟨b,o+6,none⟩=some (.int .i64 x.before.low)∧w.cell? ⟨b,o+7,none⟩=some (.int .i64 x.before.high)∧w.cell? ⟨b,o+8,none⟩=some (.slice Ab nb cb)∧w.cell? ⟨b,o+9,none⟩=some (.int .i64 x.after.kind)∧w.cell? ⟨b,o+10,none⟩=some (.string x.after.name)∧w.cell? ⟨b,o+11,none⟩=some (.int .i64 x.after.low)∧w.cell? ⟨b,o+12,none⟩=some (.int .i64 x.after.high)∧w.cell? ⟨b,o+13,none⟩=some (.slice Aa na ca)∧w.cell? ⟨b,o+14,none⟩=some (.int .i64 x.pos) :=
 ⟨h 0 _ rfl,h 1 _ rfl,h 2 _ rfl,h 3 _ rfl,h 4 _ rfl,h 5 _ rfl,h 6 _ rfl,h 7 _ rfl,h 8 _ rfl,h 9 _ rfl,h 10 _ rfl,h 11 _ rfl,h 12 _ rfl,h 13 _ rfl,h 14 _ rfl⟩
def StepOk (vs:List Vr) (rs:List Rl) (x:It) (vs' : List Vr) (rs' : List Rl):Prop :=
 (x.kind=1∧vs=[]∧(dExpand [] x.before).1=0∧x.before.kind=4∧vs' = [⟨x.name,(dExpand [] x.before).2,true,x.pos⟩]∧rs' = rs) ∨
 (x.kind=2∧rlFind rs x.number=none∧rs.length<30∧(dExpand vs x.before).1=0∧(dExpand vs x.after).1=0∧vs' = vs∧rs' = rlPut rs ⟨x.number,x.cut,(dExpand vs x.before).2,(dExpand vs x.after).2,x.pos⟩)
def OneP (k:Int) (V:Nat) (SR:Nat→Prop) (w:World) (vs' : List Vr) (rs' : List Rl) (e:Ending) (w' : World):Prop :=
 ∃ (V' : Nat) (vA:Option Addr) (vn vc:Nat) (rA:Option Addr) (rn rc:Nat),e=.returned (.tuple #[.agg #[.slice vA vn vc,.slice rA rn rc,.slice none 0 0,.slice none 0 0],.int .i64 0])∧(V' = V∨k=1)∧V' ≤ w'.heap.size ∧
  RdG varD w' (fun b=>b<V') vA vn vc vs' ∧ RdG ruleD w' (fun i=>(SR i∨i<V')∨(w.heap.size≤i∧i<w'.heap.size)) rA rn rc rs' ∧ (rn=0→rA=none∧rc=0)∧(vs' = []→vA=none∧vc=0)∧Below w.heap.size w w'
theorem rl_nil {w:World}{S:Nat→Prop}{vA:Option Addr}{vn vc:Nat}(h:RdG varD w S vA vn vc []):vn=0:=h.len.symm
theorem one_step {vs vs' : List Vr}{rs rs' : List Rl}{x:It}(hst:StepOk vs rs x vs' rs') (hsb:x.before.size≤1000) (hsa:x.after.size≤1000){V:Nat}{SR:Nat→Prop}{w:World}(hV:V≤w.heap.size) (hSR:∀ b,SR b→b<w.heap.size){Ab Aa vA rA:Option Addr}{nb cb na ca vn vc rn rc:Nat}
  (hb:RdN w (Bl w) Ab nb cb x.before.kids) (ha:RdN w (Bl w) Aa na ca x.after.kids) (hv:RdG varD w (fun b=>b<V) vA vn vc vs) (hr:RdG ruleD w SR rA rn rc rs) (hrn:rn=0→rA=none∧rc=0) (hvn:vs=[]→vA=none∧vc=0) :
  Calls Tryz.prog 44 #[.agg #[.slice vA vn vc,.slice rA rn rc,.slice none 0 0,.slice none 0 0],.agg #[.int .i64 x.kind,.string x.name,.int .i64 x.number,.bool x.cut,.int .i64 x.before.kind,.string x.before.name,.int .i64 x.before.low,.int .i64 x.before.high,.slice Ab nb cb,.int .i64 x.after.kind,.string x.after.name,.int .i64 x.after.low,.int .i64 x.after.high,.slice Aa na ca,.int .i64 x.pos]] w (OneP x.kind V SR w vs' rs'):=by
 rcases hst with ⟨h1,h2,h3,h4,h5,h6⟩|⟨h1,h2,h3,h4,h5,h6,h7⟩
 ·obtain ⟨e1,e2⟩:=hvn h2
  subst h2 h5 h6 e1 e2
  obtain rfl:=rl_nil hv
  refine (done_name2 h1 h3 h4 (by omega) hb (rA:=rA) (rn:=rn) (rc:=rc)).mono ?_
  rintro en w' ⟨vA,vn,vc,rfl,hv', hb'⟩
  refine ⟨w'.heap.size,vA,vn,vc,rA,rn,rc,rfl,.inr h1,Nat.le_refl _,hv'.keep (fun b hb=>hb.2) (fun _ _=>rfl),hr.keep (fun b hb=>.inl (.inl hb)) (fun p hp=>hb'.cell (hSR _ hp)),hrn,(fun h=>by simp at h),hb'⟩
 ·subst h6 h7
  refine (done_rule2 (b:=⟨vs', rs,[]⟩) h1 h2 h3 h4 h5 (by omega) (by omega) hb ha hV hSR hv hr hrn).mono ?_
  rintro en w' ⟨rA', rn', rc', rfl,hr', hn', hb'⟩
  exact ⟨V,vA,vn,vc,rA', rn', rc', rfl,.inl rfl,Nat.le_trans hV hb'.size,hv.vlt hV hb', hr', hn', hvn,hb'⟩

structure NmS (WL:World) (ov:Value) (B:Nat) (W:World) (v:Value) (nms:List ByteArray):Prop where
 own:OwnX strD (fun _=>True) 9 W B v nms
 gr:WL.grownBy W ov.ownBlock
 at_:v.ownBlock=ov.ownBlock∨∃ b,v.ownBlock=some b∧WL.heap.size≤b
abbrev Src (W:World) (v:Value) (A:Option Addr) (n c:Nat) (L:List ByteArray):Prop:=RdG strD W (fun b=>b<W.heap.size∧True∧v.ownBlock≠some b) A n c L
section
variable {WL W W' : World}{ov v v' : Value}{B:Nat}{nms L L2:List ByteArray}{A A2:Option Addr}{n c n2 c2:Nat}
theorem NmS.call (h:NmS WL ov B W v nms) (hb:Below W.heap.size W W'):NmS WL ov B W' v nms :=
 ⟨h.own.on hb,⟨hb.os.trans h.gr.os,hb.tape.trans h.gr.tape,hb.output.trans h.gr.output,Nat.le_trans h.gr.size hb.size,fun i hi hn=>(hb.block i (Nat.lt_of_lt_of_le hi h.gr.size)).trans (h.gr.block i hi hn)⟩,h.at_⟩
theorem src_new (h:NmS WL ov B W v nms) (hr:RdG strD W' (Nw W W') A n c L):Src W' v A n c L :=
 hr.keep (fun b hb=>⟨hb.2,trivial,fun e=>by have:=(h.own.block b e).2;have:=hb.1;omega⟩) (fun _ _=>rfl)
theorem NmS.app (h:NmS WL ov B W v nms){M:List ByteArray}(ho:OwnX strD (fun _=>True) 9 W' B v' M) (hg:W.grownBy W' v.ownBlock) (hat:v'.ownBlock=v.ownBlock∨v'.ownBlock=some W.heap.size):NmS WL ov B W' v' M:=by
 refine ⟨ho,⟨hg.os.trans h.gr.os,hg.tape.trans h.gr.tape,hg.output.trans h.gr.output,Nat.le_trans h.gr.size hg.size,fun i hi hn=>?_⟩,?_⟩
 ·refine (hg.block i (Nat.lt_of_lt_of_le hi h.gr.size) (fun e=>?_)).trans (h.gr.block i hi hn)
  rcases h.at_ with e2|⟨b,e2,hb⟩
  ·exact hn (e.trans e2)
  ·rw[e2] at e
   injection e with e
   omega
 ·rcases hat with e|e
  ·rw[e];exact h.at_
  ·exact .inr ⟨_,e,h.gr.size⟩
theorem Src.few (h:Src W v A n c L){k:Nat}(hk:k+L.length≤1000000):k+n≤1000000:=by have:=RdG.len h;omega
end

theorem rows2 (w:World) (o0 o1:Obj):((w.alloc o0).alloc o1).heap.size=w.heap.size+2∧((w.alloc o0).alloc o1).heap[w.heap.size]?=some o0∧((w.alloc o0).alloc o1).heap[w.heap.size+1]?=some o1∧Below w.heap.size w ((w.alloc o0).alloc o1):=by
 have h1:(w.alloc o0).heap.size=w.heap.size+1:=by simp
 have b1:=qa_ w o0
 have b2:=qa_ (w.alloc o0) o1
 have n1:=heap_alloc_new w o0
 have n2:=heap_alloc_new (w.alloc o0) o1
 rw[h1] at n2
 exact ⟨by simp,(b2.block _ (by omega)).trans n1,n2,b1.trans (b2.mono b1.size)⟩
def BuildP (w:World) (vs:List Vr) (rs:List Rl) (e:Ending) (w' : World):Prop:=∃ (vA:Option Addr) (vn vc:Nat) (rA:Option Addr) (rn rc:Nat) (uA:Option Addr) (un uc:Nat) (us:List ByteArray),e=.returned (.tuple #[.agg #[.slice vA vn vc,.slice rA rn rc,.slice none 0 0,.slice uA un uc],.int .i64 (-1),.int .i64 0])∧RdG varD w' (Bl w') vA vn vc vs∧RdG ruleD w' (Bl w') rA rn rc rs∧RdG strD w' (Bl w') uA un uc us∧un≤vs.length∧Below w.heap.size w w'
theorem cut6a {k:Int}{V V' N:Nat}{ov:Value}{WL wc w2 W:World}{vA rA:Option Addr}{vn vc rn rc:Nat}{vs:List Vr}{rs:List Rl}(h1:V' = V∨k=1) (h2:V' ≤ w2.heap.size) (hv:RdG varD w2 (fun b=>b<V') vA vn vc vs) (hr:RdG ruleD w2 (fun i=>((i<WL.heap.size∧ov.ownBlock≠some i)∨i<V')∨(wc.heap.size≤i∧i<w2.heap.size)) rA rn rc rs)
  (hb:Below w2.heap.size w2 W) (hN:NoInt W N) (hc:WL.heap.size≤wc.heap.size) (hw:WL.heap.size≤w2.heap.size) (hk:k=1→ov.ownBlock=none) (hov:∀ b,ov.ownBlock=some b→V≤b) (hob:∀ b,ov.ownBlock=some b→b<WL.heap.size) :
  (∀ b,ov.ownBlock=some b→V' ≤ b)∧RdG varD W (fun b=>b<V' ∧ b≠N) vA vn vc vs∧RdG ruleD W (fun b=>(b<W.heap.size∧ov.ownBlock≠some b)∧b≠N) rA rn rc rs:=by
 have hx:∀ b,ov.ownBlock=some b→V' ≤ b:=fun b e=>by
  rcases h1 with h|h
  ·rw[h];exact hov b e
  ·rw[hk h] at e;cases e
 refine ⟨hx,vars_not (hv.keep (fun _ h=>h) (fun p hp=>hb.cell (Nat.lt_of_lt_of_le hp h2))) hN,rules_not (hr.keep (fun i hi=>?_) (fun p hp=>hb.cell ?_)) hN⟩
 ·have:=hb.size
  rcases hi with (hi|hi)|hi
  ·exact ⟨by omega,hi.2⟩
  ·exact ⟨by omega,fun e=>by have:=hx i e;omega⟩
  ·exact ⟨by omega,fun e=>by have:=hob i e;omega⟩
 ·rcases hp with (hp|hp)|hp
  ·omega
  ·omega
  ·omega
def Cut6 (WL:World) (ov:Value) (vs:List Vr) (rs:List Rl) (v8 v9:Value) (wx:World):Prop:=∃ (V' : Nat) (vA' : Option Addr) (vn' vc' : Nat) (rA' : Option Addr) (rn' rc' n8:Nat),v8=.pointer (some ⟨n8,0,none⟩)∧v9=.int .i64 0∧Hid (WL.heap.size≤n8)∧Hid (wx.heap[n8]?=some (.cells #[.slice vA' vn' vc', .slice rA' rn' rc', .slice none 0 0,.slice none 0 0] 36 (0,0)))∧Hid (V' ≤ wx.heap.size)∧Hid (∀ b,ov.ownBlock=some b→V' ≤ b)∧Hid (RdG varD wx (fun b=>b<V') vA' vn' vc' vs)∧Hid (RdG ruleD wx (fun b=>b<wx.heap.size∧ov.ownBlock≠some b) rA' rn' rc' rs)∧Hid (rn' = 0→rA' = none∧rc' = 0)∧Hid (vs=[]→vA' = none∧vc' = 0)∧Hid (Below WL.heap.size WL wx)
section
variable {k:Int}{V:Nat}{ov:Value}{WL wc w2:World}{vs:List Vr}{rs:List Rl}{V' : Nat}{vA' rA' : Option Addr}{vn' vc' rn' rc' : Nat}
theorem cut6_a (h1:V' = V∨k=1) (h2:V' ≤ w2.heap.size) (hv:RdG varD w2 (fun b=>b<V') vA' vn' vc' vs) (hr:RdG ruleD w2 (fun i=>((i<WL.heap.size∧ov.ownBlock≠some i)∨i<V')∨(wc.heap.size≤i∧i<w2.heap.size)) rA' rn' rc' rs) (hrn:rn' = 0→rA' = none∧rc' = 0) (hvn:vs=[]→vA' = none∧vc' = 0)
  (hc:Below WL.heap.size WL wc) (hw:Below wc.heap.size wc w2) (hk:k=1→ov.ownBlock=none) (hov:∀ b,ov.ownBlock=some b→V≤b) (hob:∀ b,ov.ownBlock=some b→b<WL.heap.size) :
  Cut6 WL ov vs rs (.pointer (some ⟨w2.heap.size,0,none⟩)) (.int .i64 0) (w2.alloc (.cells #[.slice vA' vn' vc', .slice rA' rn' rc', .slice none 0 0,.slice none 0 0] 36)):=by
 have hN:=heap_alloc_new w2 (.cells #[.slice vA' vn' vc', .slice rA' rn' rc', .slice none 0 0,.slice none 0 0] 36)
 have hb:=qa_ w2 (.cells #[.slice vA' vn' vc', .slice rA' rn' rc', .slice none 0 0,.slice none 0 0] 36)
 have hs:=Nat.le_trans hc.size hw.size
 obtain ⟨x1,x2,x3⟩:=cut6a h1 h2 hv hr hb (book_noInt hN) hc.size hs hk hov hob
 exact ⟨V', vA', vn', vc', rA', rn', rc', w2.heap.size,rfl,rfl,hs,hN,Nat.le_trans h2 hb.size,x1,x2.keep (fun _ h=>h.1) (fun _ _=>rfl),x3.keep (fun _ h=>h.1) (fun _ _=>rfl),hrn,hvn,(hc.trans (hw.mono hc.size)).trans (hb.mono hs)⟩
theorem cut6_b (h1:V' = V∨k=1) (h2:V' ≤ w2.heap.size) (hv:RdG varD w2 (fun b=>b<V') vA' vn' vc' vs) (hr:RdG ruleD w2 (fun i=>((i<WL.heap.size∧ov.ownBlock≠some i)∨i<V')∨(wc.heap.size≤i∧i<w2.heap.size)) rA' rn' rc' rs) (hrn:rn' = 0→rA' = none∧rc' = 0) (hvn:vs=[]→vA' = none∧vc' = 0)
  (hc:Below WL.heap.size WL wc) (hw:Below wc.heap.size wc w2) (hk:k=1→ov.ownBlock=none) (hov:∀ b,ov.ownBlock=some b→V≤b) (hob:∀ b,ov.ownBlock=some b→b<WL.heap.size) (hlt:WL.heap.size<wc.heap.size) (hZ:wc.heap[WL.heap.size]?=some (.cells #[.slice none 0 0,.slice none 0 0,.slice none 0 0,.slice none 0 0] 36 (0,0))) :
  Cut6 WL ov vs rs (.pointer (some ⟨WL.heap.size,0,none⟩)) (.int .i64 0) (set4 w2 WL.heap.size (.slice vA' vn' vc') (.slice rA' rn' rc') (.slice none 0 0) (.slice none 0 0)):=by
 have hN:=(hw.block WL.heap.size hlt).trans hZ
 have hs:=Nat.le_trans hc.size hw.size
 obtain ⟨x1,x2,x3⟩:=cut6a h1 h2 hv hr (Below.refl _ _) (book_noInt hN) hc.size hs hk hov hob
 refine ⟨V', vA', vn', vc', rA', rn', rc', WL.heap.size,rfl,rfl,Nat.le_refl _,qx_ hN _ _ _ _,by show _≤_;rw[qg_];exact h2,x1,x2.keep (fun _ h=>h.1) (fun p hp=>qn_ _ _ _ _ _ hp.2),x3.keep (fun b h=>?_) (fun p hp=>qn_ _ _ _ _ _ hp.2),hrn,hvn,qm_ (hc.trans (hw.mono hc.size)) (Nat.le_refl _) _ _ _ _⟩
 rw[qg_]
 exact h.1
end
theorem store9 {w WL W8:World}{ov:Value}{vs:List Vr}{rs:List Rl}{nms:List ByteArray}{V' : Nat}{vA' rA' a0 a1 a2 a3:Option Addr}{vn' vc' rn' rc' m0 m1 m2 m3 k0 k1 k2 k3:Nat}(hB:Below w.heap.size w WL) (h5:w.heap.size+2≤WL.heap.size) (h2:WL.heap[w.heap.size]?=some (.cells #[.slice none 0 0,.slice none 0 0,.slice none 0 0,.slice none 0 0] 36 (0,0)))
  (hz5:WL.heap[w.heap.size+1]?=some (.cells #[.slice a0 m0 k0,.slice a1 m1 k1,.slice a2 m2 k2,.slice a3 m3 k3] 36 (0,0))) (ho:OwnX strD (fun _=>True) 9 WL (w.heap.size+2) ov nms)
  (hV:V' ≤ W8.heap.size) (hv:RdG varD W8 (fun b=>b<V') vA' vn' vc' vs) (hr:RdG ruleD W8 (fun b=>b<W8.heap.size∧ov.ownBlock≠some b) rA' rn' rc' rs) (hb:Below WL.heap.size WL W8) (b0 b1 b2 b3:Value) :
  (set4 W8 (w.heap.size+1) b0 b1 b2 b3).heap[w.heap.size]?=some (.cells #[.slice none 0 0,.slice none 0 0,.slice none 0 0,.slice none 0 0] 36 (0,0)) ∧
  (set4 W8 (w.heap.size+1) b0 b1 b2 b3).heap[w.heap.size+1]?=some (.cells #[b0,b1,b2,b3] 36 (0,0)) ∧
  (V' ≤ (set4 W8 (w.heap.size+1) b0 b1 b2 b3).heap.size∧w.heap.size+2≤(set4 W8 (w.heap.size+1) b0 b1 b2 b3).heap.size) ∧
  RdG varD (set4 W8 (w.heap.size+1) b0 b1 b2 b3) (fun b=>b<V') vA' vn' vc' vs ∧
  RdG ruleD (set4 W8 (w.heap.size+1) b0 b1 b2 b3) (fun b=>b<(set4 W8 (w.heap.size+1) b0 b1 b2 b3).heap.size∧ov.ownBlock≠some b) rA' rn' rc' rs ∧
  NmS (set4 W8 (w.heap.size+1) b0 b1 b2 b3) ov (w.heap.size+2) (set4 W8 (w.heap.size+1) b0 b1 b2 b3) ov nms ∧
  Below w.heap.size w (set4 W8 (w.heap.size+1) b0 b1 b2 b3):=by
 have hz8:=(hb.block (w.heap.size+1) (by omega)).trans hz5
 have hn:=book_noInt hz8
 have hs:=hb.size
 refine ⟨(qu_ _ _ _ _ _ _ (by omega)).trans ((hb.block _ (by omega)).trans h2),qx_ hz8 _ _ _ _,⟨by rw[qg_];exact hV,by rw[qg_];omega⟩,(vars_not hv hn).keep (fun _ h=>h.1) (fun p hp=>qn_ _ _ _ _ _ hp.2),(rules_not hr hn).keep (fun b h=>?_) (fun p hp=>qn_ _ _ _ _ _ hp.2),⟨?_,grown_refl _ _,.inl rfl⟩,qm_ (hB.trans (hb.mono hB.size)) (by omega) _ _ _ _⟩
 ·rw[qg_];exact h.1
 ·obtain ⟨cs,h1,h3⟩:=ho.on hb
  exact ⟨cs,prow_keep h1 fun i h4 h5 _=>qu_ _ _ _ _ _ _ (by omega),fun i x hx=>h3 i x hx⟩
theorem next9 {w W9 WX:World}{ov v:Value}{vs:List Vr}{rs:List Rl}{M:List ByteArray}{V' : Nat}{vA' rA' : Option Addr}{vn' vc' rn' rc' : Nat}{b0 b1 b2 b3:Value}(hB:Below w.heap.size w W9) (h2:W9.heap[w.heap.size]?=some (.cells #[.slice none 0 0,.slice none 0 0,.slice none 0 0,.slice none 0 0] 36 (0,0)))
  (h5:W9.heap[w.heap.size+1]?=some (.cells #[b0,b1,b2,b3] 36 (0,0))) (hV:V' ≤ W9.heap.size) (hv:RdG varD W9 (fun b=>b<V') vA' vn' vc' vs) (hr:RdG ruleD W9 (fun b=>b<W9.heap.size∧ov.ownBlock≠some b) rA' rn' rc' rs) (hov:∀ b,ov.ownBlock=some b→V' ≤ b) (hn:NmS W9 ov (w.heap.size+2) WX v M) (hob:∀ b,ov.ownBlock=some b→w.heap.size+2≤b) (hsz:w.heap.size+2≤W9.heap.size) :
  WX.heap[w.heap.size]?=some (.cells #[.slice none 0 0,.slice none 0 0,.slice none 0 0,.slice none 0 0] 36 (0,0))∧WX.heap[w.heap.size+1]?=some (.cells #[b0,b1,b2,b3] 36 (0,0))∧(V' ≤ WX.heap.size∧w.heap.size+2≤WX.heap.size)∧RdG varD WX (fun b=>b<V') vA' vn' vc' vs∧RdG ruleD WX (fun b=>b<WX.heap.size∧v.ownBlock≠some b) rA' rn' rc' rs∧(∀ b,v.ownBlock=some b→V' ≤ b)∧Below w.heap.size w WX:=by
 have hs:=hn.gr.size
 have hbk:∀ i,i<W9.heap.size→ov.ownBlock≠some i→WX.heap[i]?=W9.heap[i]? := fun i h1 h2=>hn.gr.block i h1 (fun e=>h2 e.symm)
 have hx:∀ i,i<W9.heap.size→ov.ownBlock≠some i→v.ownBlock≠some i:=fun i h1 h2 e=>by
  rcases hn.at_ with e2|⟨b,e2,hb⟩
  ·exact h2 (e2 ▸ e)
  ·rw[e2] at e;injection e with e;omega
 refine ⟨(hbk _ (by omega) (fun e=>by have:=hob _ e;omega)).trans h2,(hbk _ (by omega) (fun e=>by have:=hob _ e;omega)).trans h5,⟨by omega,by omega⟩,hv.keep (fun _ h=>h) (fun p hp=>World.cell?_of_block (hbk _ (Nat.lt_of_lt_of_le hp hV) (fun e=>by have:=hov _ e;omega))),hr.keep (fun b h=>⟨Nat.lt_of_lt_of_le h.1 hs,hx b h.1 h.2⟩) (fun p hp=>World.cell?_of_block (hbk _ hp.1 hp.2)),fun b e=>?_,qe_ hB hn.gr (fun i hi=>by have:=hob i hi;omega)⟩
 rcases hn.at_ with e2|⟨b', e2,hb⟩
 ·exact hov b (e2 ▸ e)
 ·rw[e2] at e;injection e with e;omega
theorem results_ctt {P:Program}{fn:Func}{a u s:Tmp}{t:TypeId}(hf:fn.results=#[.cell a t,.tmp u,.tmp s]){w:World}(hagg:(isAgg t).run P w=.ok true w) (hsz:(sizeOf t).run P w=.ok 4 w) (tmps:Array Value){N:Nat}(ha:tmps.getD a undef=.pointer (some ⟨N,0,none⟩)){c0 c1 c2 c3:Value}{te:TypeId}(hrow:w.heap[N]?=some (.cells #[c0,c1,c2,c3] te (0,0))) :
  (results fn tmps).run P w=.ok (.tuple #[.agg #[c0,c1,c2,c3],tmps.getD u undef,tmps.getD s undef]) w:=by
 obtain ⟨h0,h1,h2,h3⟩:=qy_ hrow
 have ha' : (tmps[a]?).getD undef=.pointer (some ⟨N,0,none⟩):=by simpa using ha
 have g:∀ i v,w.cell? ⟨N,i,none⟩=some v→(load (Addr.add ⟨N,0,none⟩ i)).run P w=.ok v w:=fun i v h=>by
  rw[qo_,Nat.zero_add]
  unfold load
  simp only[Sem.run,h]
 have g2:(loadCells ⟨N,0,none⟩ 4).run P w=.ok #[c0,c1,c2,c3] w:=by
  simp[loadCells,loadCellsFrom,Sem.run_bind,g 0 _ h0,g 1 _ h1,g 2 _ h2,g 3 _ h3,Result.andThen]
 have g3:(loadVar t ⟨N,0,none⟩).run P w=.ok (.agg #[c0,c1,c2,c3]) w:=by
  simp[loadVar,Sem.run_bind,hagg,hsz,g2,Result.andThen]
 unfold results
 rw[hf]
 simp[ha', asAddr,g3]
theorem ownS_x {X X' : Nat→Prop}{e:TypeId}{w:World}{B:Nat}{v:Value}{l:List ByteArray}(h:OwnX strD X e w B v l):OwnX strD X' e w B v l:=by
 obtain ⟨cs,h1,h2⟩:=h
 exact ⟨cs,h1,fun i x hx=>h2 i x hx⟩
def H16 (N bv o:Nat) (vA:Option Addr) (vn vc:Nat) (uA:Option Addr) (un uc:Nat) (s:ByteArray) (w' : World):Prop:=w'.cell? ⟨N,0,none⟩=some (.slice vA vn vc)∧w'.cell? ⟨N,3,none⟩=some (.slice uA un uc)∧w'.cell? ⟨bv,o,none⟩=some (.string s)
structure Us (w WL:World) (vA rA:Option Addr) (vn vc rn rc:Nat) (uA:Option Addr) (un uc:Nat) (us:List ByteArray) (wx:World):Prop where
 n2:wx.heap[w.heap.size]?=some (.cells #[.slice none 0 0,.slice none 0 0,.slice none 0 0,.slice none 0 0] 36 (0,0))
 n5:wx.heap[w.heap.size+1]?=some (.cells #[.slice vA vn vc,.slice rA rn rc,.slice none 0 0,.slice uA un uc] 36 (0,0))
 own:OwnX strD (fun _=>True) 9 wx WL.heap.size (.slice uA un uc) us
 old:∀ b,b<WL.heap.size→b≠w.heap.size+1→wx.heap[b]?=WL.heap[b]?
 size:WL.heap.size≤wx.heap.size
 below:Below w.heap.size w wx
theorem Us.on {w WL wx w2:World}{vA rA:Option Addr}{vn vc rn rc:Nat}{uA:Option Addr}{un uc:Nat}{us:List ByteArray}(h:Us w WL vA rA vn vc rn rc uA un uc us wx) (h5:w.heap.size+2≤WL.heap.size) (hb:Below wx.heap.size wx w2):Us w WL vA rA vn vc rn rc uA un uc us w2 :=
 have hs:=h.size
 ⟨(hb.block _ (by omega)).trans h.n2,(hb.block _ (by omega)).trans h.n5,h.own.on hb,fun b h1 h2=>(hb.block b (by omega)).trans (h.old b h1 h2),Nat.le_trans hs hb.size,h.below.trans (hb.mono h.below.size)⟩
theorem Us.put {w WL W3 w4:World}{vA rA:Option Addr}{vn vc rn rc:Nat}{uA uA' : Option Addr}{un uc un' uc' : Nat}{us us' : List ByteArray}(h:Us w WL vA rA vn vc rn rc uA un uc us W3) (h5:w.heap.size+2≤WL.heap.size) (ho:OwnX strD (fun _=>True) 9 w4 WL.heap.size (.slice uA' un' uc') us') (hg:W3.grownBy w4 (Value.slice uA un uc).ownBlock):Us w WL vA rA vn vc rn rc uA' un' uc' us' (w4.setCell ⟨w.heap.size+1,3,none⟩ (.slice uA' un' uc')):=by
 have hs:=h.size
 have hob:∀ b,(Value.slice uA un uc).ownBlock=some b→WL.heap.size≤b:=fun b e=>(h.own.block b e).1
 have hbk:∀ b,b<WL.heap.size→w4.heap[b]?=W3.heap[b]? := fun b hb=>hg.block b (by omega) (fun e=>by have:=hob b e.symm;omega)
 have hh:∀ i,i≠w.heap.size+1→(w4.setCell ⟨w.heap.size+1,3,none⟩ (.slice uA' un' uc')).heap[i]?=w4.heap[i]? := fun i hi=>Below.heap_setCell _ _ _ _ hi
 refine ⟨(hh _ (by omega)).trans ((hbk _ (by omega)).trans h.n2),heap_setCell_same _ _ _ _ _ _ ((hbk _ (by omega)).trans h.n5),?_,fun b h1 h2=>(hh b h2).trans ((hbk b h1).trans (h.old b h1 h2)),?_,(qe_ h.below hg (fun i hi=>by have:=hob i hi;omega)).setCell (by show w.heap.size≤w.heap.size+1;omega) _⟩
 ·obtain ⟨cs,h1,h3⟩:=ho
  exact ⟨cs,prow_keep h1 fun i h4 h6 _=>hh i (by omega),fun i x hx=>h3 i x hx⟩
 ·have:=hg.size
  simp;omega
set_option maxHeartbeats 16000000 in
theorem build_any {l:List It}(hl:l.length≤100){Vs:Nat→List Vr}{Rs:Nat→List Rl}(h0:Vs 0=[]∧Rs 0=[]) (hst:∀ i x,l[i]?=some x→StepOk (Vs i) (Rs i) x (Vs (i+1)) (Rs (i+1))∧(x.kind=1→i=0)∧x.before.size≤1000∧x.after.size≤1000) (hvl:(Vs l.length).length≤100){w:World}{A:Option Addr}{n c:Nat}(hi:RdI6 w (Bl w) A n c l) :
  Calls Tryz.prog 22 #[.slice A n c] w (BuildP w (Vs l.length) (Rs l.length)):=by
 obtain ⟨h01,h02⟩:=h0
 obtain ⟨hz,q0,q1,qb⟩:=rows2 w (.cells #[.slice none 0 0,.slice none 0 0,.slice none 0 0,.slice none 0 0] 36) (.cells #[.slice none 0 0,.slice none 0 0,.slice none 0 0,.slice none 0 0] 36)
 have hn:=hi.len
 have hn100:n≤100:=by omega
 have HP:=ha_ qb
 have HR0:=ha_ q0
 have HR1:=ha_ q1
 have HI:=ha_ hi
 have HST:=ha_ hst
 have HVL:=ha_ hvl
 have HLN:Hid (l.length=n):=hn
 have HE0:Hid (Vs 0=[]∧Rs 0=[]):=⟨h01,h02⟩
 clear q0 q1 qb hi hst hvl hn h01 h02 hl
 go_enter Tryz.func22,Tryz.ntmps22
 go_wp2_with fail
 generalize hW0:((w.alloc (.cells #[.slice none 0 0,.slice none 0 0,.slice none 0 0,.slice none 0 0] 36)).alloc (.cells #[.slice none 0 0,.slice none 0 0,.slice none 0 0,.slice none 0 0] 36))=W0 at *
 clear hW0
 go_loopw [6,7] (fun ov iv wx=>∃ (j V:Nat) (vA:Option Addr) (vn vc:Nat) (rA:Option Addr) (rn rc:Nat) (nms:List ByteArray),j≤n∧iv=.int .i64 j∧Hid (wx.heap[w.heap.size]?=some (.cells #[.slice none 0 0,.slice none 0 0,.slice none 0 0,.slice none 0 0] 36 (0,0)))∧Hid (wx.heap[w.heap.size+1]?=some (.cells #[.slice vA vn vc,.slice rA rn rc,.slice none 0 0,.slice none 0 0] 36 (0,0)))∧Hid (V≤wx.heap.size∧w.heap.size+2≤wx.heap.size)∧Hid (RdG varD wx (fun b=>b<V) vA vn vc (Vs j))∧Hid (RdG ruleD wx (fun b=>b<wx.heap.size∧ov.ownBlock≠some b) rA rn rc (Rs j))∧Hid (rn=0→rA=none∧rc=0)∧Hid (OwnX strD (fun _=>True) 9 wx (w.heap.size+2) ov nms)∧Hid (nms.length≤2000*j)∧Hid (∀ b,ov.ownBlock=some b→V≤b)∧Hid (j=0→ov.ownBlock=none)∧Hid (Vs j=[]→vA=none∧vc=0)∧Hid (Below w.heap.size w wx)) (fun _ iv _=>n - (intOf iv).toNat)
 case atStart=>exact ⟨0,0,none,0,0,none,0,0,[],by omega,rfl,HR0.out,HR1.out,⟨Nat.zero_le _,by show _≤W0.heap.size;omega⟩,by show RdG _ _ _ _ _ _ _;rw[HE0.out.1];exact RdG.nil _ _ _,by show RdG _ _ _ _ _ _ _;rw[HE0.out.2];exact RdG.nil _ _ _,(fun _=>⟨rfl,rfl⟩),OwnX.nil _ _ _ _ _,Nat.zero_le _,(fun b e=>by cases e),(fun _=>rfl),(fun _=>⟨rfl,rfl⟩),HP.out⟩
 case round =>
  obtain ⟨j,V,vA,vn,vc,rA,rn,rc,nms,hj,rfl,HZ2,HZ5,HVL2,HV,HR,HRN,HO,HNL,HOV,HO0,HVN,HB⟩:=hrel
  rcases (⟨wr,rfl⟩:∃ WL:World,WL=wr) with ⟨WL,rfl⟩
  rcases (⟨_,rfl⟩:∃ v,v=u6) with ⟨ov,rfl⟩
  clear HR0 HR1 hz
  by_cases hlt:j<n
  ·have hj0:(0:Int)≤(j:Int):=by omega
   have hj1:(j:Int)<(n:Int):=by omega
   have HI2:Hid (RdI6 WL (Bl w) A n c l):=HI.out.keep (fun _ h=>h) (fun p hp=>HB.out.cell hp)
   obtain ⟨b1,o1,x,Ab,Aa,nb,cb,na,ca,hA1,hb1,hx,hr1,hr2,hc1⟩:=HI2.out.got9 hlt
   subst hA1
   obtain ⟨hq1,hq2,hq3,hq4⟩:=HST.out j x hx
   have hb1' : b1<w.heap.size:=hb1
   obtain ⟨s0,s1,s2,s3,s4,s5,s6,s7,s8,s9,s10,s11,s12,s13,s14⟩:=it_cells9 hc1
   obtain ⟨c0,c1,c2,c3⟩:=qi_ HZ5.out
   have hbL:b1<WL.heap.size:=Nat.lt_of_lt_of_le hb1' HB.out.size
   have h5L:w.heap.size+1<WL.heap.size:=by have:=HVL2.out.2;omega
   have HS6:Hid (∀ W' : World,Below WL.heap.size WL W' → (W'.cell? ⟨w.heap.size+1,0,none⟩=some (.slice vA vn vc)∧W'.cell? ⟨w.heap.size+1,1,none⟩=some (.slice rA rn rc)∧W'.cell? ⟨w.heap.size+1,2,none⟩=some (.slice none 0 0)∧W'.cell? ⟨w.heap.size+1,3,none⟩=some (.slice none 0 0)∧W'.cell? ⟨b1,o1+j*15,none⟩=some (.int .i64 x.kind)∧W'.cell? ⟨b1,o1+j*15+1,none⟩=some (.string x.name)∧W'.cell? ⟨b1,o1+j*15+2,none⟩=some (.int .i64 x.number)∧W'.cell? ⟨b1,o1+j*15+3,none⟩=some (.bool x.cut)∧W'.cell? ⟨b1,o1+j*15+4,none⟩=some (.int .i64 x.before.kind)∧W'.cell? ⟨b1,o1+j*15+5,none⟩=some (.string x.before.name)∧W'.cell? ⟨b1,o1+j*15+6,none⟩=some (.int .i64 x.before.low)∧W'.cell? ⟨b1,o1+j*15+7,none⟩=some (.int .i64 x.before.high)∧W'.cell? ⟨b1,o1+j*15+8,none⟩=some (.slice Ab nb cb)∧W'.cell? ⟨b1,o1+j*15+9,none⟩=some (.int .i64 x.after.kind)∧W'.cell? ⟨b1,o1+j*15+10,none⟩=some (.string x.after.name)∧W'.cell? ⟨b1,o1+j*15+11,none⟩=some (.int .i64 x.after.low)∧W'.cell? ⟨b1,o1+j*15+12,none⟩=some (.int .i64 x.after.high)∧W'.cell? ⟨b1,o1+j*15+13,none⟩=some (.slice Aa na ca)∧W'.cell? ⟨b1,o1+j*15+14,none⟩=some (.int .i64 x.pos))):=fun W' h=>⟨qf_ h h5L c0,qf_ h h5L c1,qf_ h h5L c2,qf_ h h5L c3,qf_ h hbL s0,qf_ h hbL s1,qf_ h hbL s2,qf_ h hbL s3,qf_ h hbL s4,qf_ h hbL s5,qf_ h hbL s6,qf_ h hbL s7,qf_ h hbL s8,qf_ h hbL s9,qf_ h hbL s10,qf_ h hbL s11,qf_ h hbL s12,qf_ h hbL s13,qf_ h hbL s14⟩
   have HNB:Hid (∀ W' : World,w.heap.size≤W'.heap.size→(∀ b,b<w.heap.size→W'.heap[b]?=WL.heap[b]?)→RdN W' (Bl W') Ab nb cb x.before.kids∧RdN W' (Bl W') Aa na ca x.after.kids):=fun W' h1 h2=>⟨hr1.keep (fun b hb=>Nat.lt_of_lt_of_le hb h1) (fun p hp=>World.cell?_of_block (h2 _ hp)),hr2.keep (fun b hb=>Nat.lt_of_lt_of_le hb h1) (fun p hp=>World.cell?_of_block (h2 _ hp))⟩
   have HBK:Hid (∀ W' : World,Below WL.heap.size WL W' → ∀ b,b<w.heap.size→W'.heap[b]?=WL.heap[b]?):=fun W' h b hb=>h.block b (Nat.lt_of_lt_of_le hb HB.out.size)
   have HC:Hid (∀ W' : World,Below WL.heap.size WL W' → Calls Tryz.prog 44 #[.agg #[.slice vA vn vc,.slice rA rn rc,.slice none 0 0,.slice none 0 0],.agg #[.int .i64 x.kind,.string x.name,.int .i64 x.number,.bool x.cut,.int .i64 x.before.kind,.string x.before.name,.int .i64 x.before.low,.int .i64 x.before.high,.slice Ab nb cb,.int .i64 x.after.kind,.string x.after.name,.int .i64 x.after.low,.int .i64 x.after.high,.slice Aa na ca,.int .i64 x.pos]] W' (OneP x.kind V (fun b=>b<WL.heap.size∧ov.ownBlock≠some b) W' (Vs (j+1)) (Rs (j+1)))):=fun W' h=>by
    have hs:=Nat.le_trans HB.out.size h.size
    obtain ⟨k1,k2⟩:=HNB.out W' hs (HBK.out W' h)
    exact one_step hq1 hq3 hq4 (Nat.le_trans HVL2.out.1 h.size) (fun b hb=>Nat.lt_of_lt_of_le hb.1 h.size) k1 k2 (HV.out.vlt HVL2.out.1 h) (HR.out.keep (fun _ h=>h) (fun p hp=>h.cell hp.1)) HRN.out HVN.out
   have HX:=ha_ hx
   have HK1:Hid (x.kind=1→ov.ownBlock=none):=fun h=>HO0.out (hq2 h)
   have HKK:Hid (x.kind=1∨x.kind=2):=by
    rcases hq1 with h|h
    ·exact .inl h.1
    ·exact .inr h.1
   have HSZ:Hid (x.before.size≤1000∧x.after.size≤1000):=⟨hq3,hq4⟩
   have HBA:Hid (Below WL.heap.size WL (WL.alloc (.cells #[.slice none 0 0,.slice none 0 0,.slice none 0 0,.slice none 0 0] 36)).drew):=qb_ (qa_ _ _) 1
   have HB0:Hid (Below WL.heap.size WL WL.drew):=qb_ (Below.refl _ _) 1
   have HZA:Hid ((WL.alloc (.cells #[.slice none 0 0,.slice none 0 0,.slice none 0 0,.slice none 0 0] 36)).drew.heap[WL.heap.size]?=some (.cells #[.slice none 0 0,.slice none 0 0,.slice none 0 0,.slice none 0 0] 36 (0,0))):=heap_alloc_new WL _
   have HLT:Hid (WL.heap.size<(WL.alloc (.cells #[.slice none 0 0,.slice none 0 0,.slice none 0 0,.slice none 0 0] 36)).drew.heap.size):=by show WL.heap.size<(WL.alloc (.cells #[.slice none 0 0,.slice none 0 0,.slice none 0 0,.slice none 0 0] 36)).heap.size;simp
   have HOB:Hid (∀ b,ov.ownBlock=some b→b<WL.heap.size):=fun b e=>(HO.out.block b e).2
   clear s0 s1 s2 s3 s4 s5 s6 s7 s8 s9 s10 s11 s12 s13 s14 c0 c1 c2 c3 hx hr1 hr2 hc1 hq1 hq2 hq3 hq4 HV HR HI2 HST HVN
   go_upto_region 6 with fail
   go_cut [8,9] (fun v8 v9 wx=>Cut6 WL ov (Vs (j+1)) (Rs (j+1)) v8 v9 wx)
   case first =>
    go_region_held_law (fun w' => w'.cell? ⟨w.heap.size+1,0,none⟩=some (.slice vA vn vc)∧w'.cell? ⟨w.heap.size+1,1,none⟩=some (.slice rA rn rc)∧w'.cell? ⟨w.heap.size+1,2,none⟩=some (.slice none 0 0)∧w'.cell? ⟨w.heap.size+1,3,none⟩=some (.slice none 0 0)∧w'.cell? ⟨b1,o1+j*15,none⟩=some (.int .i64 x.kind)∧w'.cell? ⟨b1,o1+j*15+1,none⟩=some (.string x.name)∧w'.cell? ⟨b1,o1+j*15+2,none⟩=some (.int .i64 x.number)∧w'.cell? ⟨b1,o1+j*15+3,none⟩=some (.bool x.cut)∧w'.cell? ⟨b1,o1+j*15+4,none⟩=some (.int .i64 x.before.kind)∧w'.cell? ⟨b1,o1+j*15+5,none⟩=some (.string x.before.name)∧w'.cell? ⟨b1,o1+j*15+6,none⟩=some (.int .i64 x.before.low)∧w'.cell? ⟨b1,o1+j*15+7,none⟩=some (.int .i64 x.before.high)∧w'.cell? ⟨b1,o1+j*15+8,none⟩=some (.slice Ab nb cb)∧w'.cell? ⟨b1,o1+j*15+9,none⟩=some (.int .i64 x.after.kind)∧w'.cell? ⟨b1,o1+j*15+10,none⟩=some (.string x.after.name)∧w'.cell? ⟨b1,o1+j*15+11,none⟩=some (.int .i64 x.after.low)∧w'.cell? ⟨b1,o1+j*15+12,none⟩=some (.int .i64 x.after.high)∧w'.cell? ⟨b1,o1+j*15+13,none⟩=some (.slice Aa na ca)∧w'.cell? ⟨b1,o1+j*15+14,none⟩=some (.int .i64 x.pos)) (first|exact HS6.out _ HB0.out|exact HS6.out _ HBA.out|exact HS6.out _ HB2.out|exact HS6.out _ HB3.out|exact HS6.out _ HB5.out) (first
     | (go_at_call 44;(with_reducible refine (HC.out _ HB0.out).mono ?_);rintro en w2 ⟨V', vA', vn', vc', rA', rn', rc', rfl,hV1,hV2,hv', hr', hrn', hvn', hb2⟩;have HF:=ha_ (cut6_a hV1 hV2 hv' hr' hrn' hvn' HB0.out hb2 HK1.out HOV.out HOB.out);have HB2:=ha_ (HB0.out.trans (hb2.mono HB0.out.size));have HB3:Hid (Below WL.heap.size WL (w2.alloc (.cells #[.slice none 0 0,.slice none 0 0,.slice none 0 0,.slice none 0 0] 36))):=HB2.out.trans ((qa_ _ _).mono HB2.out.size);have HB5:Hid (Below WL.heap.size WL (w2.alloc (.cells #[.slice vA' vn' vc', .slice rA' rn' rc', .slice none 0 0,.slice none 0 0] 36))):=HB2.out.trans ((qa_ _ _).mono HB2.out.size);clear hb2 hV1 hV2 hv' hr' hrn' hvn')
     | (go_at_call 44;(with_reducible refine (HC.out _ HBA.out).mono ?_);rintro en w2 ⟨V', vA', vn', vc', rA', rn', rc', rfl,hV1,hV2,hv', hr', hrn', hvn', hb2⟩;have HF:=ha_ (cut6_b hV1 hV2 hv' hr' hrn' hvn' HBA.out hb2 HK1.out HOV.out HOB.out HLT.out HZA.out);have HB2:=ha_ (HBA.out.trans (hb2.mono HBA.out.size));have HZ8:=ha_ ((hb2.block WL.heap.size HLT.out).trans HZA.out);have HB5:=ha_ (qm_ HB2.out (Nat.le_refl WL.heap.size) (.slice vA' vn' vc') (.slice rA' rn' rc') (.slice none 0 0) (.slice none 0 0));obtain ⟨z0,z1,z2,z3⟩:=qi_ HZ8.out;have fz:=qv_ HZ8.out;clear hb2 hV1 hV2 hv' hr' hrn' hvn'))
    all_goals (go_wp2_with fail;go_meet;exact HF.out)
   case rest =>
    obtain ⟨V', vA', vn', vc', rA', rn', rc', n8,rfl,rfl,HN8,HZ8,HV2,HOV2,HV3,HR3,HRN3,HVN3,HB8⟩:=hcut
    rcases (⟨wc,rfl⟩:∃ W8:World,W8=wc) with ⟨W8,rfl⟩
    have H9:=store9 HB.out HVL2.out.2 HZ2.out HZ5.out HO.out HV2.out HV3.out HR3.out HB8.out (.slice vA' vn' vc') (.slice rA' rn' rc') (.slice none 0 0) (.slice none 0 0)
    obtain ⟨c0,c1,c2,c3⟩:=qi_ HZ8.out
    have hz58:=(HB8.out.block (w.heap.size+1) h5L).trans HZ5.out
    obtain ⟨d0,d1,d2,d3⟩:=qi_ hz58
    have fr:=qv_ hz58
    have hne8:n8≠w.heap.size+1:=by have:=HN8.out;omega
    clear hz58 HC HS6 HBK HZA HLT
    have H9:=ha_ H9
    go_upto_region 10 with fail
    change Code.wp _ _ _ _ (set4 W8 (w.heap.size+1) (.slice vA' vn' vc') (.slice rA' rn' rc') (.slice none 0 0) (.slice none 0 0))
    generalize hW9:set4 W8 (w.heap.size+1) (.slice vA' vn' vc') (.slice rA' rn' rc') (.slice none 0 0) (.slice none 0 0)=W9 at *
    clear hW9 c0 c1 c2 c3 d0 d1 d2 d3 fr HZ8 HV2 HV3 HR3 HB8 HN8 hne8 h5L hbL HB HZ2 HZ5 HVL2 HO HOB HRN HOV HBA HB0
    obtain ⟨k1,k2,k3,k4,k5,k6,k7⟩:=H9.out
    have HZ2:=ha_ k1
    have HZ5:=ha_ k2
    have HVL2:=ha_ k3
    have HV:=ha_ k4
    have HR:=ha_ k5
    have N0:=ha_ k6
    have HB:=ha_ k7
    have HZZ:Hid (w.heap.size+2≤W9.heap.size):=k3.2
    have HI2:Hid (RdI6 W9 (Bl w) (some ⟨b1,o1,none⟩) n c l):=HI.out.keep (fun _ h=>h) (fun p hp=>HB.out.cell hp)
    obtain ⟨b2,o2,y,Ab2,Aa2,nb2,cb2,na2,ca2,hA1,hb2,hy,hr1,hr2,hc1⟩:=HI2.out.got9 hlt
    have hxy:=HX.out.symm.trans hy
    injection hxy with hxy
    injection hA1 with hA1
    injection hA1 with hA1 hA2 _
    subst hxy hA1 hA2
    obtain ⟨s0,s1,s2,s3,s4,s5,s6,s7,s8,s9,s10,s11,s12,s13,s14⟩:=it_cells9 hc1
    have HOWN:Hid (∀ b,ov.ownBlock=some b→w.heap.size+2≤b):=fun b e=>(N0.out.own.block b e).1
    have HFB:Hid (∀ W' : World,W9.grownBy W' ov.ownBlock→∀ b,b<w.heap.size→W'.heap[b]?=W9.heap[b]?):=fun W' h b hb=>h.block b (by have:=HB.out.size;omega) (fun e=>by have:=HOWN.out b e.symm;omega)
    have hkeep:∀ (W' : World),W9.grownBy W' ov.ownBlock→∀ (o:Nat) (v:Value),W9.cell? ⟨b1,o,none⟩=some v→W'.cell? ⟨b1,o,none⟩=some v:=fun W' h o v hv=>(World.cell?_of_block (a:=⟨b1,o,none⟩) (HFB.out W' h b1 hb1')).trans hv
    have HSI:Hid (∀ W' : World,W9.grownBy W' ov.ownBlock→(W'.cell? ⟨b1,o1+j*15+4,none⟩=some (.int .i64 x.before.kind)∧W'.cell? ⟨b1,o1+j*15+5,none⟩=some (.string x.before.name)∧W'.cell? ⟨b1,o1+j*15+6,none⟩=some (.int .i64 x.before.low)∧W'.cell? ⟨b1,o1+j*15+7,none⟩=some (.int .i64 x.before.high)∧W'.cell? ⟨b1,o1+j*15+8,none⟩=some (.slice Ab2 nb2 cb2)∧W'.cell? ⟨b1,o1+j*15+9,none⟩=some (.int .i64 x.after.kind)∧W'.cell? ⟨b1,o1+j*15+10,none⟩=some (.string x.after.name)∧W'.cell? ⟨b1,o1+j*15+11,none⟩=some (.int .i64 x.after.low)∧W'.cell? ⟨b1,o1+j*15+12,none⟩=some (.int .i64 x.after.high)∧W'.cell? ⟨b1,o1+j*15+13,none⟩=some (.slice Aa2 na2 ca2))):=fun W' h=>⟨hkeep W' h _ _ s4,hkeep W' h _ _ s5,hkeep W' h _ _ s6,hkeep W' h _ _ s7,hkeep W' h _ _ s8,hkeep W' h _ _ s9,hkeep W' h _ _ s10,hkeep W' h _ _ s11,hkeep W' h _ _ s12,hkeep W' h _ _ s13⟩
    have HNB:Hid (∀ W' : World,W9.grownBy W' ov.ownBlock→RdN W' (Bl W') Ab2 nb2 cb2 x.before.kids∧RdN W' (Bl W') Aa2 na2 ca2 x.after.kids):=fun W' h=>⟨hr1.keep (fun b hb=>by have:=HB.out.size;have:=h.size;exact Nat.lt_of_lt_of_le hb (by omega)) (fun p hp=>World.cell?_of_block (HFB.out W' h _ hp)),hr2.keep (fun b hb=>by have:=HB.out.size;have:=h.size;exact Nat.lt_of_lt_of_le hb (by omega)) (fun p hp=>World.cell?_of_block (HFB.out W' h _ hp))⟩
    have HM1:Hid (∀ W' : World,W9.grownBy W' ov.ownBlock→Calls Tryz.prog 45 #[.agg #[.int .i64 x.before.kind,.string x.before.name,.int .i64 x.before.low,.int .i64 x.before.high,.slice Ab2 nb2 cb2]] W' (DNmP W' (dNames x.before))):=fun W' h=>dnames_any (by have:=HSZ.out.1;omega) (HNB.out W' h).1
    have HM2:Hid (∀ W' : World,W9.grownBy W' ov.ownBlock→Calls Tryz.prog 45 #[.agg #[.int .i64 x.after.kind,.string x.after.name,.int .i64 x.after.low,.int .i64 x.after.high,.slice Aa2 na2 ca2]] W' (DNmP W' (dNames x.after))):=fun W' h=>dnames_any (by have:=HSZ.out.2;omega) (HNB.out W' h).2
    have hl1:=(names_len 1000).1 x.before HSZ.out.1
    have hl2:=(names_len 1000).1 x.after HSZ.out.2
    have hl3:=HNL.out
    have hl4:=HSZ.out
    have HL1:Hid (nms.length+(dNames x.before).length≤1000000):=by show _≤_;omega
    have HL2:Hid ((nms++dNames x.before).length+(dNames x.after).length≤1000000):=by show _≤_;rw[List.length_append];omega
    have HL3:Hid (((nms++dNames x.before)++dNames x.after).length≤nms.length+2000):=by show _≤_;rw[List.length_append,List.length_append];omega
    have g3:(x.kind != 3)=true:=by rcases HKK.out with h|h <;> rw[h] <;> rfl
    have N00:=N0
    have N0:Hid (NmS W9 ov (w.heap.size+2) W9.drew ov nms):=N00.out.call (qb_ (Below.refl _ _) 1)
    clear k1 k2 k3 k4 k5 k6 k7 H9 hc1 hb2 hy hr1 hr2 hl1 hl2 hl3 hl4 hkeep HK1 HO0 HI2
    go_upto_region 11 with fail
    clear s0
    go_region_held_law (fun w' => w'.cell? ⟨b1,o1+j*15+4,none⟩=some (.int .i64 x.before.kind)∧w'.cell? ⟨b1,o1+j*15+5,none⟩=some (.string x.before.name)∧w'.cell? ⟨b1,o1+j*15+6,none⟩=some (.int .i64 x.before.low)∧w'.cell? ⟨b1,o1+j*15+7,none⟩=some (.int .i64 x.before.high)∧w'.cell? ⟨b1,o1+j*15+8,none⟩=some (.slice Ab2 nb2 cb2)∧w'.cell? ⟨b1,o1+j*15+9,none⟩=some (.int .i64 x.after.kind)∧w'.cell? ⟨b1,o1+j*15+10,none⟩=some (.string x.after.name)∧w'.cell? ⟨b1,o1+j*15+11,none⟩=some (.int .i64 x.after.low)∧w'.cell? ⟨b1,o1+j*15+12,none⟩=some (.int .i64 x.after.high)∧w'.cell? ⟨b1,o1+j*15+13,none⟩=some (.slice Aa2 na2 ca2)) (first|exact HSI.out _ N0.out.gr|exact HSI.out _ N1.out.gr|exact HSI.out _ N2.out.gr|exact HSI.out _ N3.out.gr|exact HSI.out _ NF.out.gr|exact HSI.out _ P2.out.gr|exact HSI.out _ P3.out.gr|exact HSI.out _ M1.out.gr|exact HSI.out _ Q2.out.gr|exact HSI.out _ Q3.out.gr) (first
     | (go_at_call 45;(with_reducible refine (HM1.out _ N0.out.gr).mono ?_);rintro en WN1 ⟨A1,n1,c1,rfl,hr,hb⟩;have N1:=ha_ (N0.out.call hb);have HS1N1:=ha_ (src_new N0.out hr);clear hr hb)
      | ((with_reducible refine qh_ (D:=strD) ?_ (.tmp 42) (.tmp 48) 49 34 rfl rfl Tryz.underlying34 info_str rfl (by decide) (by decide) ?_ N1.out.own ?_ HS1N1.out ?_ ?_ ?_);rfl;rfl;rfl;exact HS1N1.out.few HL1.out;exact Nat.le_trans HZZ.out N1.out.gr.size;intro vN2 WN2 ho hg hv;have N2:=ha_ (N1.out.app ho hg hv);clear ho hg hv)
      | (go_at_call 45;(with_reducible refine (HM2.out _ N2.out.gr).mono ?_);rintro en WN3 ⟨A2,n2,c2,rfl,hr,hb⟩;have N3:=ha_ (N2.out.call hb);have HS2N3:=ha_ (src_new N2.out hr);clear hr hb)
      | ((with_reducible refine qh_ (D:=strD) ?_ (.tmp 49) (.tmp 55) 56 34 rfl rfl Tryz.underlying34 info_str rfl (by decide) (by decide) ?_ N3.out.own ?_ HS2N3.out ?_ ?_ ?_);rfl;rfl;rfl;exact HS2N3.out.few HL2.out;exact Nat.le_trans HZZ.out N3.out.gr.size;intro vNF WNF ho hg hv;have NF:=ha_ (N3.out.app ho hg hv);clear ho hg hv)
      | (go_at_call 45;(with_reducible refine (HM2.out _ N1.out.gr).mono ?_);rintro en WP2 ⟨A2,n2,c2,rfl,hr,hb⟩;have P2:=ha_ (N1.out.call hb);have HS2P2:=ha_ (src_new N1.out hr);have HS1P2:=ha_ (HS1N1.out.call hb);clear hr hb)
      | ((with_reducible refine qh_ (D:=strD) ?_ (.tmp 42) (.tmp 48) 49 34 rfl rfl Tryz.underlying34 info_str rfl (by decide) (by decide) ?_ P2.out.own ?_ HS1P2.out ?_ ?_ ?_);rfl;rfl;rfl;exact HS1P2.out.few HL1.out;exact Nat.le_trans HZZ.out P2.out.gr.size;intro vP3 WP3 ho hg hv;have P3:=ha_ (P2.out.app ho hg hv);have HS2P3:=ha_ (HS2P2.out.app hg hv);clear ho hg hv)
      | ((with_reducible refine qh_ (D:=strD) ?_ (.tmp 49) (.tmp 55) 56 34 rfl rfl Tryz.underlying34 info_str rfl (by decide) (by decide) ?_ P3.out.own ?_ HS2P3.out ?_ ?_ ?_);rfl;rfl;rfl;exact HS2P3.out.few HL2.out;exact Nat.le_trans HZZ.out P3.out.gr.size;intro vNF WNF ho hg hv;have NF:=ha_ (P3.out.app ho hg hv);clear ho hg hv)
      | (go_at_call 45;(with_reducible refine (HM2.out _ N0.out.gr).mono ?_);rintro en WM1 ⟨A2,n2,c2,rfl,hr,hb⟩;have M1:=ha_ (N0.out.call hb);have HS2M1:=ha_ (src_new N0.out hr);clear hr hb)
      | (go_at_call 45;(with_reducible refine (HM1.out _ M1.out.gr).mono ?_);rintro en WQ2 ⟨A1,n1,c1,rfl,hr,hb⟩;have Q2:=ha_ (M1.out.call hb);have HS1Q2:=ha_ (src_new M1.out hr);have HS2Q2:=ha_ (HS2M1.out.call hb);clear hr hb)
      | ((with_reducible refine qh_ (D:=strD) ?_ (.tmp 42) (.tmp 48) 49 34 rfl rfl Tryz.underlying34 info_str rfl (by decide) (by decide) ?_ Q2.out.own ?_ HS1Q2.out ?_ ?_ ?_);rfl;rfl;rfl;exact HS1Q2.out.few HL1.out;exact Nat.le_trans HZZ.out Q2.out.gr.size;intro vQ3 WQ3 ho hg hv;have Q3:=ha_ (Q2.out.app ho hg hv);have HS2Q3:=ha_ (HS2Q2.out.app hg hv);clear ho hg hv)
      | ((with_reducible refine qh_ (D:=strD) ?_ (.tmp 49) (.tmp 55) 56 34 rfl rfl Tryz.underlying34 info_str rfl (by decide) (by decide) ?_ Q3.out.own ?_ HS2Q3.out ?_ ?_ ?_);rfl;rfl;rfl;exact HS2Q3.out.few HL2.out;exact Nat.le_trans HZZ.out Q3.out.gr.size;intro vNF WNF ho hg hv;have NF:=ha_ (Q3.out.app ho hg hv);clear ho hg hv))
    all_goals (
     have HX9:=ha_ (next9 HB.out HZ2.out HZ5.out HVL2.out.1 HV.out HR.out HOV2.out NF.out HOWN.out HZZ.out)
     have HLX:Hid (((nms++dNames x.before)++dNames x.after).length≤2000*(j+1)):=by have:=HL3.out;have:=HNL.out;show _≤_;omega
     clear HZ2 HZ5 HVL2 HV HR HOV2 HL3 HL1 HL2 HSI HFB HOWN HM1 HM2 HNB HB
     go_wp2_with fail
     go_roundw
     case rel =>
      obtain ⟨y1,y2,y3,y4,y5,y6,y7⟩:=HX9.out
      exact ⟨j+1,V', vA', vn', vc', rA', rn', rc', _,by omega,by go_num,y1,y2,y3,y4,y5,HRN3.out,NF.out.own,HLX.out,y6,(fun h=>absurd h (Nat.succ_ne_zero j)),HVN3.out,y7⟩
     case measure=>simp[intOf];omega)
  ·obtain rfl:j=n:=by omega
   have hnn:l.length=j:=HLN.out
   have HNR:Hid (∃ nA nc,ov=.slice nA nms.length nc∧RdG strD WL (fun b=>w.heap.size+2≤b∧b<WL.heap.size) nA nms.length nc nms):=by
    obtain ⟨nA,nc,h1,h2⟩:=(ownS_x (X' := fun _=>False) HO.out).rd
    exact ⟨nA,nc,h1,h2.keep (fun b hb=>⟨hb.2.resolve_left id,hb.1⟩) (fun _ _=>rfl)⟩
   have HVR:Hid (RdG varD WL (fun b=>b<V∧b≠w.heap.size+1) vA vn vc (Vs j)):=vars_not HV.out (book_noInt HZ5.out)
   have HRR:Hid (RdG ruleD WL (fun b=>(b<WL.heap.size∧ov.ownBlock≠some b)∧b≠w.heap.size+1) rA rn rc (Rs j)):=rules_not HR.out (book_noInt HZ5.out)
   have hvn1:vn≤100:=by have h1:=HVL.out;have h2:=HV.out.len;rw[hnn] at h1;omega
   have HVL3:Hid ((Vs j).length=vn):=HV.out.len
   have HU0:Hid (Us w WL vA rA vn vc rn rc none 0 0 [] WL):=⟨HZ2.out,HZ5.out,OwnX.nil _ _ _ _ _,fun _ _ _=>rfl,Nat.le_refl _,HB.out⟩
   obtain ⟨nA,nc,hnv,_⟩:=HNR.out
   subst hnv
   have HNR2:Hid (RdG strD WL (fun b=>w.heap.size+2≤b∧b<WL.heap.size) nA nms.length nc nms):=by
    obtain ⟨nA', nc', h1,h2⟩:=HNR.out
    cases h1
    exact h2
   have h52:w.heap.size+2≤WL.heap.size:=HVL2.out.2
   clear HNR HV HR HO HZ2 HZ5 HB HST HI HNL HOV HO0 HVN HRN HVL hnn
   go_upto_region 13 with fail
   go_wp2_with fail
   go_loopw [10] (fun iv wx=>∃ (i:Nat) (uA:Option Addr) (un uc:Nat) (us:List ByteArray),i≤vn∧iv=.int .i64 i∧Hid (Us w WL vA rA vn vc rn rc uA un uc us wx)∧Hid (un=us.length∧un≤i)) (fun iv _=>vn - (intOf iv).toNat)
   case atStart=>exact ⟨0,none,0,0,[],by omega,rfl,HU0.out,rfl,Nat.le_refl _⟩
   case round =>
    obtain ⟨i,uA,un,uc,us,hi,rfl,HU,HUL⟩:=hrel
    rcases (⟨wr,rfl⟩:∃ WK:World,WK=wr) with ⟨WK,rfl⟩
    clear HU0
    by_cases hlt2:i<vn
    ·have hi0:(0:Int)≤(i:Int):=by omega
     have hi1:(i:Int)<(vn:Int):=by omega
     have HVK:Hid (RdG varD WK (fun b=>b<V∧b≠w.heap.size+1) vA vn vc (Vs j)):=HVR.out.keep (fun _ h=>h) (fun p hp=>World.cell?_of_block (HU.out.old _ (Nat.lt_of_lt_of_le hp.1 HVL2.out.1) hp.2))
     have HNK:Hid (RdG strD WK (Bl WK) nA nms.length nc nms):=HNR2.out.keep (fun b h=>Nat.lt_of_lt_of_le h.2 HU.out.size) (fun p hp=>World.cell?_of_block (HU.out.old _ hp.2 (by have:=hp.1;omega)))
     obtain ⟨bv,ov9,y,cs,eA,hbv,hy,hat,hc⟩:=HVK.out.got hlt2
     subst eA
     obtain ⟨_,_,_,_,_,_,_,_,_,_,v0,_⟩:=var_cells hat hc
     have hd:varD.k=7:=rfl
     rw[hd] at v0
     obtain ⟨d0,d1,d2,d3⟩:=qi_ HU.out.n5
     have HC:=ha_ (dhas_any HNK.out y.name)
     have HBV:Hid (bv<WL.heap.size∧bv≠w.heap.size+1):=⟨Nat.lt_of_lt_of_le hbv.1 HVL2.out.1,hbv.2⟩
     have HCV:Hid (WK.cell? ⟨bv,ov9+i*7,none⟩=some (.string y.name)):=v0
     clear hy hat hc hbv HVK
     go_wp2_with fail
     refine HC.out.mono ?_
     rintro en w2 ⟨rfl,hb2⟩
     have HU2:=ha_ (HU.out.on h52 hb2)
     have HCV2:Hid (w2.cell? ⟨bv,ov9+i*7,none⟩=some (.string y.name)):=(hb2.cell (p:=⟨bv,_,none⟩) (Nat.lt_of_lt_of_le HBV.out.1 HU.out.size)).trans HCV.out
     clear hb2 HC HU HCV v0 d0 d1 d2 d3 HNK
     cases hT:hasT nms y.name with
     | false =>
      go_wp2_with fail
      go_roundw
      case rel=>exact ⟨i+1,uA,un,uc,us,by omega,by go_num,HU2.out,HUL.out.1,Nat.le_succ_of_le HUL.out.2⟩
      case measure=>simp[intOf];omega
     | true =>
      have HBD:Hid (Below w2.heap.size w2 w2.drew):=qb_ (Below.refl _ _) 1
      have HU3:=ha_ (HU2.out.on h52 HBD.out)
      have HS16:Hid (∀ W', Us w WL (some ⟨bv,ov9,none⟩) rA vn vc rn rc uA un uc us W' → W'.cell? ⟨bv,ov9+i*7,none⟩=some (.string y.name)→H16 (w.heap.size+1) bv (ov9+i*7) (some ⟨bv,ov9,none⟩) vn vc uA un uc y.name W'):=fun W' h hc=>by
       obtain ⟨d0,d1,d2,d3⟩:=qi_ h.n5
       exact ⟨d0,d3,hc⟩
      have SS:H16 (w.heap.size+1) bv (ov9+i*7) (some ⟨bv,ov9,none⟩) vn vc uA un uc y.name w2.drew:=HS16.out _ HU3.out HCV2.out
      go_upto_region 16 with fail
      refine qw_ (H16 (w.heap.size+1) bv (ov9+i*7) (some ⟨bv,ov9,none⟩) vn vc uA un uc y.name) 11 12 (by kernel_rfl) rfl ?_
      refine qc_ 0 (v:=.pointer (some ⟨w.heap.size+1,3,none⟩)) rfl (by kernel_rfl) (by kernel_rfl) (by kernel_rfl) (by kernel_rfl) (fun _ _ _ h=>h) SS rfl (fun w' hS=>?_) ?_
      ·obtain ⟨t0,t1,t2⟩:=hS;go_simp
      refine qc_ 1 (v:=.slice uA un uc) rfl (by kernel_rfl) (by kernel_rfl) (by kernel_rfl) (by kernel_rfl) (fun _ _ _ h=>h) SS rfl (fun w' hS=>?_) ?_
      ·obtain ⟨t0,t1,t2⟩:=hS;go_simp
      refine qc_ 2 (v:=.pointer (some ⟨w.heap.size+1,0,none⟩)) rfl (by kernel_rfl) (by kernel_rfl) (by kernel_rfl) (by kernel_rfl) (fun _ _ _ h=>h) SS rfl (fun w' hS=>?_) ?_
      ·obtain ⟨t0,t1,t2⟩:=hS;go_simp
      refine qc_ 3 (v:=.slice (some ⟨bv,ov9,none⟩) vn vc) rfl (by kernel_rfl) (by kernel_rfl) (by kernel_rfl) (by kernel_rfl) (fun _ _ _ h=>h) SS rfl (fun w' hS=>?_) ?_
      ·obtain ⟨t0,t1,t2⟩:=hS;go_simp
      refine qc_ 4 (v:=.int .i64 i) rfl (by kernel_rfl) (by kernel_rfl) (by kernel_rfl) (by kernel_rfl) (fun _ _ _ h=>h) SS rfl (fun w' hS=>?_) ?_
      ·obtain ⟨t0,t1,t2⟩:=hS;go_simp
      refine qc_ 5 (v:=.pointer (some ⟨bv,ov9+i*7,none⟩)) rfl (by kernel_rfl) (by kernel_rfl) (by kernel_rfl) (by kernel_rfl) (fun _ _ _ h=>h) SS rfl (fun w' hS=>?_) ?_
      ·obtain ⟨t0,t1,t2⟩:=hS;go_simp
      refine qc_ 6 (v:=.pointer (some ⟨bv,ov9+i*7,none⟩)) rfl (by kernel_rfl) (by kernel_rfl) (by kernel_rfl) (by kernel_rfl) (fun _ _ _ h=>h) SS rfl (fun w' hS=>?_) ?_
      ·obtain ⟨t0,t1,t2⟩:=hS;go_simp
      refine qc_ 7 (v:=.string y.name) rfl (by kernel_rfl) (by kernel_rfl) (by kernel_rfl) (by kernel_rfl) (fun _ _ _ h=>h) SS rfl (fun w' hS=>?_) ?_
      ·obtain ⟨t0,t1,t2⟩:=hS;go_simp
      refine zk_ 8 rfl (by kernel_rfl) rfl ?_
      go_simp
      generalize hW3:(w2.alloc (.cells #[.string y.name] 9)).drew=W3
      have hB3:Below w2.heap.size w2 W3:=by rw[← hW3];exact (qa_ w2 _).drew
      have hN3:W3.heap[w2.heap.size]?=some (.cells #[.string y.name] 9 (0,0)):=by rw[← hW3];exact heap_alloc_new w2 _
      have HU4:=ha_ (HU2.out.on h52 hB3)
      have hlt3:w2.heap.size<W3.heap.size:=by
       rcases Nat.lt_or_ge w2.heap.size W3.heap.size with h|h
       ·exact h
       ·rw[Array.getElem?_eq_none h] at hN3;cases hN3
      have HCV4:Hid (W3.cell? ⟨bv,ov9+i*7,none⟩=some (.string y.name)):=(hB3.cell (p:=⟨bv,_,none⟩) (Nat.lt_of_lt_of_le HBV.out.1 HU2.out.size)).trans HCV2.out
      have HNW:Hid (RdG strD W3 (fun b=>b<W3.heap.size∧True∧(Value.slice uA un uc).ownBlock≠some b) (some ⟨w2.heap.size,0,none⟩) 1 1 [y.name]):=RdG.one hN3 rfl ⟨hlt3,trivial,fun e=>by have:=(HU2.out.own.block _ e).2;omega⟩
      clear hW3
      refine ⟨HS16.out _ HU4.out HCV4.out,?_⟩
      refine zk_ 9 rfl (by kernel_rfl) rfl ?_
      refine wp_app_x (D:=strD) (X:=fun _=>True) (.tmp 73) (.tmp 80) 34 rfl Tryz.underlying34 info_str rfl (by decide) (by decide) rfl HU4.out.own rfl HNW.out (by have:=HUL.out;omega) HU4.out.size ?_
      intro v5 w5 ho5 hg5 hv5
      have hl5:(us++[y.name]).length=un+1:=by rw[List.length_append,List.length_singleton,← HUL.out.1]
      have HO5:=ha_ ho5
      obtain ⟨uA5,uc5,e5,_⟩:=ho5.rd
      rw[hl5] at e5
      subst e5
      have HU5:=ha_ (HU4.out.put h52 HO5.out hg5)
      have HRW:Hid (w5.heap[w.heap.size+1]?=some (.cells #[.slice (some ⟨bv,ov9,none⟩) vn vc,.slice rA rn rc,.slice none 0 0,.slice uA un uc] 36 (0,0))):=(hg5.block _ (by have:=HU4.out.size;omega) (fun e=>by have:=(HU4.out.own.block _ e.symm).1;omega)).trans HU4.out.n5
      have S5:H16 (w.heap.size+1) bv (ov9+i*7) (some ⟨bv,ov9,none⟩) vn vc uA un uc y.name w5:=by
       obtain ⟨d0,d1,d2,d3⟩:=qi_ HRW.out
       exact ⟨d0,d3,(World.cell?_of_block (a:=⟨bv,_,none⟩) (hg5.block bv (by have:=HU4.out.size;have:=HBV.out.1;omega) (fun e=>by have:=(HU4.out.own.block _ e.symm).1;have:=HBV.out.1;omega))).trans HCV4.out⟩
      refine ⟨fun _=>S5,?_⟩
      have fr5:=qv_ HRW.out
      obtain ⟨d0,d1,d2,d3⟩:=qi_ HRW.out
      clear ho5 hg5 hv5
      refine qc_ 10 (v:=.pointer (some ⟨w.heap.size+1,3,none⟩)) rfl (by kernel_rfl) (by kernel_rfl) (by kernel_rfl) (by kernel_rfl) (fun _ _ _ h=>h) S5 rfl (fun w' hS=>?_) ?_
      ·obtain ⟨t0,t1,t2⟩:=hS;go_simp
      refine zk_ 11 rfl (by kernel_rfl) rfl ?_
      go_simp
      refine Z_done (by kernel_rfl) ?_
      unfold OnlyN
      simp only[]
      have HUX:Hid ((un+1)=(us++[y.name]).length∧un+1≤i+1):=⟨hl5.symm,by have:=HUL.out.2;omega⟩
      clear d0 d1 d2 d3 fr5 S5 SS HRW HO5 HU4 HCV4 HNW HS16 HU3 HU2 hl5
      generalize hW6:w5.setCell ⟨w.heap.size+1,3,none⟩ (.slice uA5 (un+1) uc5)=W6 at *
      go_wp2_with fail
      go_roundw
      case rel=>exact ⟨i+1,uA5,un+1,uc5,_,by omega,by go_num,HU5.out,HUX.out⟩
      case measure=>simp[intOf];omega
    ·obtain rfl:i=vn:=by omega
     have HF:Hid (BuildP w (Vs l.length) (Rs l.length) (.returned (.tuple #[.agg #[.slice vA i vc,.slice rA rn rc,.slice none 0 0,.slice uA un uc],.int .i64 (-1),.int .i64 0])) (set4 WK w.heap.size (.slice vA i vc) (.slice rA rn rc) (.slice none 0 0) (.slice uA un uc))):=by
      show BuildP w (Vs l.length) (Rs l.length) _ _
      rw[show l.length=j from HLN.out]
      have hs:=HU.out.size
      have hz:=book_noInt HU.out.n2
      have hvv:RdG varD WK (fun b=>b<V∧b≠w.heap.size+1) vA i vc (Vs j):=HVR.out.keep (fun _ h=>h) (fun p hp=>World.cell?_of_block (HU.out.old _ (Nat.lt_of_lt_of_le hp.1 HVL2.out.1) hp.2))
      have hrr:RdG ruleD WK (fun b=>(b<WL.heap.size∧(Value.slice nA nms.length nc).ownBlock≠some b)∧b≠w.heap.size+1) rA rn rc (Rs j):=HRR.out.keep (fun _ h=>h) (fun p hp=>World.cell?_of_block (HU.out.old _ hp.1.1 hp.2))
      obtain ⟨uA', uc', e1,hu⟩:=(ownS_x (X' := fun _=>False) HU.out.own).rd
      injection e1 with e1 e2 e3
      subst e1 e3
      rw[← e2] at hu
      have hVs:=HVL2.out.1
      refine ⟨vA,i,vc,rA,rn,rc,uA,un,uc,us,rfl,(vars_not hvv hz).keep (fun b h=>?_) (fun p hp=>qn_ _ _ _ _ _ hp.2),(rules_not hrr hz).keep (fun b h=>?_) (fun p hp=>qn_ _ _ _ _ _ hp.2),hu.keep (fun b h=>?_) (fun p hp=>qn_ _ _ _ _ _ ?_),?_,qm_ HU.out.below (Nat.le_refl _) _ _ _ _⟩
      ·show b<_
       rw[qg_];have:=h.1.1;omega
      ·show b<_
       rw[qg_];have:=h.1.1.1;omega
      ·show b<_
       rw[qg_];exact h.1
      ·have:=hp.2.resolve_left id;omega
      ·have:=HUL.out.2;have:=HVL3.out;omega
     have HQQ:=ha_ (qx_ HU.out.n2 (.slice vA i vc) (.slice rA rn rc) (.slice none 0 0) (.slice uA un uc))
     have fr:=qv_ HU.out.n2
     obtain ⟨q0,q1,q2,q3⟩:=qi_ HU.out.n2
     obtain ⟨d0,d1,d2,d3⟩:=qi_ HU.out.n5
     have hne:w.heap.size+1≠w.heap.size:=by omega
     clear HU HVR HRR HNR2 HUL HVL2 HVL3 HE0
     go_wp2_with fail
     change bodyPost _ _ _ _ _ (set4 WK w.heap.size (.slice vA i vc) (.slice rA rn rc) (.slice none 0 0) (.slice uA un uc))
     generalize hW9:set4 WK w.heap.size (.slice vA i vc) (.slice rA rn rc) (.slice none 0 0) (.slice uA un uc)=W9 at *
     exact bodyPost_ret (results_ctt (a:=2) (u:=3) (s:=4) rfl (Tryz.isAgg36 _) (Tryz.sizeOf36 _) _ rfl HQQ.out) rfl HF.out
end Go.Proofs.YtbbmjdddemahfaaGreat
