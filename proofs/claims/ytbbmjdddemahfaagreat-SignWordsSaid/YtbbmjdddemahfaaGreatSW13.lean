/- Part of the proof. -/
import Derived.Test.YtbbmjdddemahfaaGreatSW12
import Derived.Test.YtbbmjdddemahfaaGreatSW01
import Derived.Test.YtbbmjdddemahfaaGreatSW05
set_option maxRecDepth 100000
namespace Go.Proofs.YtbbmjdddemahfaaGreat
open Go.RowKit
open M (Rg)
open Y (Nd It)

theorem za_:(Tryz.prog.info? 49).map (fun i=>(i.zero,i.size,i.bytes))=some (some (.agg #[.int .i64 0,.bool false,.int .i64 0,.slice none 0 0,.slice none 0 0,.slice none 0 0,.int .i64 0,.slice none 0 0,.slice none 0 0,.slice none 0 0,.int .i64 0]),11,184):=by kernel_rfl
theorem dcells11 {w:World}{N:Nat}{x0 x1 x2 x3 x4 x5 x6 x7 x8 x9 x10:Value}{t:TypeId}(h:w.heap[N]?=some (.cells #[x0,x1,x2,x3,x4,x5,x6,x7,x8,x9,x10] t (0,0))) :
  w.cell? ⟨N,0,none⟩=some x0∧w.cell? ⟨N,1,none⟩=some x1∧w.cell? ⟨N,2,none⟩=some x2∧w.cell? ⟨N,3,none⟩=some x3∧w.cell? ⟨N,4,none⟩=some x4∧w.cell? ⟨N,5,none⟩=some x5∧w.cell? ⟨N,6,none⟩=some x6∧w.cell? ⟨N,7,none⟩=some x7∧w.cell? ⟨N,8,none⟩=some x8∧w.cell? ⟨N,9,none⟩=some x9∧w.cell? ⟨N,10,none⟩=some x10:=by
 refine ⟨?_,?_,?_,?_,?_,?_,?_,?_,?_,?_,?_⟩ <;> (rw[cell_of_row _ _ _ _ _ _ h];rfl)
def UpR (l:List Rl) (r:Rl) (j:Nat):Prop:=∀ (i:Nat) (x:Rl),i<j→l[i]?=some x→decide (x.number<r.number)=true
theorem put_at {l:List Rl}{r:Rl}{j:Nat}(h:UpR l r j) (hj:j≤l.length) (hs:∀ x,l[j]?=some x→decide (x.number<r.number)=false):rlPut l r=l.take j++([r]++l.drop j):=by
 unfold rlPut
 have:∀ (l:List Rl) (j:Nat),UpR l r j→j≤l.length→(∀ x,l[j]?=some x→decide (x.number<r.number)=false)→l.takeWhile (fun x=>decide (x.number<r.number))=l.take j∧l.dropWhile (fun x=>decide (x.number<r.number))=l.drop j:=by
  intro l
  induction l with
  | nil=>intro j _ _ _;simp
  | cons y t ih =>
   intro j h hj hs
   cases j with
   | zero =>
    have:=hs y rfl
    rw[List.takeWhile_cons,List.dropWhile_cons,this]
    exact ⟨rfl,rfl⟩
   | succ j =>
    have h0:=h 0 y (by omega) rfl
    obtain ⟨e1,e2⟩:=ih j (fun i x hi hx=>h (i+1) x (by omega) hx) (by simpa using hj) (fun x hx=>hs x hx)
    rw[List.takeWhile_cons,List.dropWhile_cons,h0,List.take_succ_cons,List.drop_succ_cons]
    exact ⟨by simp[e1],by simp[e2]⟩
 obtain ⟨e1,e2⟩:=this l j h hj hs
 rw[e1,e2]
 rfl
theorem rd_src {S X:Nat→Prop}{W1 W' : World}(hS:∀ b,S b→b<W1.heap.size) (hX:∀ b,S b→X b){A:Option Addr}{n c j:Nat}{l:List Rl}(h:RdG ruleD W1 S A n c l) (hb:Below W1.heap.size W1 W'){v:Value}(hv:∀ b,v.ownBlock=some b→W1.heap.size≤b) (hj:j≤n):RdG ruleD W' (fun b=>b<W'.heap.size∧X b∧v.ownBlock≠some b) A j c (l.take j) :=
 (h.take hj).keep (fun b hbl=>⟨Nat.lt_of_lt_of_le (hS b hbl) hb.size,hX b hbl,fun e=>absurd (hv b e) (Nat.not_le.2 (hS b hbl))⟩) (fun _ hp=>hb.cell (hS _ hp))
theorem RdG.drop {α:Type}{D:Rdr α}{w:World}{S:Nat→Prop}{A A' : Option Addr}{n c j:Nat}{l:List α}(h:RdG D w S A n c l) (hj:j≤n) (hA:∀ b o,j<n→A=some ⟨b,o,none⟩→A' = some ⟨b,o+j*D.k,none⟩):RdG D w S A' (n - j) (c - j) (l.drop j):=by
 obtain ⟨h1,h2,h3,cs,h4,h5⟩:=h
 refine ⟨by rw[List.length_drop,h1],by omega,by omega,fun i=>cs (j+i),fun hn=>?_,fun i x hx=>h5 (j+i) x (by rw[List.getElem?_drop] at hx;exact hx)⟩
 obtain ⟨b,off,e,hb,hc⟩:=h4 (by omega)
 refine ⟨b,off+j*D.k,hA b off (by omega) e,hb,fun i hi t u hu=>?_⟩
 have:=hc (j+i) (by omega) t u hu
 rw[Nat.add_mul] at this
 rw[show off+j*D.k+(i*D.k+t)=off+(j*D.k+i*D.k+t) by omega]
 exact this
theorem rd_src2 {S X:Nat→Prop}{W1 W' : World}(hS:∀ b,S b→b<W1.heap.size) (hX:∀ b,S b→X b){A A' : Option Addr}{n c j:Nat}{l:List Rl}(h:RdG ruleD W1 S A n c l) (hb:Below W1.heap.size W1 W'){v:Value}(hv:∀ b,v.ownBlock=some b→W1.heap.size≤b) (hj:j≤n) (hA:∀ b o,j<n→A=some ⟨b,o,none⟩→A' = some ⟨b,o+j*11,none⟩):RdG ruleD W' (fun b=>b<W'.heap.size∧X b∧v.ownBlock≠some b) A' (n - j) (c - j) (l.drop j) :=
 (h.drop hj hA).keep (fun b hbl=>⟨Nat.lt_of_lt_of_le (hS b hbl) hb.size,hX b hbl,fun e=>absurd (hv b e) (Nat.not_le.2 (hS b hbl))⟩) (fun _ hp=>hb.cell (hS _ hp))
theorem rrd_one {S X:Nat→Prop}{w0 W' : World}(hS:∀ b,S b→b<w0.heap.size) (hX:∀ b,S b→X b){N:Nat}(hXN:X N){ns:Array Value}{te:TypeId}{r:Rl}(hrow:W'.heap[N]?=some (.cells ns te (0,0))) (hr:ruleD.at_ w0 S ns.toList r) (hb:Below w0.heap.size w0 W'){v:Value}(hv:∀ b,v.ownBlock=some b→w0.heap.size≤b) (hne:¬ v.ownBlock=some N):RdG ruleD W' (fun b=>b<W'.heap.size∧X b∧v.ownBlock≠some b) (some ⟨N,0,none⟩) 1 1 [r]:=by
 refine RdG.one hrow (ruleD.keep hr (fun b hbl=>⟨Nat.lt_of_lt_of_le (hS b hbl) hb.size,hX b hbl,fun e=>absurd (hv b e) (Nat.not_le.2 (hS b hbl))⟩) (fun _ hp=>hb.cell (hS _ hp))) ⟨?_,hXN,hne⟩
 rcases Nat.lt_or_ge N W'.heap.size with hlt|hge
 ·exact hlt
 ·rw[Array.getElem?_eq_none hge] at hrow;cases hrow
theorem p26A {S X:Nat→Prop}{W4 w w5:World}(hS:∀ b,S b→b<w.heap.size) (hX:∀ b,S b→X b) (hXN:∀ b,w.heap.size≤b→X b){T:TypeId}{LIT:Array Value}{v5:Value}{l1:List Rl}{r:Rl}(hr:ruleD.at_ w S LIT.toList r) (hbw:Below w.heap.size w W4) (ho:OwnX ruleD X T w5 W4.heap.size v5 l1) (hb:Below W4.heap.size W4 w5) :
  OwnX ruleD X T (w5.alloc (.cells LIT T)) W4.heap.size v5 l1∧Below W4.heap.size W4 (w5.alloc (.cells LIT T))∧RdG ruleD (w5.alloc (.cells LIT T)) (fun b=>b<(w5.alloc (.cells LIT T)).heap.size∧X b∧v5.ownBlock≠some b) (some ⟨w5.heap.size,0,none⟩) 1 1 [r]:=by
 have hb2:Below W4.heap.size W4 (w5.alloc (.cells LIT T)):=hb.trans ((qa_ _ _).mono hb.size)
 refine ⟨ho.on (qa_ _ _),hb2,rrd_one hS hX (hXN _ (Nat.le_trans hbw.size hb.size)) (heap_alloc_new _ _) hr (hbw.trans (hb2.mono hbw.size)) (fun b e=>Nat.le_trans hbw.size (ho.block b e).1) fun e=>?_⟩
 exact absurd (ho.block _ e).2 (by omega)
theorem p26N {S X:Nat→Prop}{W4 w W w5:World}(hS:∀ b,S b→b<w.heap.size) (hX:∀ b,S b→X b) (hXN:∀ b,w.heap.size≤b→X b){T:TypeId}{N:Nat}{LIT:Array Value}{v v5:Value}{l1:List Rl}{r:Rl}(hr:ruleD.at_ w S LIT.toList r) (hbw:Below w.heap.size w W4) (hrow:W.heap[N]?=some (.cells LIT T (0,0))) (hN:N<W.heap.size) (hNw:w.heap.size≤N) (hv:¬ v.ownBlock=some N) (hg:W.grownBy w5 v.ownBlock) (hv5:v5.ownBlock=v.ownBlock∨v5.ownBlock=some W.heap.size) (ho:OwnX ruleD X T w5 W4.heap.size v5 l1) (hb:Below W4.heap.size W4 w5) :
  RdG ruleD w5 (fun b=>b<w5.heap.size∧X b∧v5.ownBlock≠some b) (some ⟨N,0,none⟩) 1 1 [r] :=
 rrd_one hS hX (hXN _ hNw) ((hg.block N hN (fun e=>hv e.symm)).trans hrow) hr (hbw.trans (hb.mono hbw.size)) (fun b e=>Nat.le_trans hbw.size (ho.block b e).1) fun e=>by
  rcases hv5 with h|h
  ·exact hv (h ▸ e)
  ·rw[h] at e;have:=Option.some.inj e;omega
def DPtP (S:Nat→Prop) (w:World) (L:List Rl) (e:Ending) (w' : World):Prop:=∃ A n c,e=.returned (.slice A n c)∧RdG ruleD w' (fun b=>S b∨(w.heap.size≤b∧b<w'.heap.size)) A n c L∧Below w.heap.size w w'
set_option maxHeartbeats 8000000 in
theorem dput9_any {S:Nat→Prop}{l:List Rl}{r:Rl}(h30:l.length≤30){w:World}(hS:∀ b,S b→b<w.heap.size){A:Option Addr}{n c:Nat}(h:RdG ruleD w S A n c l) (hnil:n=0→A=none∧c=0){sA gA A1 tA hA A2:Option Addr}{sn sc gn gc n1 c1 tn tc hn2 hc2 n2 c2:Nat}{kb ka:Int}
  (hb:PtAt w S [.int .i64 kb,.slice sA sn sc,.slice gA gn gc,.slice A1 n1 c1] r.before) (ha:PtAt w S [.int .i64 ka,.slice tA tn tc,.slice hA hn2 hc2,.slice A2 n2 c2] r.after) :
  Calls Tryz.prog 69 #[.slice A n c,.agg #[.int .i64 r.number,.bool r.cut,.int .i64 kb,.slice sA sn sc,.slice gA gn gc,.slice A1 n1 c1,.int .i64 ka,.slice tA tn tc,.slice hA hn2 hc2,.slice A2 n2 c2,.int .i64 r.pos]] w (DPtP S w (rlPut l r)):=by
 have hn:=h.len
 have hsm:=h.small
 have HP:=ha_ (qa_ w (.cells #[.int .i64 r.number,.bool r.cut,.int .i64 kb,.slice sA sn sc,.slice gA gn gc,.slice A1 n1 c1,.int .i64 ka,.slice tA tn tc,.slice hA hn2 hc2,.slice A2 n2 c2,.int .i64 r.pos] 49))
 have HROW:=ha_ (heap_alloc_new w (.cells #[.int .i64 r.number,.bool r.cut,.int .i64 kb,.slice sA sn sc,.slice gA gn gc,.slice A1 n1 c1,.int .i64 ka,.slice tA tn tc,.slice hA hn2 hc2,.slice A2 n2 c2,.int .i64 r.pos] 49))
 have HSS:=ha_ hS
 have HG:=ha_ (h.keep (w' := _) (fun _ hb=>hb) (fun p hp=>HP.out.cell (hS _ hp)))
 have HR:Hid (ruleD.at_ w S [.int .i64 r.number,.bool r.cut,.int .i64 kb,.slice sA sn sc,.slice gA gn gc,.slice A1 n1 c1,.int .i64 ka,.slice tA tn tc,.slice hA hn2 hc2,.slice A2 n2 c2,.int .i64 r.pos] r):=⟨_,_,rfl,hb,ha⟩
 have HSZ:Hid (w.heap.size<(w.alloc (.cells #[.int .i64 r.number,.bool r.cut,.int .i64 kb,.slice sA sn sc,.slice gA gn gc,.slice A1 n1 c1,.int .i64 ka,.slice tA tn tc,.slice hA hn2 hc2,.slice A2 n2 c2,.int .i64 r.pos] 49)).heap.size):=by show _<_;simp
 clear h hb ha hS
 go_enter Tryz.func69,Tryz.ntmps69
 go_upto_region 1 with fail
 generalize hW1:w.alloc (.cells #[.int .i64 r.number,.bool r.cut,.int .i64 kb,.slice sA sn sc,.slice gA gn gc,.slice A1 n1 c1,.int .i64 ka,.slice tA tn tc,.slice hA hn2 hc2,.slice A2 n2 c2,.int .i64 r.pos] 49)=W1 at *
 clear hW1
 have HS1:Hid (∀ b,S b→b<W1.heap.size):=fun b hb=>Nat.lt_of_lt_of_le (HSS.out b hb) (Nat.le_of_lt HSZ.out)
 have HSX:Hid (∀ b,S b→(S b∨w.heap.size≤b)):=fun b hb=>.inl hb
 have HSN:Hid (∀ b,w.heap.size≤b→(S b∨w.heap.size≤b)):=fun b hb=>.inr hb
 go_wp2_with fail
 go_loopw [5] (fun iv wx=>∃ j:Nat,j≤n∧iv=.int .i64 j∧Hid (UpR l r j)∧Hid (Below W1.heap.size W1 wx)) (fun iv _=>n - (intOf iv).toNat)
 case atStart=>exact ⟨0,by omega,rfl,fun i x hi=>absurd hi (by omega),Below.refl _ _⟩
 case round =>
  obtain ⟨j,hj,rfl,HU,HB⟩:=hrel
  rcases (⟨wr,rfl⟩:∃ WL:World,WL=wr) with ⟨WL,rfl⟩
  obtain ⟨r0,r1,r2,r3,r4,r5,r6,r7,r8,r9,r10⟩:=dcells11 ((HB.out.block w.heap.size HSZ.out).trans HROW.out)
  by_cases hlt:j<n
  ·obtain ⟨b1,o1,x,cs,eA,hb1,hx,hat,hc⟩:=(HG.out.keep (S' := S) (fun _ hb=>hb) (fun p hp=>HB.out.cell (HS1.out _ hp))).got hlt
   subst eA
   have s0:=rule_cells hat hc
   have hd:ruleD.k=11:=rfl
   rw[hd] at s0
   have HX:=ha_ hx
   have hj0:(0:Int)≤(j:Int):=by omega
   have hj1:(j:Int)<(n:Int):=by omega
   have g1:decide ((j:Int)<(n:Int))=true:=decide_eq_true hj1
   clear hx hat hc hb1
   cases hT:decide (x.number<r.number) with
   | true =>
    have HU2:Hid (UpR l r (j+1)):=fun i y hi hy=>by
     by_cases hij:i<j
     ·exact HU.out i y hij hy
     ·obtain rfl:i=j:=by omega
      have e:=HX.out.symm.trans hy
      injection e with e
      exact e ▸ hT
    have HB2:Hid (Below W1.heap.size W1 WL.drew):=qb_ HB.out 1
    clear r1 r2 r3 r4 r5 r6 r7 r8 r9 r10 HU HX HB
    go_wp2_with fail
    go_region
    go_wp2_with fail
    go_roundw
    case rel=>exact ⟨j+1,by omega,by go_num,HU2.out,HB2.out⟩
    case measure=>simp[intOf];omega
   | false =>
    have HE:Hid (rlPut l r=l.take j++([r]++l.drop j)):=put_at HU.out (by omega) fun y hy=>by
     have e:=HX.out.symm.trans hy
     injection e with e
     exact e ▸ hT
    have HB2:Hid (Below W1.heap.size W1 WL.drew):=qb_ HB.out 1
    clear HU HX HB
    go_wp2_with fail
    go_region
    generalize hW4:WL.drew=W4 at *
    clear hW4 g1 hT s0 r0 r1 r2 r3 r4 r5 r6 r7 r8 r9 r10
    go_wp2_with fail
    have hcap:n≤c:=HG.out.cap
    have hc64:c≤9223372036854775807:=by have h2:=HG.out.capm;unfold maxLen at h2;omega
    have HBW4:Hid (Below w.heap.size w W4):=HP.out.trans (HB2.out.mono HP.out.size)
    have HS:Hid (∀ w', Below W4.heap.size W4 w' → w'.cell? ⟨w.heap.size,0,none⟩=some (.int .i64 r.number)∧w'.cell? ⟨w.heap.size,1,none⟩=some (.bool r.cut)∧w'.cell? ⟨w.heap.size,2,none⟩=some (.int .i64 kb)∧w'.cell? ⟨w.heap.size,3,none⟩=some (.slice sA sn sc)∧w'.cell? ⟨w.heap.size,4,none⟩=some (.slice gA gn gc)∧w'.cell? ⟨w.heap.size,5,none⟩=some (.slice A1 n1 c1)∧w'.cell? ⟨w.heap.size,6,none⟩=some (.int .i64 ka)∧w'.cell? ⟨w.heap.size,7,none⟩=some (.slice tA tn tc)∧w'.cell? ⟨w.heap.size,8,none⟩=some (.slice hA hn2 hc2)∧w'.cell? ⟨w.heap.size,9,none⟩=some (.slice A2 n2 c2)∧w'.cell? ⟨w.heap.size,10,none⟩=some (.int .i64 r.pos)):=fun w' h=>dcells11 ((h.block w.heap.size (Nat.lt_of_lt_of_le HSZ.out HB2.out.size)).trans ((HB2.out.block w.heap.size HSZ.out).trans HROW.out))
    have HBA:Hid (Below W4.heap.size W4 (W4.alloc (.cells #[] 49)).drew):=qb_ (qa_ _ _) 1
    have HBE:Hid (Below W4.heap.size W4 (W4.alloc (.cells #[.int .i64 r.number,.bool r.cut,.int .i64 kb,.slice sA sn sc,.slice gA gn gc,.slice A1 n1 c1,.int .i64 ka,.slice tA tn tc,.slice hA hn2 hc2,.slice A2 n2 c2,.int .i64 r.pos] 49)).drew):=qb_ (qa_ _ _) 1
    have HBC:Hid (Below W4.heap.size W4 ((W4.alloc (.cells #[] 49)).alloc (.cells #[.int .i64 r.number,.bool r.cut,.int .i64 kb,.slice sA sn sc,.slice gA gn gc,.slice A1 n1 c1,.int .i64 ka,.slice tA tn tc,.slice hA hn2 hc2,.slice A2 n2 c2,.int .i64 r.pos] 49)).drew):=qb_ ((qa_ _ _).trans ((qa_ _ _).mono (by simp))) 1
    have HBD:Hid (Below W4.heap.size W4 ((W4.alloc (.cells #[.int .i64 r.number,.bool r.cut,.int .i64 kb,.slice sA sn sc,.slice gA gn gc,.slice A1 n1 c1,.int .i64 ka,.slice tA tn tc,.slice hA hn2 hc2,.slice A2 n2 c2,.int .i64 r.pos] 49)).alloc (.cells #[] 49)).drew):=qb_ ((qa_ _ _).trans ((qa_ _ _).mono (by simp))) 1
    have HB0:Hid (Below W4.heap.size W4 W4.drew):=qb_ (Below.refl _ _) 1
    have HOA:Hid (OwnX ruleD (fun b=>S b∨w.heap.size≤b) 49 (W4.alloc (.cells #[] 49)).drew W4.heap.size (.slice (some ⟨W4.heap.size,0,none⟩) 0 0) []):=(qz_ ruleD _ W4 W4.heap.size 49 (Nat.le_refl _) (by decide)).on (qb_ (Below.refl _ _) 1)
    have HOC:Hid (OwnX ruleD (fun b=>S b∨w.heap.size≤b) 49 ((W4.alloc (.cells #[] 49)).alloc (.cells #[.int .i64 r.number,.bool r.cut,.int .i64 kb,.slice sA sn sc,.slice gA gn gc,.slice A1 n1 c1,.int .i64 ka,.slice tA tn tc,.slice hA hn2 hc2,.slice A2 n2 c2,.int .i64 r.pos] 49)).drew W4.heap.size (.slice (some ⟨W4.heap.size,0,none⟩) 0 0) []):=((qz_ ruleD _ W4 W4.heap.size 49 (Nat.le_refl _) (by decide)).on (qa_ _ _)).on (qb_ (Below.refl _ _) 1)
    have hzE:(W4.alloc (.cells #[.int .i64 r.number,.bool r.cut,.int .i64 kb,.slice sA sn sc,.slice gA gn gc,.slice A1 n1 c1,.int .i64 ka,.slice tA tn tc,.slice hA hn2 hc2,.slice A2 n2 c2,.int .i64 r.pos] 49)).heap.size=W4.heap.size+1:=by simp
    have hzA:(W4.alloc (.cells #[] 49)).heap.size=W4.heap.size+1:=by simp
    have hzC:((W4.alloc (.cells #[] 49)).alloc (.cells #[.int .i64 r.number,.bool r.cut,.int .i64 kb,.slice sA sn sc,.slice gA gn gc,.slice A1 n1 c1,.int .i64 ka,.slice tA tn tc,.slice hA hn2 hc2,.slice A2 n2 c2,.int .i64 r.pos] 49)).heap.size=W4.heap.size+1+1:=by simp
    have hzD:((W4.alloc (.cells #[.int .i64 r.number,.bool r.cut,.int .i64 kb,.slice sA sn sc,.slice gA gn gc,.slice A1 n1 c1,.int .i64 ka,.slice tA tn tc,.slice hA hn2 hc2,.slice A2 n2 c2,.int .i64 r.pos] 49)).alloc (.cells #[] 49)).heap.size=W4.heap.size+1+1:=by simp
    have HOD:Hid (OwnX ruleD (fun b=>S b∨w.heap.size≤b) 49 ((W4.alloc (.cells #[.int .i64 r.number,.bool r.cut,.int .i64 kb,.slice sA sn sc,.slice gA gn gc,.slice A1 n1 c1,.int .i64 ka,.slice tA tn tc,.slice hA hn2 hc2,.slice A2 n2 c2,.int .i64 r.pos] 49)).alloc (.cells #[] 49)).drew W4.heap.size (.slice (some ⟨W4.heap.size+1,0,none⟩) 0 0) []):=by
     have h:=(qz_ ruleD (fun b=>S b∨w.heap.size≤b) (W4.alloc (.cells #[.int .i64 r.number,.bool r.cut,.int .i64 kb,.slice sA sn sc,.slice gA gn gc,.slice A1 n1 c1,.int .i64 ka,.slice tA tn tc,.slice hA hn2 hc2,.slice A2 n2 c2,.int .i64 r.pos] 49)) W4.heap.size 49 (by omega) (by decide)).on (qb_ (Below.refl _ _) 1)
     rw[hzE] at h
     exact h
    have HWC:Hid (((W4.alloc (.cells #[] 49)).alloc (.cells #[.int .i64 r.number,.bool r.cut,.int .i64 kb,.slice sA sn sc,.slice gA gn gc,.slice A1 n1 c1,.int .i64 ka,.slice tA tn tc,.slice hA hn2 hc2,.slice A2 n2 c2,.int .i64 r.pos] 49)).drew.heap[W4.heap.size+1]?=some (.cells #[.int .i64 r.number,.bool r.cut,.int .i64 kb,.slice sA sn sc,.slice gA gn gc,.slice A1 n1 c1,.int .i64 ka,.slice tA tn tc,.slice hA hn2 hc2,.slice A2 n2 c2,.int .i64 r.pos] 49 (0,0))):=by
     have h:=heap_alloc_new (W4.alloc (.cells #[] 49)) (.cells #[.int .i64 r.number,.bool r.cut,.int .i64 kb,.slice sA sn sc,.slice gA gn gc,.slice A1 n1 c1,.int .i64 ka,.slice tA tn tc,.slice hA hn2 hc2,.slice A2 n2 c2,.int .i64 r.pos] 49)
     rw[hzA] at h
     exact h
    have HWD:Hid (((W4.alloc (.cells #[.int .i64 r.number,.bool r.cut,.int .i64 kb,.slice sA sn sc,.slice gA gn gc,.slice A1 n1 c1,.int .i64 ka,.slice tA tn tc,.slice hA hn2 hc2,.slice A2 n2 c2,.int .i64 r.pos] 49)).alloc (.cells #[] 49)).drew.heap[W4.heap.size]?=some (.cells #[.int .i64 r.number,.bool r.cut,.int .i64 kb,.slice sA sn sc,.slice gA gn gc,.slice A1 n1 c1,.int .i64 ka,.slice tA tn tc,.slice hA hn2 hc2,.slice A2 n2 c2,.int .i64 r.pos] 49 (0,0))):=((qa_ (W4.alloc (.cells #[.int .i64 r.number,.bool r.cut,.int .i64 kb,.slice sA sn sc,.slice gA gn gc,.slice A1 n1 c1,.int .i64 ka,.slice tA tn tc,.slice hA hn2 hc2,.slice A2 n2 c2,.int .i64 r.pos] 49)) (.cells #[] 49)).block _ (by omega)).trans (heap_alloc_new W4 (.cells #[.int .i64 r.number,.bool r.cut,.int .i64 kb,.slice sA sn sc,.slice gA gn gc,.slice A1 n1 c1,.int .i64 ka,.slice tA tn tc,.slice hA hn2 hc2,.slice A2 n2 c2,.int .i64 r.pos] 49))
    have HNC:Hid (W4.heap.size+1<((W4.alloc (.cells #[] 49)).alloc (.cells #[.int .i64 r.number,.bool r.cut,.int .i64 kb,.slice sA sn sc,.slice gA gn gc,.slice A1 n1 c1,.int .i64 ka,.slice tA tn tc,.slice hA hn2 hc2,.slice A2 n2 c2,.int .i64 r.pos] 49)).drew.heap.size∧W4.heap.size<((W4.alloc (.cells #[.int .i64 r.number,.bool r.cut,.int .i64 kb,.slice sA sn sc,.slice gA gn gc,.slice A1 n1 c1,.int .i64 ka,.slice tA tn tc,.slice hA hn2 hc2,.slice A2 n2 c2,.int .i64 r.pos] 49)).alloc (.cells #[] 49)).drew.heap.size):=⟨by show _<((W4.alloc (.cells #[] 49)).alloc (.cells #[.int .i64 r.number,.bool r.cut,.int .i64 kb,.slice sA sn sc,.slice gA gn gc,.slice A1 n1 c1,.int .i64 ka,.slice tA tn tc,.slice hA hn2 hc2,.slice A2 n2 c2,.int .i64 r.pos] 49)).heap.size;omega,by show _<((W4.alloc (.cells #[.int .i64 r.number,.bool r.cut,.int .i64 kb,.slice sA sn sc,.slice gA gn gc,.slice A1 n1 c1,.int .i64 ka,.slice tA tn tc,.slice hA hn2 hc2,.slice A2 n2 c2,.int .i64 r.pos] 49)).alloc (.cells #[] 49)).heap.size;omega⟩
    have HVB:Hid (¬ (Value.slice (some ⟨W4.heap.size,0,none⟩) 0 0).ownBlock=some (W4.heap.size+1)∧¬ (Value.slice (some ⟨W4.heap.size+1,0,none⟩) 0 0).ownBlock=some W4.heap.size):=⟨fun e=>absurd (show W4.heap.size=W4.heap.size+1 from Option.some.inj e) (by omega),fun e=>absurd (show W4.heap.size+1=W4.heap.size from Option.some.inj e) (by omega)⟩
    have HRA:=ha_ (rd_src (X:=fun b=>S b∨w.heap.size≤b) HS1.out HSX.out HG.out (HB2.out.trans (HBA.out.mono HB2.out.size)) (fun b e=>Nat.le_trans HB2.out.size (HOA.out.block b e).1) hj)
    have HRC:=ha_ (rd_src (X:=fun b=>S b∨w.heap.size≤b) HS1.out HSX.out HG.out (HB2.out.trans (HBC.out.mono HB2.out.size)) (fun b e=>Nat.le_trans HB2.out.size (HOC.out.block b e).1) hj)
    have HRD:=ha_ (rd_src (X:=fun b=>S b∨w.heap.size≤b) HS1.out HSX.out HG.out (HB2.out.trans (HBD.out.mono HB2.out.size)) (fun b e=>Nat.le_trans HB2.out.size (HOD.out.block b e).1) hj)
    have htl:(l.take j).length=j:=by rw[List.length_take];omega
    have H26:Hid (([]:List Rl).length+j≤1000000):=by show _≤_;rw[List.length_nil];omega
    have H29:Hid ((l.take j).length+1≤1000000):=by show _≤_;omega
    have H33:Hid ((l.take j++[r]).length+(n - j)≤1000000):=by show _≤_;rw[List.length_append,htl,List.length_cons,List.length_nil];omega
    clear htl
    have HLE:Hid (∀ v w9,OwnX ruleD (fun b=>S b∨w.heap.size≤b) 49 w9 W4.heap.size v (l.take j++[r])→Below W4.heap.size W4 w9→RdG ruleD w9 (fun b=>b<w9.heap.size∧(S b∨w.heap.size≤b)∧v.ownBlock≠some b) (some ⟨b1,o1+j*11,none⟩) (n - j) (c - j) (l.drop j)):=fun v w9 ho hb=>rd_src2 (X:=fun b=>S b∨w.heap.size≤b) HS1.out HSX.out HG.out (HB2.out.trans (hb.mono HB2.out.size)) (fun b e=>Nat.le_trans HB2.out.size (ho.block b e).1) hj (fun b o _ e=>by injection e with e;injection e with e1 e2;subst e1 e2;rfl)
    clear hzE hzA hzC hzD
    go_region_held_law (fun w' => w'.cell? ⟨w.heap.size,0,none⟩=some (.int .i64 r.number)∧w'.cell? ⟨w.heap.size,1,none⟩=some (.bool r.cut)∧w'.cell? ⟨w.heap.size,2,none⟩=some (.int .i64 kb)∧w'.cell? ⟨w.heap.size,3,none⟩=some (.slice sA sn sc)∧w'.cell? ⟨w.heap.size,4,none⟩=some (.slice gA gn gc)∧w'.cell? ⟨w.heap.size,5,none⟩=some (.slice A1 n1 c1)∧w'.cell? ⟨w.heap.size,6,none⟩=some (.int .i64 ka)∧w'.cell? ⟨w.heap.size,7,none⟩=some (.slice tA tn tc)∧w'.cell? ⟨w.heap.size,8,none⟩=some (.slice hA hn2 hc2)∧w'.cell? ⟨w.heap.size,9,none⟩=some (.slice A2 n2 c2)∧w'.cell? ⟨w.heap.size,10,none⟩=some (.int .i64 r.pos)) (first|exact HS.out _ HB0.out|exact HS.out _ HBA.out|exact HS.out _ HBE.out|exact HS.out _ HBC.out|exact HS.out _ HBD.out|exact HS.out _ HB3.out|exact HS.out _ HB9.out|exact HS.out _ HB6.out|exact HS.out _ HB5.out) (first
     | ((with_reducible refine qh_ (D:=ruleD) ?_ (.tmp 22) (.tmp 25) 26 32 rfl rfl Tryz.underlying32 za_ rfl (by decide) (by decide) ?_ HOA.out ?_ HRA.out ?_ ?_ ?_);rfl;rfl;rfl;exact H26.out;exact HBA.out.size;intro v5 w5 ho5 hg5 hv5;have HO5:Hid (OwnX ruleD (fun b=>S b∨w.heap.size≤b) 49 w5 W4.heap.size v5 (l.take j)):=ho5;have HB5:Hid (Below W4.heap.size W4 w5):=qe_ HBA.out hg5 (fun i hi=>(HOA.out.block i hi).1);have HH:=p26A (X:=fun b=>S b∨w.heap.size≤b) HSS.out HSX.out HSN.out HR.out HBW4.out HO5.out HB5.out;have HO6:=ha_ HH.1;have HB6:=ha_ HH.2.1;have HR6:=ha_ HH.2.2;clear HH;clear ho5 hg5 hv5)
     | ((with_reducible refine qh_ (D:=ruleD) ?_ (.tmp 22) (.tmp 25) 26 32 rfl rfl Tryz.underlying32 za_ rfl (by decide) (by decide) ?_ HOC.out ?_ HRC.out ?_ ?_ ?_);rfl;rfl;rfl;exact H26.out;exact HBC.out.size;intro v5 w5 ho5 hg5 hv5;have HO5:Hid (OwnX ruleD (fun b=>S b∨w.heap.size≤b) 49 w5 W4.heap.size v5 (l.take j)):=ho5;have HB5:Hid (Below W4.heap.size W4 w5):=qe_ HBC.out hg5 (fun i hi=>(HOC.out.block i hi).1);have HO6:=HO5;have HB6:=HB5;have HR6:=ha_ (p26N (X:=fun b=>S b∨w.heap.size≤b) HSS.out HSX.out HSN.out HR.out HBW4.out HWC.out HNC.out.1 (Nat.le_succ_of_le HBW4.out.size) HVB.out.1 hg5 hv5 HO5.out HB5.out);clear ho5 hg5 hv5)
     | ((with_reducible refine qh_ (D:=ruleD) ?_ (.tmp 22) (.tmp 25) 26 32 rfl rfl Tryz.underlying32 za_ rfl (by decide) (by decide) ?_ HOD.out ?_ HRD.out ?_ ?_ ?_);rfl;rfl;rfl;exact H26.out;exact HBD.out.size;intro v5 w5 ho5 hg5 hv5;have HO5:Hid (OwnX ruleD (fun b=>S b∨w.heap.size≤b) 49 w5 W4.heap.size v5 (l.take j)):=ho5;have HB5:Hid (Below W4.heap.size W4 w5):=qe_ HBD.out hg5 (fun i hi=>(HOD.out.block i hi).1);have HO6:=HO5;have HB6:=HB5;have HR6:=ha_ (p26N (X:=fun b=>S b∨w.heap.size≤b) HSS.out HSX.out HSN.out HR.out HBW4.out HWD.out HNC.out.2 HBW4.out.size HVB.out.2 hg5 hv5 HO5.out HB5.out);clear ho5 hg5 hv5)
     | ((with_reducible refine qh_ (D:=ruleD) ?_ (.tmp 26) (.tmp 28) 29 32 rfl rfl Tryz.underlying32 za_ rfl (by decide) (by decide) ?_ HO6.out ?_ HR6.out ?_ ?_ ?_);rfl;rfl;rfl;exact H29.out;exact HB6.out.size;intro v9 w9 ho9 hg9 hv9;have HO9:Hid (OwnX ruleD (fun b=>S b∨w.heap.size≤b) 49 w9 W4.heap.size v9 (l.take j++[r])):=ho9;have HB9:Hid (Below W4.heap.size W4 w9):=qe_ HB6.out hg9 (fun i hi=>(HO6.out.block i hi).1);have HR9:=ha_ (HLE.out v9 w9 HO9.out HB9.out);clear ho9 hg9 hv9)
     | ((with_reducible refine qh_ (D:=ruleD) ?_ (.tmp 29) (.tmp 32) 33 32 rfl rfl Tryz.underlying32 za_ rfl (by decide) (by decide) ?_ HO9.out ?_ HR9.out ?_ ?_ ?_);rfl;rfl;rfl;exact H33.out;exact HB9.out.size;intro v3 w3 ho3 hg3 hv3;have HO3:Hid (OwnX ruleD (fun b=>S b∨w.heap.size≤b) 49 w3 W4.heap.size v3 ((l.take j++[r])++l.drop j)):=ho3;have HB3:Hid (Below W4.heap.size W4 w3):=qe_ HB9.out hg3 (fun i hi=>(HO9.out.block i hi).1);clear ho3 hg3 hv3))
    all_goals (
     obtain ⟨A9,c9,e9,hrd⟩:=HO3.out.rd
     rw[List.append_assoc,← HE.out] at hrd e9
     obtain rfl:=e9
     have HRR:Hid (RdG ruleD w3 (fun b=>S b∨(w.heap.size≤b∧b<w3.heap.size)) A9 (rlPut l r).length c9 (rlPut l r)):=hrd.keep (fun b hb=>by
      rcases hb.2 with (h|h)|h
      ·exact .inl h
      ·exact .inr ⟨h,hb.1⟩
      ·exact .inr ⟨Nat.le_trans HBW4.out.size h,hb.1⟩) (fun _ _=>rfl)
     have HBZ:=ha_ (HBW4.out.trans (HB3.out.mono HBW4.out.size))
     clear hrd
     go_wp2_with fail
     all_goals go_ret
     all_goals exact ⟨A9,_,c9,rfl,HRR.out,HBZ.out⟩)
  ·obtain rfl:j=n:=by omega
   have g1:decide ((j:Int)<(j:Int))=false:=decide_eq_false (by omega)
   have HE:Hid (rlPut l r=l.take j++([r]++l.drop j)):=put_at HU.out (by omega) fun y hy=>by
    have:=(List.getElem?_eq_some_iff.1 hy).1
    omega
   have HB2:Hid (Below W1.heap.size W1 WL.drew):=qb_ HB.out 1
   have hj0:(0:Int)≤(j:Int):=by omega
   clear HU HB
   by_cases h0:j=0
   ·obtain ⟨rfl,rfl⟩:=hnil h0
    subst h0
    go_wp2_with fail
    go_region
    generalize hW4:WL.drew=W4 at *
    clear hW4 g1 r0 r1 r2 r3 r4 r5 r6 r7 r8 r9 r10
    go_wp2_with fail
    have hcap:0≤0:=HG.out.cap
    have hc64:0≤9223372036854775807:=by have h2:=HG.out.capm;unfold maxLen at h2;omega
    have HBW4:Hid (Below w.heap.size w W4):=HP.out.trans (HB2.out.mono HP.out.size)
    have HS:Hid (∀ w', Below W4.heap.size W4 w' → w'.cell? ⟨w.heap.size,0,none⟩=some (.int .i64 r.number)∧w'.cell? ⟨w.heap.size,1,none⟩=some (.bool r.cut)∧w'.cell? ⟨w.heap.size,2,none⟩=some (.int .i64 kb)∧w'.cell? ⟨w.heap.size,3,none⟩=some (.slice sA sn sc)∧w'.cell? ⟨w.heap.size,4,none⟩=some (.slice gA gn gc)∧w'.cell? ⟨w.heap.size,5,none⟩=some (.slice A1 n1 c1)∧w'.cell? ⟨w.heap.size,6,none⟩=some (.int .i64 ka)∧w'.cell? ⟨w.heap.size,7,none⟩=some (.slice tA tn tc)∧w'.cell? ⟨w.heap.size,8,none⟩=some (.slice hA hn2 hc2)∧w'.cell? ⟨w.heap.size,9,none⟩=some (.slice A2 n2 c2)∧w'.cell? ⟨w.heap.size,10,none⟩=some (.int .i64 r.pos)):=fun w' h=>dcells11 ((h.block w.heap.size (Nat.lt_of_lt_of_le HSZ.out HB2.out.size)).trans ((HB2.out.block w.heap.size HSZ.out).trans HROW.out))
    have HBA:Hid (Below W4.heap.size W4 (W4.alloc (.cells #[] 49)).drew):=qb_ (qa_ _ _) 1
    have HBE:Hid (Below W4.heap.size W4 (W4.alloc (.cells #[.int .i64 r.number,.bool r.cut,.int .i64 kb,.slice sA sn sc,.slice gA gn gc,.slice A1 n1 c1,.int .i64 ka,.slice tA tn tc,.slice hA hn2 hc2,.slice A2 n2 c2,.int .i64 r.pos] 49)).drew):=qb_ (qa_ _ _) 1
    have HBC:Hid (Below W4.heap.size W4 ((W4.alloc (.cells #[] 49)).alloc (.cells #[.int .i64 r.number,.bool r.cut,.int .i64 kb,.slice sA sn sc,.slice gA gn gc,.slice A1 n1 c1,.int .i64 ka,.slice tA tn tc,.slice hA hn2 hc2,.slice A2 n2 c2,.int .i64 r.pos] 49)).drew):=qb_ ((qa_ _ _).trans ((qa_ _ _).mono (by simp))) 1
    have HBD:Hid (Below W4.heap.size W4 ((W4.alloc (.cells #[.int .i64 r.number,.bool r.cut,.int .i64 kb,.slice sA sn sc,.slice gA gn gc,.slice A1 n1 c1,.int .i64 ka,.slice tA tn tc,.slice hA hn2 hc2,.slice A2 n2 c2,.int .i64 r.pos] 49)).alloc (.cells #[] 49)).drew):=qb_ ((qa_ _ _).trans ((qa_ _ _).mono (by simp))) 1
    have HB0:Hid (Below W4.heap.size W4 W4.drew):=qb_ (Below.refl _ _) 1
    have HOA:Hid (OwnX ruleD (fun b=>S b∨w.heap.size≤b) 49 (W4.alloc (.cells #[] 49)).drew W4.heap.size (.slice (some ⟨W4.heap.size,0,none⟩) 0 0) []):=(qz_ ruleD _ W4 W4.heap.size 49 (Nat.le_refl _) (by decide)).on (qb_ (Below.refl _ _) 1)
    have HOC:Hid (OwnX ruleD (fun b=>S b∨w.heap.size≤b) 49 ((W4.alloc (.cells #[] 49)).alloc (.cells #[.int .i64 r.number,.bool r.cut,.int .i64 kb,.slice sA sn sc,.slice gA gn gc,.slice A1 n1 c1,.int .i64 ka,.slice tA tn tc,.slice hA hn2 hc2,.slice A2 n2 c2,.int .i64 r.pos] 49)).drew W4.heap.size (.slice (some ⟨W4.heap.size,0,none⟩) 0 0) []):=((qz_ ruleD _ W4 W4.heap.size 49 (Nat.le_refl _) (by decide)).on (qa_ _ _)).on (qb_ (Below.refl _ _) 1)
    have hzE:(W4.alloc (.cells #[.int .i64 r.number,.bool r.cut,.int .i64 kb,.slice sA sn sc,.slice gA gn gc,.slice A1 n1 c1,.int .i64 ka,.slice tA tn tc,.slice hA hn2 hc2,.slice A2 n2 c2,.int .i64 r.pos] 49)).heap.size=W4.heap.size+1:=by simp
    have hzA:(W4.alloc (.cells #[] 49)).heap.size=W4.heap.size+1:=by simp
    have hzC:((W4.alloc (.cells #[] 49)).alloc (.cells #[.int .i64 r.number,.bool r.cut,.int .i64 kb,.slice sA sn sc,.slice gA gn gc,.slice A1 n1 c1,.int .i64 ka,.slice tA tn tc,.slice hA hn2 hc2,.slice A2 n2 c2,.int .i64 r.pos] 49)).heap.size=W4.heap.size+1+1:=by simp
    have hzD:((W4.alloc (.cells #[.int .i64 r.number,.bool r.cut,.int .i64 kb,.slice sA sn sc,.slice gA gn gc,.slice A1 n1 c1,.int .i64 ka,.slice tA tn tc,.slice hA hn2 hc2,.slice A2 n2 c2,.int .i64 r.pos] 49)).alloc (.cells #[] 49)).heap.size=W4.heap.size+1+1:=by simp
    have HOD:Hid (OwnX ruleD (fun b=>S b∨w.heap.size≤b) 49 ((W4.alloc (.cells #[.int .i64 r.number,.bool r.cut,.int .i64 kb,.slice sA sn sc,.slice gA gn gc,.slice A1 n1 c1,.int .i64 ka,.slice tA tn tc,.slice hA hn2 hc2,.slice A2 n2 c2,.int .i64 r.pos] 49)).alloc (.cells #[] 49)).drew W4.heap.size (.slice (some ⟨W4.heap.size+1,0,none⟩) 0 0) []):=by
     have h:=(qz_ ruleD (fun b=>S b∨w.heap.size≤b) (W4.alloc (.cells #[.int .i64 r.number,.bool r.cut,.int .i64 kb,.slice sA sn sc,.slice gA gn gc,.slice A1 n1 c1,.int .i64 ka,.slice tA tn tc,.slice hA hn2 hc2,.slice A2 n2 c2,.int .i64 r.pos] 49)) W4.heap.size 49 (by omega) (by decide)).on (qb_ (Below.refl _ _) 1)
     rw[hzE] at h
     exact h
    have HWC:Hid (((W4.alloc (.cells #[] 49)).alloc (.cells #[.int .i64 r.number,.bool r.cut,.int .i64 kb,.slice sA sn sc,.slice gA gn gc,.slice A1 n1 c1,.int .i64 ka,.slice tA tn tc,.slice hA hn2 hc2,.slice A2 n2 c2,.int .i64 r.pos] 49)).drew.heap[W4.heap.size+1]?=some (.cells #[.int .i64 r.number,.bool r.cut,.int .i64 kb,.slice sA sn sc,.slice gA gn gc,.slice A1 n1 c1,.int .i64 ka,.slice tA tn tc,.slice hA hn2 hc2,.slice A2 n2 c2,.int .i64 r.pos] 49 (0,0))):=by
     have h:=heap_alloc_new (W4.alloc (.cells #[] 49)) (.cells #[.int .i64 r.number,.bool r.cut,.int .i64 kb,.slice sA sn sc,.slice gA gn gc,.slice A1 n1 c1,.int .i64 ka,.slice tA tn tc,.slice hA hn2 hc2,.slice A2 n2 c2,.int .i64 r.pos] 49)
     rw[hzA] at h
     exact h
    have HWD:Hid (((W4.alloc (.cells #[.int .i64 r.number,.bool r.cut,.int .i64 kb,.slice sA sn sc,.slice gA gn gc,.slice A1 n1 c1,.int .i64 ka,.slice tA tn tc,.slice hA hn2 hc2,.slice A2 n2 c2,.int .i64 r.pos] 49)).alloc (.cells #[] 49)).drew.heap[W4.heap.size]?=some (.cells #[.int .i64 r.number,.bool r.cut,.int .i64 kb,.slice sA sn sc,.slice gA gn gc,.slice A1 n1 c1,.int .i64 ka,.slice tA tn tc,.slice hA hn2 hc2,.slice A2 n2 c2,.int .i64 r.pos] 49 (0,0))):=((qa_ (W4.alloc (.cells #[.int .i64 r.number,.bool r.cut,.int .i64 kb,.slice sA sn sc,.slice gA gn gc,.slice A1 n1 c1,.int .i64 ka,.slice tA tn tc,.slice hA hn2 hc2,.slice A2 n2 c2,.int .i64 r.pos] 49)) (.cells #[] 49)).block _ (by omega)).trans (heap_alloc_new W4 (.cells #[.int .i64 r.number,.bool r.cut,.int .i64 kb,.slice sA sn sc,.slice gA gn gc,.slice A1 n1 c1,.int .i64 ka,.slice tA tn tc,.slice hA hn2 hc2,.slice A2 n2 c2,.int .i64 r.pos] 49))
    have HNC:Hid (W4.heap.size+1<((W4.alloc (.cells #[] 49)).alloc (.cells #[.int .i64 r.number,.bool r.cut,.int .i64 kb,.slice sA sn sc,.slice gA gn gc,.slice A1 n1 c1,.int .i64 ka,.slice tA tn tc,.slice hA hn2 hc2,.slice A2 n2 c2,.int .i64 r.pos] 49)).drew.heap.size∧W4.heap.size<((W4.alloc (.cells #[.int .i64 r.number,.bool r.cut,.int .i64 kb,.slice sA sn sc,.slice gA gn gc,.slice A1 n1 c1,.int .i64 ka,.slice tA tn tc,.slice hA hn2 hc2,.slice A2 n2 c2,.int .i64 r.pos] 49)).alloc (.cells #[] 49)).drew.heap.size):=⟨by show _<((W4.alloc (.cells #[] 49)).alloc (.cells #[.int .i64 r.number,.bool r.cut,.int .i64 kb,.slice sA sn sc,.slice gA gn gc,.slice A1 n1 c1,.int .i64 ka,.slice tA tn tc,.slice hA hn2 hc2,.slice A2 n2 c2,.int .i64 r.pos] 49)).heap.size;omega,by show _<((W4.alloc (.cells #[.int .i64 r.number,.bool r.cut,.int .i64 kb,.slice sA sn sc,.slice gA gn gc,.slice A1 n1 c1,.int .i64 ka,.slice tA tn tc,.slice hA hn2 hc2,.slice A2 n2 c2,.int .i64 r.pos] 49)).alloc (.cells #[] 49)).heap.size;omega⟩
    have HVB:Hid (¬ (Value.slice (some ⟨W4.heap.size,0,none⟩) 0 0).ownBlock=some (W4.heap.size+1)∧¬ (Value.slice (some ⟨W4.heap.size+1,0,none⟩) 0 0).ownBlock=some W4.heap.size):=⟨fun e=>absurd (show W4.heap.size=W4.heap.size+1 from Option.some.inj e) (by omega),fun e=>absurd (show W4.heap.size+1=W4.heap.size from Option.some.inj e) (by omega)⟩
    have HRA:=ha_ (rd_src (X:=fun b=>S b∨w.heap.size≤b) HS1.out HSX.out HG.out (HB2.out.trans (HBA.out.mono HB2.out.size)) (fun b e=>Nat.le_trans HB2.out.size (HOA.out.block b e).1) hj)
    have HRC:=ha_ (rd_src (X:=fun b=>S b∨w.heap.size≤b) HS1.out HSX.out HG.out (HB2.out.trans (HBC.out.mono HB2.out.size)) (fun b e=>Nat.le_trans HB2.out.size (HOC.out.block b e).1) hj)
    have HRD:=ha_ (rd_src (X:=fun b=>S b∨w.heap.size≤b) HS1.out HSX.out HG.out (HB2.out.trans (HBD.out.mono HB2.out.size)) (fun b e=>Nat.le_trans HB2.out.size (HOD.out.block b e).1) hj)
    have htl:(l.take 0).length=0:=by rw[List.length_take];omega
    have H26:Hid (([]:List Rl).length+0≤1000000):=by show _≤_;rw[List.length_nil];omega
    have H29:Hid ((l.take 0).length+1≤1000000):=by show _≤_;omega
    have H33:Hid ((l.take 0++[r]).length+(0 - 0)≤1000000):=by show _≤_;rw[List.length_append,htl,List.length_cons,List.length_nil];omega
    clear htl
    have HLE:Hid (∀ v w9,OwnX ruleD (fun b=>S b∨w.heap.size≤b) 49 w9 W4.heap.size v (l.take 0++[r])→Below W4.heap.size W4 w9→RdG ruleD w9 (fun b=>b<w9.heap.size∧(S b∨w.heap.size≤b)∧v.ownBlock≠some b) (none) (0 - 0) (0 - 0) (l.drop 0)):=fun v w9 ho hb=>rd_src2 (X:=fun b=>S b∨w.heap.size≤b) HS1.out HSX.out HG.out (HB2.out.trans (hb.mono HB2.out.size)) (fun b e=>Nat.le_trans HB2.out.size (ho.block b e).1) hj (fun b o hh _=>absurd hh (by omega))
    clear hzE hzA hzC hzD
    go_region_held_law (fun w' => w'.cell? ⟨w.heap.size,0,none⟩=some (.int .i64 r.number)∧w'.cell? ⟨w.heap.size,1,none⟩=some (.bool r.cut)∧w'.cell? ⟨w.heap.size,2,none⟩=some (.int .i64 kb)∧w'.cell? ⟨w.heap.size,3,none⟩=some (.slice sA sn sc)∧w'.cell? ⟨w.heap.size,4,none⟩=some (.slice gA gn gc)∧w'.cell? ⟨w.heap.size,5,none⟩=some (.slice A1 n1 c1)∧w'.cell? ⟨w.heap.size,6,none⟩=some (.int .i64 ka)∧w'.cell? ⟨w.heap.size,7,none⟩=some (.slice tA tn tc)∧w'.cell? ⟨w.heap.size,8,none⟩=some (.slice hA hn2 hc2)∧w'.cell? ⟨w.heap.size,9,none⟩=some (.slice A2 n2 c2)∧w'.cell? ⟨w.heap.size,10,none⟩=some (.int .i64 r.pos)) (first|exact HS.out _ HB0.out|exact HS.out _ HBA.out|exact HS.out _ HBE.out|exact HS.out _ HBC.out|exact HS.out _ HBD.out|exact HS.out _ HB3.out|exact HS.out _ HB9.out|exact HS.out _ HB6.out|exact HS.out _ HB5.out) (first
     | ((with_reducible refine qh_ (D:=ruleD) ?_ (.tmp 22) (.tmp 25) 26 32 rfl rfl Tryz.underlying32 za_ rfl (by decide) (by decide) ?_ HOA.out ?_ HRA.out ?_ ?_ ?_);rfl;rfl;rfl;exact H26.out;exact HBA.out.size;intro v5 w5 ho5 hg5 hv5;have HO5:Hid (OwnX ruleD (fun b=>S b∨w.heap.size≤b) 49 w5 W4.heap.size v5 (l.take 0)):=ho5;have HB5:Hid (Below W4.heap.size W4 w5):=qe_ HBA.out hg5 (fun i hi=>(HOA.out.block i hi).1);have HH:=p26A (X:=fun b=>S b∨w.heap.size≤b) HSS.out HSX.out HSN.out HR.out HBW4.out HO5.out HB5.out;have HO6:=ha_ HH.1;have HB6:=ha_ HH.2.1;have HR6:=ha_ HH.2.2;clear HH;clear ho5 hg5 hv5)
     | ((with_reducible refine qh_ (D:=ruleD) ?_ (.tmp 22) (.tmp 25) 26 32 rfl rfl Tryz.underlying32 za_ rfl (by decide) (by decide) ?_ HOC.out ?_ HRC.out ?_ ?_ ?_);rfl;rfl;rfl;exact H26.out;exact HBC.out.size;intro v5 w5 ho5 hg5 hv5;have HO5:Hid (OwnX ruleD (fun b=>S b∨w.heap.size≤b) 49 w5 W4.heap.size v5 (l.take 0)):=ho5;have HB5:Hid (Below W4.heap.size W4 w5):=qe_ HBC.out hg5 (fun i hi=>(HOC.out.block i hi).1);have HO6:=HO5;have HB6:=HB5;have HR6:=ha_ (p26N (X:=fun b=>S b∨w.heap.size≤b) HSS.out HSX.out HSN.out HR.out HBW4.out HWC.out HNC.out.1 (Nat.le_succ_of_le HBW4.out.size) HVB.out.1 hg5 hv5 HO5.out HB5.out);clear ho5 hg5 hv5)
     | ((with_reducible refine qh_ (D:=ruleD) ?_ (.tmp 22) (.tmp 25) 26 32 rfl rfl Tryz.underlying32 za_ rfl (by decide) (by decide) ?_ HOD.out ?_ HRD.out ?_ ?_ ?_);rfl;rfl;rfl;exact H26.out;exact HBD.out.size;intro v5 w5 ho5 hg5 hv5;have HO5:Hid (OwnX ruleD (fun b=>S b∨w.heap.size≤b) 49 w5 W4.heap.size v5 (l.take 0)):=ho5;have HB5:Hid (Below W4.heap.size W4 w5):=qe_ HBD.out hg5 (fun i hi=>(HOD.out.block i hi).1);have HO6:=HO5;have HB6:=HB5;have HR6:=ha_ (p26N (X:=fun b=>S b∨w.heap.size≤b) HSS.out HSX.out HSN.out HR.out HBW4.out HWD.out HNC.out.2 HBW4.out.size HVB.out.2 hg5 hv5 HO5.out HB5.out);clear ho5 hg5 hv5)
     | ((with_reducible refine qh_ (D:=ruleD) ?_ (.tmp 26) (.tmp 28) 29 32 rfl rfl Tryz.underlying32 za_ rfl (by decide) (by decide) ?_ HO6.out ?_ HR6.out ?_ ?_ ?_);rfl;rfl;rfl;exact H29.out;exact HB6.out.size;intro v9 w9 ho9 hg9 hv9;have HO9:Hid (OwnX ruleD (fun b=>S b∨w.heap.size≤b) 49 w9 W4.heap.size v9 (l.take 0++[r])):=ho9;have HB9:Hid (Below W4.heap.size W4 w9):=qe_ HB6.out hg9 (fun i hi=>(HO6.out.block i hi).1);have HR9:=ha_ (HLE.out v9 w9 HO9.out HB9.out);clear ho9 hg9 hv9)
     | ((with_reducible refine qh_ (D:=ruleD) ?_ (.tmp 29) (.tmp 32) 33 32 rfl rfl Tryz.underlying32 za_ rfl (by decide) (by decide) ?_ HO9.out ?_ HR9.out ?_ ?_ ?_);rfl;rfl;rfl;exact H33.out;exact HB9.out.size;intro v3 w3 ho3 hg3 hv3;have HO3:Hid (OwnX ruleD (fun b=>S b∨w.heap.size≤b) 49 w3 W4.heap.size v3 ((l.take 0++[r])++l.drop 0)):=ho3;have HB3:Hid (Below W4.heap.size W4 w3):=qe_ HB9.out hg3 (fun i hi=>(HO9.out.block i hi).1);clear ho3 hg3 hv3))
    all_goals (
     obtain ⟨A9,c9,e9,hrd⟩:=HO3.out.rd
     rw[List.append_assoc,← HE.out] at hrd e9
     obtain rfl:=e9
     have HRR:Hid (RdG ruleD w3 (fun b=>S b∨(w.heap.size≤b∧b<w3.heap.size)) A9 (rlPut l r).length c9 (rlPut l r)):=hrd.keep (fun b hb=>by
      rcases hb.2 with (h|h)|h
      ·exact .inl h
      ·exact .inr ⟨h,hb.1⟩
      ·exact .inr ⟨Nat.le_trans HBW4.out.size h,hb.1⟩) (fun _ _=>rfl)
     have HBZ:=ha_ (HBW4.out.trans (HB3.out.mono HBW4.out.size))
     clear hrd
     go_wp2_with fail
     all_goals go_ret
     all_goals exact ⟨A9,_,c9,rfl,HRR.out,HBZ.out⟩)
   ·obtain ⟨b1,o1,eA,_⟩:=HG.out.at_.choose_spec.1 (Nat.pos_of_ne_zero h0)
    subst eA
    go_wp2_with fail
    go_region
    generalize hW4:WL.drew=W4 at *
    clear hW4 g1 r0 r1 r2 r3 r4 r5 r6 r7 r8 r9 r10
    go_wp2_with fail
    have hcap:j≤c:=HG.out.cap
    have hc64:c≤9223372036854775807:=by have h2:=HG.out.capm;unfold maxLen at h2;omega
    have HBW4:Hid (Below w.heap.size w W4):=HP.out.trans (HB2.out.mono HP.out.size)
    have HS:Hid (∀ w', Below W4.heap.size W4 w' → w'.cell? ⟨w.heap.size,0,none⟩=some (.int .i64 r.number)∧w'.cell? ⟨w.heap.size,1,none⟩=some (.bool r.cut)∧w'.cell? ⟨w.heap.size,2,none⟩=some (.int .i64 kb)∧w'.cell? ⟨w.heap.size,3,none⟩=some (.slice sA sn sc)∧w'.cell? ⟨w.heap.size,4,none⟩=some (.slice gA gn gc)∧w'.cell? ⟨w.heap.size,5,none⟩=some (.slice A1 n1 c1)∧w'.cell? ⟨w.heap.size,6,none⟩=some (.int .i64 ka)∧w'.cell? ⟨w.heap.size,7,none⟩=some (.slice tA tn tc)∧w'.cell? ⟨w.heap.size,8,none⟩=some (.slice hA hn2 hc2)∧w'.cell? ⟨w.heap.size,9,none⟩=some (.slice A2 n2 c2)∧w'.cell? ⟨w.heap.size,10,none⟩=some (.int .i64 r.pos)):=fun w' h=>dcells11 ((h.block w.heap.size (Nat.lt_of_lt_of_le HSZ.out HB2.out.size)).trans ((HB2.out.block w.heap.size HSZ.out).trans HROW.out))
    have HBA:Hid (Below W4.heap.size W4 (W4.alloc (.cells #[] 49)).drew):=qb_ (qa_ _ _) 1
    have HBE:Hid (Below W4.heap.size W4 (W4.alloc (.cells #[.int .i64 r.number,.bool r.cut,.int .i64 kb,.slice sA sn sc,.slice gA gn gc,.slice A1 n1 c1,.int .i64 ka,.slice tA tn tc,.slice hA hn2 hc2,.slice A2 n2 c2,.int .i64 r.pos] 49)).drew):=qb_ (qa_ _ _) 1
    have HBC:Hid (Below W4.heap.size W4 ((W4.alloc (.cells #[] 49)).alloc (.cells #[.int .i64 r.number,.bool r.cut,.int .i64 kb,.slice sA sn sc,.slice gA gn gc,.slice A1 n1 c1,.int .i64 ka,.slice tA tn tc,.slice hA hn2 hc2,.slice A2 n2 c2,.int .i64 r.pos] 49)).drew):=qb_ ((qa_ _ _).trans ((qa_ _ _).mono (by simp))) 1
    have HBD:Hid (Below W4.heap.size W4 ((W4.alloc (.cells #[.int .i64 r.number,.bool r.cut,.int .i64 kb,.slice sA sn sc,.slice gA gn gc,.slice A1 n1 c1,.int .i64 ka,.slice tA tn tc,.slice hA hn2 hc2,.slice A2 n2 c2,.int .i64 r.pos] 49)).alloc (.cells #[] 49)).drew):=qb_ ((qa_ _ _).trans ((qa_ _ _).mono (by simp))) 1
    have HB0:Hid (Below W4.heap.size W4 W4.drew):=qb_ (Below.refl _ _) 1
    have HOA:Hid (OwnX ruleD (fun b=>S b∨w.heap.size≤b) 49 (W4.alloc (.cells #[] 49)).drew W4.heap.size (.slice (some ⟨W4.heap.size,0,none⟩) 0 0) []):=(qz_ ruleD _ W4 W4.heap.size 49 (Nat.le_refl _) (by decide)).on (qb_ (Below.refl _ _) 1)
    have HOC:Hid (OwnX ruleD (fun b=>S b∨w.heap.size≤b) 49 ((W4.alloc (.cells #[] 49)).alloc (.cells #[.int .i64 r.number,.bool r.cut,.int .i64 kb,.slice sA sn sc,.slice gA gn gc,.slice A1 n1 c1,.int .i64 ka,.slice tA tn tc,.slice hA hn2 hc2,.slice A2 n2 c2,.int .i64 r.pos] 49)).drew W4.heap.size (.slice (some ⟨W4.heap.size,0,none⟩) 0 0) []):=((qz_ ruleD _ W4 W4.heap.size 49 (Nat.le_refl _) (by decide)).on (qa_ _ _)).on (qb_ (Below.refl _ _) 1)
    have hzE:(W4.alloc (.cells #[.int .i64 r.number,.bool r.cut,.int .i64 kb,.slice sA sn sc,.slice gA gn gc,.slice A1 n1 c1,.int .i64 ka,.slice tA tn tc,.slice hA hn2 hc2,.slice A2 n2 c2,.int .i64 r.pos] 49)).heap.size=W4.heap.size+1:=by simp
    have hzA:(W4.alloc (.cells #[] 49)).heap.size=W4.heap.size+1:=by simp
    have hzC:((W4.alloc (.cells #[] 49)).alloc (.cells #[.int .i64 r.number,.bool r.cut,.int .i64 kb,.slice sA sn sc,.slice gA gn gc,.slice A1 n1 c1,.int .i64 ka,.slice tA tn tc,.slice hA hn2 hc2,.slice A2 n2 c2,.int .i64 r.pos] 49)).heap.size=W4.heap.size+1+1:=by simp
    have hzD:((W4.alloc (.cells #[.int .i64 r.number,.bool r.cut,.int .i64 kb,.slice sA sn sc,.slice gA gn gc,.slice A1 n1 c1,.int .i64 ka,.slice tA tn tc,.slice hA hn2 hc2,.slice A2 n2 c2,.int .i64 r.pos] 49)).alloc (.cells #[] 49)).heap.size=W4.heap.size+1+1:=by simp
    have HOD:Hid (OwnX ruleD (fun b=>S b∨w.heap.size≤b) 49 ((W4.alloc (.cells #[.int .i64 r.number,.bool r.cut,.int .i64 kb,.slice sA sn sc,.slice gA gn gc,.slice A1 n1 c1,.int .i64 ka,.slice tA tn tc,.slice hA hn2 hc2,.slice A2 n2 c2,.int .i64 r.pos] 49)).alloc (.cells #[] 49)).drew W4.heap.size (.slice (some ⟨W4.heap.size+1,0,none⟩) 0 0) []):=by
     have h:=(qz_ ruleD (fun b=>S b∨w.heap.size≤b) (W4.alloc (.cells #[.int .i64 r.number,.bool r.cut,.int .i64 kb,.slice sA sn sc,.slice gA gn gc,.slice A1 n1 c1,.int .i64 ka,.slice tA tn tc,.slice hA hn2 hc2,.slice A2 n2 c2,.int .i64 r.pos] 49)) W4.heap.size 49 (by omega) (by decide)).on (qb_ (Below.refl _ _) 1)
     rw[hzE] at h
     exact h
    have HWC:Hid (((W4.alloc (.cells #[] 49)).alloc (.cells #[.int .i64 r.number,.bool r.cut,.int .i64 kb,.slice sA sn sc,.slice gA gn gc,.slice A1 n1 c1,.int .i64 ka,.slice tA tn tc,.slice hA hn2 hc2,.slice A2 n2 c2,.int .i64 r.pos] 49)).drew.heap[W4.heap.size+1]?=some (.cells #[.int .i64 r.number,.bool r.cut,.int .i64 kb,.slice sA sn sc,.slice gA gn gc,.slice A1 n1 c1,.int .i64 ka,.slice tA tn tc,.slice hA hn2 hc2,.slice A2 n2 c2,.int .i64 r.pos] 49 (0,0))):=by
     have h:=heap_alloc_new (W4.alloc (.cells #[] 49)) (.cells #[.int .i64 r.number,.bool r.cut,.int .i64 kb,.slice sA sn sc,.slice gA gn gc,.slice A1 n1 c1,.int .i64 ka,.slice tA tn tc,.slice hA hn2 hc2,.slice A2 n2 c2,.int .i64 r.pos] 49)
     rw[hzA] at h
     exact h
    have HWD:Hid (((W4.alloc (.cells #[.int .i64 r.number,.bool r.cut,.int .i64 kb,.slice sA sn sc,.slice gA gn gc,.slice A1 n1 c1,.int .i64 ka,.slice tA tn tc,.slice hA hn2 hc2,.slice A2 n2 c2,.int .i64 r.pos] 49)).alloc (.cells #[] 49)).drew.heap[W4.heap.size]?=some (.cells #[.int .i64 r.number,.bool r.cut,.int .i64 kb,.slice sA sn sc,.slice gA gn gc,.slice A1 n1 c1,.int .i64 ka,.slice tA tn tc,.slice hA hn2 hc2,.slice A2 n2 c2,.int .i64 r.pos] 49 (0,0))):=((qa_ (W4.alloc (.cells #[.int .i64 r.number,.bool r.cut,.int .i64 kb,.slice sA sn sc,.slice gA gn gc,.slice A1 n1 c1,.int .i64 ka,.slice tA tn tc,.slice hA hn2 hc2,.slice A2 n2 c2,.int .i64 r.pos] 49)) (.cells #[] 49)).block _ (by omega)).trans (heap_alloc_new W4 (.cells #[.int .i64 r.number,.bool r.cut,.int .i64 kb,.slice sA sn sc,.slice gA gn gc,.slice A1 n1 c1,.int .i64 ka,.slice tA tn tc,.slice hA hn2 hc2,.slice A2 n2 c2,.int .i64 r.pos] 49))
    have HNC:Hid (W4.heap.size+1<((W4.alloc (.cells #[] 49)).alloc (.cells #[.int .i64 r.number,.bool r.cut,.int .i64 kb,.slice sA sn sc,.slice gA gn gc,.slice A1 n1 c1,.int .i64 ka,.slice tA tn tc,.slice hA hn2 hc2,.slice A2 n2 c2,.int .i64 r.pos] 49)).drew.heap.size∧W4.heap.size<((W4.alloc (.cells #[.int .i64 r.number,.bool r.cut,.int .i64 kb,.slice sA sn sc,.slice gA gn gc,.slice A1 n1 c1,.int .i64 ka,.slice tA tn tc,.slice hA hn2 hc2,.slice A2 n2 c2,.int .i64 r.pos] 49)).alloc (.cells #[] 49)).drew.heap.size):=⟨by show _<((W4.alloc (.cells #[] 49)).alloc (.cells #[.int .i64 r.number,.bool r.cut,.int .i64 kb,.slice sA sn sc,.slice gA gn gc,.slice A1 n1 c1,.int .i64 ka,.slice tA tn tc,.slice hA hn2 hc2,.slice A2 n2 c2,.int .i64 r.pos] 49)).heap.size;omega,by show _<((W4.alloc (.cells #[.int .i64 r.number,.bool r.cut,.int .i64 kb,.slice sA sn sc,.slice gA gn gc,.slice A1 n1 c1,.int .i64 ka,.slice tA tn tc,.slice hA hn2 hc2,.slice A2 n2 c2,.int .i64 r.pos] 49)).alloc (.cells #[] 49)).heap.size;omega⟩
    have HVB:Hid (¬ (Value.slice (some ⟨W4.heap.size,0,none⟩) 0 0).ownBlock=some (W4.heap.size+1)∧¬ (Value.slice (some ⟨W4.heap.size+1,0,none⟩) 0 0).ownBlock=some W4.heap.size):=⟨fun e=>absurd (show W4.heap.size=W4.heap.size+1 from Option.some.inj e) (by omega),fun e=>absurd (show W4.heap.size+1=W4.heap.size from Option.some.inj e) (by omega)⟩
    have HRA:=ha_ (rd_src (X:=fun b=>S b∨w.heap.size≤b) HS1.out HSX.out HG.out (HB2.out.trans (HBA.out.mono HB2.out.size)) (fun b e=>Nat.le_trans HB2.out.size (HOA.out.block b e).1) hj)
    have HRC:=ha_ (rd_src (X:=fun b=>S b∨w.heap.size≤b) HS1.out HSX.out HG.out (HB2.out.trans (HBC.out.mono HB2.out.size)) (fun b e=>Nat.le_trans HB2.out.size (HOC.out.block b e).1) hj)
    have HRD:=ha_ (rd_src (X:=fun b=>S b∨w.heap.size≤b) HS1.out HSX.out HG.out (HB2.out.trans (HBD.out.mono HB2.out.size)) (fun b e=>Nat.le_trans HB2.out.size (HOD.out.block b e).1) hj)
    have htl:(l.take j).length=j:=by rw[List.length_take];omega
    have H26:Hid (([]:List Rl).length+j≤1000000):=by show _≤_;rw[List.length_nil];omega
    have H29:Hid ((l.take j).length+1≤1000000):=by show _≤_;omega
    have H33:Hid ((l.take j++[r]).length+0≤1000000):=by show _≤_;rw[List.length_append,htl,List.length_cons,List.length_nil];omega
    clear htl
    have HLE:Hid (∀ v w9,OwnX ruleD (fun b=>S b∨w.heap.size≤b) 49 w9 W4.heap.size v (l.take j++[r])→Below W4.heap.size W4 w9→RdG ruleD w9 (fun b=>b<w9.heap.size∧(S b∨w.heap.size≤b)∧v.ownBlock≠some b) (if c=j then some ⟨b1,o1,none⟩ else some ⟨b1,o1+j*11,none⟩) 0 (c - j) (l.drop j)):=fun v w9 ho hb=>by
     have h:=rd_src2 (X:=fun b=>S b∨w.heap.size≤b) HS1.out HSX.out HG.out (HB2.out.trans (hb.mono HB2.out.size)) (A' := if c=j then some ⟨b1,o1,none⟩ else some ⟨b1,o1+j*11,none⟩) (fun b e=>Nat.le_trans HB2.out.size (ho.block b e).1) hj (fun b o hh _=>absurd hh (by omega))
     rw[Nat.sub_self] at h
     exact h
    clear hzE hzA hzC hzD
    go_region_held_law (fun w' => w'.cell? ⟨w.heap.size,0,none⟩=some (.int .i64 r.number)∧w'.cell? ⟨w.heap.size,1,none⟩=some (.bool r.cut)∧w'.cell? ⟨w.heap.size,2,none⟩=some (.int .i64 kb)∧w'.cell? ⟨w.heap.size,3,none⟩=some (.slice sA sn sc)∧w'.cell? ⟨w.heap.size,4,none⟩=some (.slice gA gn gc)∧w'.cell? ⟨w.heap.size,5,none⟩=some (.slice A1 n1 c1)∧w'.cell? ⟨w.heap.size,6,none⟩=some (.int .i64 ka)∧w'.cell? ⟨w.heap.size,7,none⟩=some (.slice tA tn tc)∧w'.cell? ⟨w.heap.size,8,none⟩=some (.slice hA hn2 hc2)∧w'.cell? ⟨w.heap.size,9,none⟩=some (.slice A2 n2 c2)∧w'.cell? ⟨w.heap.size,10,none⟩=some (.int .i64 r.pos)) (first|exact HS.out _ HB0.out|exact HS.out _ HBA.out|exact HS.out _ HBE.out|exact HS.out _ HBC.out|exact HS.out _ HBD.out|exact HS.out _ HB3.out|exact HS.out _ HB9.out|exact HS.out _ HB6.out|exact HS.out _ HB5.out) (first
     | ((with_reducible refine qh_ (D:=ruleD) ?_ (.tmp 22) (.tmp 25) 26 32 rfl rfl Tryz.underlying32 za_ rfl (by decide) (by decide) ?_ HOA.out ?_ HRA.out ?_ ?_ ?_);rfl;rfl;rfl;exact H26.out;exact HBA.out.size;intro v5 w5 ho5 hg5 hv5;have HO5:Hid (OwnX ruleD (fun b=>S b∨w.heap.size≤b) 49 w5 W4.heap.size v5 (l.take j)):=ho5;have HB5:Hid (Below W4.heap.size W4 w5):=qe_ HBA.out hg5 (fun i hi=>(HOA.out.block i hi).1);have HH:=p26A (X:=fun b=>S b∨w.heap.size≤b) HSS.out HSX.out HSN.out HR.out HBW4.out HO5.out HB5.out;have HO6:=ha_ HH.1;have HB6:=ha_ HH.2.1;have HR6:=ha_ HH.2.2;clear HH;clear ho5 hg5 hv5)
     | ((with_reducible refine qh_ (D:=ruleD) ?_ (.tmp 22) (.tmp 25) 26 32 rfl rfl Tryz.underlying32 za_ rfl (by decide) (by decide) ?_ HOC.out ?_ HRC.out ?_ ?_ ?_);rfl;rfl;rfl;exact H26.out;exact HBC.out.size;intro v5 w5 ho5 hg5 hv5;have HO5:Hid (OwnX ruleD (fun b=>S b∨w.heap.size≤b) 49 w5 W4.heap.size v5 (l.take j)):=ho5;have HB5:Hid (Below W4.heap.size W4 w5):=qe_ HBC.out hg5 (fun i hi=>(HOC.out.block i hi).1);have HO6:=HO5;have HB6:=HB5;have HR6:=ha_ (p26N (X:=fun b=>S b∨w.heap.size≤b) HSS.out HSX.out HSN.out HR.out HBW4.out HWC.out HNC.out.1 (Nat.le_succ_of_le HBW4.out.size) HVB.out.1 hg5 hv5 HO5.out HB5.out);clear ho5 hg5 hv5)
     | ((with_reducible refine qh_ (D:=ruleD) ?_ (.tmp 22) (.tmp 25) 26 32 rfl rfl Tryz.underlying32 za_ rfl (by decide) (by decide) ?_ HOD.out ?_ HRD.out ?_ ?_ ?_);rfl;rfl;rfl;exact H26.out;exact HBD.out.size;intro v5 w5 ho5 hg5 hv5;have HO5:Hid (OwnX ruleD (fun b=>S b∨w.heap.size≤b) 49 w5 W4.heap.size v5 (l.take j)):=ho5;have HB5:Hid (Below W4.heap.size W4 w5):=qe_ HBD.out hg5 (fun i hi=>(HOD.out.block i hi).1);have HO6:=HO5;have HB6:=HB5;have HR6:=ha_ (p26N (X:=fun b=>S b∨w.heap.size≤b) HSS.out HSX.out HSN.out HR.out HBW4.out HWD.out HNC.out.2 HBW4.out.size HVB.out.2 hg5 hv5 HO5.out HB5.out);clear ho5 hg5 hv5)
     | ((with_reducible refine qh_ (D:=ruleD) ?_ (.tmp 26) (.tmp 28) 29 32 rfl rfl Tryz.underlying32 za_ rfl (by decide) (by decide) ?_ HO6.out ?_ HR6.out ?_ ?_ ?_);rfl;rfl;rfl;exact H29.out;exact HB6.out.size;intro v9 w9 ho9 hg9 hv9;have HO9:Hid (OwnX ruleD (fun b=>S b∨w.heap.size≤b) 49 w9 W4.heap.size v9 (l.take j++[r])):=ho9;have HB9:Hid (Below W4.heap.size W4 w9):=qe_ HB6.out hg9 (fun i hi=>(HO6.out.block i hi).1);have HR9:=ha_ (HLE.out v9 w9 HO9.out HB9.out);clear ho9 hg9 hv9)
     | ((with_reducible refine qh_ (D:=ruleD) ?_ (.tmp 29) (.tmp 32) 33 32 rfl rfl Tryz.underlying32 za_ rfl (by decide) (by decide) ?_ HO9.out ?_ HR9.out ?_ ?_ ?_);rfl;rfl;rfl;exact H33.out;exact HB9.out.size;intro v3 w3 ho3 hg3 hv3;have HO3:Hid (OwnX ruleD (fun b=>S b∨w.heap.size≤b) 49 w3 W4.heap.size v3 ((l.take j++[r])++l.drop j)):=ho3;have HB3:Hid (Below W4.heap.size W4 w3):=qe_ HB9.out hg3 (fun i hi=>(HO9.out.block i hi).1);clear ho3 hg3 hv3))
    all_goals (
     obtain ⟨A9,c9,e9,hrd⟩:=HO3.out.rd
     rw[List.append_assoc,← HE.out] at hrd e9
     obtain rfl:=e9
     have HRR:Hid (RdG ruleD w3 (fun b=>S b∨(w.heap.size≤b∧b<w3.heap.size)) A9 (rlPut l r).length c9 (rlPut l r)):=hrd.keep (fun b hb=>by
      rcases hb.2 with (h|h)|h
      ·exact .inl h
      ·exact .inr ⟨h,hb.1⟩
      ·exact .inr ⟨Nat.le_trans HBW4.out.size h,hb.1⟩) (fun _ _=>rfl)
     have HBZ:=ha_ (HBW4.out.trans (HB3.out.mono HBW4.out.size))
     clear hrd
     go_wp2_with fail
     all_goals go_ret
     all_goals exact ⟨A9,_,c9,rfl,HRR.out,HBZ.out⟩)

def rgX:Rdr (Int × Int) where
 k:=2
 at_:=fun _ _ cs x=>cs=[.int .i64 x.1,.int .i64 x.2]
 len:=fun e=>by rw[e];rfl
 one:=fun e u hu=>by rw[e] at hu;simp at hu;rcases hu with rfl|rfl <;> rfl
 keep:=fun e _ _=>e
def inX:Rdr Int where
 k:=1
 at_:=fun _ _ cs x=>cs=[.int .i64 x]
 len:=fun e=>by rw[e];rfl
 one:=fun e u hu=>by rw[e] at hu;simp at hu;subst hu;rfl
 keep:=fun e _ _=>e
theorem RgAt.g {w:World}{S:Nat→Prop}{A:Option Addr}{n c:Nat}{L:List (Int × Int)}(h:RgAt w S A n c L):RdG rgX w S A n c L:=by
 refine ⟨h.len,h.cap,h.capm,fun i=>match L[i]? with|some x=>[.int .i64 x.1,.int .i64 x.2]|none=>[],fun hn=>?_,fun i x hx=>by show (match L[i]? with|some x=>_|none=>[])=_;rw[hx]⟩
 obtain ⟨b,off,e,hb,hc⟩:=h.at_ hn
 refine ⟨b,off,e,hb,fun i hi j u hu=>?_⟩
 have hx:=List.getElem?_eq_getElem (l:=L) (i:=i) (by have:=h.len;omega)
 obtain ⟨h1,h2⟩:=hc i _ hx
 simp only[hx] at hu
 match j,hu with
 | 0,hu=>injection hu with hu;subst hu;exact h1
 | 1,hu=>injection hu with hu;subst hu;rw[← Nat.add_assoc];exact h2
 | j+2,hu=>cases hu
theorem RdG.rgx {w:World}{S:Nat→Prop}{A:Option Addr}{n c:Nat}{L:List (Int × Int)}(h:RdG rgX w S A n c L):RgAt w S A n c L:=by
 obtain ⟨h1,h2,h3,cs,h4,h5⟩:=h
 refine ⟨h1,h2,h3,fun hn=>?_⟩
 obtain ⟨b,off,e,hb,hc⟩:=h4 hn
 refine ⟨b,off,e,hb,fun j r hr=>?_⟩
 have hj:j<n:=by have:=(List.getElem?_eq_some_iff.1 hr).1;omega
 have e5:cs j=[.int .i64 r.1,.int .i64 r.2]:=h5 j r hr
 have q:=hc j hj
 rw[e5] at q
 exact ⟨q 0 _ rfl,by have:=q 1 _ rfl;rwa [← Nat.add_assoc] at this⟩
theorem InAt.g {w:World}{S:Nat→Prop}{A:Option Addr}{n c:Nat}{L:List Int}(h:InAt w S A n c L):RdG inX w S A n c L:=by
 refine ⟨h.len,h.cap,h.capm,fun i=>match L[i]? with|some x=>[.int .i64 x]|none=>[],fun hn=>?_,fun i x hx=>by show (match L[i]? with|some x=>_|none=>[])=_;rw[hx]⟩
 obtain ⟨b,off,e,hb,hc⟩:=h.at_ hn
 refine ⟨b,off,e,hb,fun i hi j u hu=>?_⟩
 have hx:=List.getElem?_eq_getElem (l:=L) (i:=i) (by have:=h.len;omega)
 have h1:=hc i _ hx
 simp only[hx] at hu
 match j,hu with
 | 0,hu=>injection hu with hu;subst hu;show w.cell? ⟨b,off+(i*1+0),none⟩=_;rw[Nat.mul_one,Nat.add_zero];exact h1
 | j+1,hu=>cases hu
theorem RdG.intx {w:World}{S:Nat→Prop}{A:Option Addr}{n c:Nat}{L:List Int}(h:RdG inX w S A n c L):InAt w S A n c L:=by
 obtain ⟨h1,h2,h3,cs,h4,h5⟩:=h
 refine ⟨h1,h2,h3,fun hn=>?_⟩
 obtain ⟨b,off,e,hb,hc⟩:=h4 hn
 refine ⟨b,off,e,hb,fun j r hr=>?_⟩
 have hj:j<n:=by have:=(List.getElem?_eq_some_iff.1 hr).1;omega
 have e5:cs j=[.int .i64 r]:=h5 j r hr
 have q:=hc j hj
 rw[e5] at q
 have:=q 0 _ rfl
 rwa [show inX.k=1 from rfl,Nat.mul_one,Nat.add_zero] at this
theorem info_rgX:(Tryz.prog.info? 108).map (fun i=>(i.zero,i.size,i.bytes))=some (some (.agg #[.int .i64 0,.int .i64 0]),2,16):=by kernel_rfl
theorem info_inX:(Tryz.prog.info? 3).map (fun i=>(i.zero,i.size,i.bytes))=some (some (.int .i64 0),1,8):=by kernel_rfl
theorem eq_nil_slice {P:Program}(w:World) (d:Nat) (t e:TypeId) (a:Option Addr) (l c:Nat) (h:P.underlying t=some (.slice e)):(Op.equalIn (d+1) t (.slice a l c) (.slice none 0 0)).run P w=.ok a.isNone w:=by
 cases a <;> simp[Op.equalIn,run_underlying h]
theorem qs_ {P:Program}(w:World) (t e:TypeId) (a:Option Addr) (l c:Nat) (h:P.underlying t=some (.slice e)):(binOp .eql t (.slice a l c) (.slice none 0 0)).run P w=.ok (.bool a.isNone) w:=by
 have h1:(Op.equal t (.slice a l c) (.slice none 0 0)).run P w=.ok a.isNone w:=eq_nil_slice w 9999 t e a l c h
 simp[binOp,h1]
def ClP {α:Type}(D:Rdr α) (e:TypeId) (S:Nat→Prop) (w:World) (l:List α) (en:Ending) (w' : World):Prop:=∃ A c,en=.returned (.slice A l.length c)∧OwnX D S e w' w.heap.size (.slice A l.length c) l∧Below w.heap.size w w'
set_option maxHeartbeats 1000000 in
theorem clone_rg {w:World}{S:Nat→Prop}(hS:∀ b,S b→b<w.heap.size){A:Option Addr}{n c:Nat}{l}(h:RdG rgX w S A n c l) (hn6:n≤1000000):Calls Tryz.prog 52 #[.slice A n c] w (ClP rgX 108 S w l):=by
 have hl:=h.len
 cases A with
 | none =>
  have h0:n=0:=by
   rcases Nat.eq_zero_or_pos n with e|e
   ·exact e
   ·obtain ⟨_,_,_,_,e2,_⟩:=h.got e
    cases e2
  subst h0
  have e0:=List.eq_nil_of_length_eq_zero hl
  subst e0
  clear h
  have q0:=qs_ (P:=Tryz.prog) w 44 108 none 0 c Tryz.underlying44
  go_enter Tryz.func52,Tryz.ntmps52
  go_wp2_with fail
  go_ret
  exact ⟨none,0,rfl,OwnX.nil _ _ _ _ _,Below.refl _ _⟩
 | some a =>
  have HB:Hid (Below w.heap.size w (w.alloc (.cells #[] 108))):=qa_ _ _
  have HO:=ha_ (qz_ rgX S w w.heap.size 108 (Nat.le_refl _) (by decide))
  have HR:Hid (RdG rgX (w.alloc (.cells #[] 108)) (fun b=>b<(w.alloc (.cells #[] 108)).heap.size∧S b∧(Value.slice (some ⟨w.heap.size,0,none⟩) 0 0).ownBlock≠some b) (some a) n c l):=h.keep (fun b hb=>⟨Nat.lt_of_lt_of_le (hS b hb) HB.out.size,hb,fun e=>by have h1:=hS b hb;have h2:w.heap.size=b:=Option.some.inj e;omega⟩) (fun p hp=>HB.out.cell (hS _ hp))
  clear h hS
  have q0:=qs_ (P:=Tryz.prog) w 44 108 (some a) n c Tryz.underlying44
  go_enter Tryz.func52,Tryz.ntmps52
  go_wp2_with (at_builtin;refine apps_x (D:=rgX) (X:=S) rfl _ _ 44 rfl Tryz.underlying44 info_rgX rfl (by decide) (by decide) rfl HO.out rfl HR.out (by rw[List.length_nil];omega) HB.out.size ?_;intro v5 w5 ho5 hg5 hv5)
  have HO5:Hid (OwnX rgX S 108 w5 w.heap.size v5 l):=ho5
  obtain ⟨A5,c5,e5,_⟩:=HO5.out.rd
  subst e5
  have HB5:Hid (Below w.heap.size w w5):=qe_ HB.out hg5 (fun i hi=>(HO.out.block i hi).1)
  clear ho5 hg5 hv5 HR HO HB
  go_wp2_with fail
  go_ret
  exact ⟨A5,c5,rfl,HO5.out,HB5.out⟩
set_option maxHeartbeats 1000000 in
theorem clone_in {w:World}{S:Nat→Prop}(hS:∀ b,S b→b<w.heap.size){A:Option Addr}{n c:Nat}{l}(h:RdG inX w S A n c l) (hn6:n≤1000000):Calls Tryz.prog 54 #[.slice A n c] w (ClP inX 3 S w l):=by
 have hl:=h.len
 cases A with
 | none =>
  have h0:n=0:=by
   rcases Nat.eq_zero_or_pos n with e|e
   ·exact e
   ·obtain ⟨_,_,_,_,e2,_⟩:=h.got e
    cases e2
  subst h0
  have e0:=List.eq_nil_of_length_eq_zero hl
  subst e0
  clear h
  have q0:=qs_ (P:=Tryz.prog) w 23 3 none 0 c Tryz.underlying23
  go_enter Tryz.func54,Tryz.ntmps54
  go_wp2_with fail
  go_ret
  exact ⟨none,0,rfl,OwnX.nil _ _ _ _ _,Below.refl _ _⟩
 | some a =>
  have HB:Hid (Below w.heap.size w (w.alloc (.cells #[] 3))):=qa_ _ _
  have HO:=ha_ (qz_ inX S w w.heap.size 3 (Nat.le_refl _) (by decide))
  have HR:Hid (RdG inX (w.alloc (.cells #[] 3)) (fun b=>b<(w.alloc (.cells #[] 3)).heap.size∧S b∧(Value.slice (some ⟨w.heap.size,0,none⟩) 0 0).ownBlock≠some b) (some a) n c l):=h.keep (fun b hb=>⟨Nat.lt_of_lt_of_le (hS b hb) HB.out.size,hb,fun e=>by have h1:=hS b hb;have h2:w.heap.size=b:=Option.some.inj e;omega⟩) (fun p hp=>HB.out.cell (hS _ hp))
  clear h hS
  have q0:=qs_ (P:=Tryz.prog) w 23 3 (some a) n c Tryz.underlying23
  go_enter Tryz.func54,Tryz.ntmps54
  go_wp2_with (at_builtin;refine apps_x (D:=inX) (X:=S) rfl _ _ 23 rfl Tryz.underlying23 info_inX rfl (by decide) (by decide) rfl HO.out rfl HR.out (by rw[List.length_nil];omega) HB.out.size ?_;intro v5 w5 ho5 hg5 hv5)
  have HO5:Hid (OwnX inX S 3 w5 w.heap.size v5 l):=ho5
  obtain ⟨A5,c5,e5,_⟩:=HO5.out.rd
  subst e5
  have HB5:Hid (Below w.heap.size w w5):=qe_ HB.out hg5 (fun i hi=>(HO.out.block i hi).1)
  clear ho5 hg5 hv5 HR HO HB
  go_wp2_with fail
  go_ret
  exact ⟨A5,c5,rfl,HO5.out,HB5.out⟩
set_option maxHeartbeats 1000000 in
theorem clone_str {w:World}{S:Nat→Prop}(hS:∀ b,S b→b<w.heap.size){A:Option Addr}{n c:Nat}{l}(h:RdG strD w S A n c l) (hn6:n≤1000000):Calls Tryz.prog 31 #[.slice A n c] w (ClP strD 9 S w l):=by
 have hl:=h.len
 cases A with
 | none =>
  have h0:n=0:=by
   rcases Nat.eq_zero_or_pos n with e|e
   ·exact e
   ·obtain ⟨_,_,_,_,e2,_⟩:=h.got e
    cases e2
  subst h0
  have e0:=List.eq_nil_of_length_eq_zero hl
  subst e0
  clear h
  have q0:=qs_ (P:=Tryz.prog) w 34 9 none 0 c Tryz.underlying34
  go_enter Tryz.func31,Tryz.ntmps31
  go_wp2_with fail
  go_ret
  exact ⟨none,0,rfl,OwnX.nil _ _ _ _ _,Below.refl _ _⟩
 | some a =>
  have HB:Hid (Below w.heap.size w (w.alloc (.cells #[] 9))):=qa_ _ _
  have HO:=ha_ (qz_ strD S w w.heap.size 9 (Nat.le_refl _) (by decide))
  have HR:Hid (RdG strD (w.alloc (.cells #[] 9)) (fun b=>b<(w.alloc (.cells #[] 9)).heap.size∧S b∧(Value.slice (some ⟨w.heap.size,0,none⟩) 0 0).ownBlock≠some b) (some a) n c l):=h.keep (fun b hb=>⟨Nat.lt_of_lt_of_le (hS b hb) HB.out.size,hb,fun e=>by have h1:=hS b hb;have h2:w.heap.size=b:=Option.some.inj e;omega⟩) (fun p hp=>HB.out.cell (hS _ hp))
  clear h hS
  have q0:=qs_ (P:=Tryz.prog) w 34 9 (some a) n c Tryz.underlying34
  go_enter Tryz.func31,Tryz.ntmps31
  go_wp2_with (at_builtin;refine apps_x (D:=strD) (X:=S) rfl _ _ 34 rfl Tryz.underlying34 info_str rfl (by decide) (by decide) rfl HO.out rfl HR.out (by rw[List.length_nil];omega) HB.out.size ?_;intro v5 w5 ho5 hg5 hv5)
  have HO5:Hid (OwnX strD S 9 w5 w.heap.size v5 l):=ho5
  obtain ⟨A5,c5,e5,_⟩:=HO5.out.rd
  subst e5
  have HB5:Hid (Below w.heap.size w w5):=qe_ HB.out hg5 (fun i hi=>(HO.out.block i hi).1)
  clear ho5 hg5 hv5 HR HO HB
  go_wp2_with fail
  go_ret
  exact ⟨A5,c5,rfl,HO5.out,HB5.out⟩
set_option maxHeartbeats 1000000 in
theorem clone_var {w:World}{S:Nat→Prop}(hS:∀ b,S b→b<w.heap.size){A:Option Addr}{n c:Nat}{l}(h:RdG varD w S A n c l) (hn6:n≤1000000):Calls Tryz.prog 29 #[.slice A n c] w (ClP varD 73 S w l):=by
 have hl:=h.len
 cases A with
 | none =>
  have h0:n=0:=by
   rcases Nat.eq_zero_or_pos n with e|e
   ·exact e
   ·obtain ⟨_,_,_,_,e2,_⟩:=h.got e
    cases e2
  subst h0
  have e0:=List.eq_nil_of_length_eq_zero hl
  subst e0
  clear h
  have q0:=qs_ (P:=Tryz.prog) w 31 73 none 0 c Tryz.underlying31
  go_enter Tryz.func29,Tryz.ntmps29
  go_wp2_with fail
  go_ret
  exact ⟨none,0,rfl,OwnX.nil _ _ _ _ _,Below.refl _ _⟩
 | some a =>
  have HB:Hid (Below w.heap.size w (w.alloc (.cells #[] 73))):=qa_ _ _
  have HO:=ha_ (qz_ varD S w w.heap.size 73 (Nat.le_refl _) (by decide))
  have HR:Hid (RdG varD (w.alloc (.cells #[] 73)) (fun b=>b<(w.alloc (.cells #[] 73)).heap.size∧S b∧(Value.slice (some ⟨w.heap.size,0,none⟩) 0 0).ownBlock≠some b) (some a) n c l):=h.keep (fun b hb=>⟨Nat.lt_of_lt_of_le (hS b hb) HB.out.size,hb,fun e=>by have h1:=hS b hb;have h2:w.heap.size=b:=Option.some.inj e;omega⟩) (fun p hp=>HB.out.cell (hS _ hp))
  clear h hS
  have q0:=qs_ (P:=Tryz.prog) w 31 73 (some a) n c Tryz.underlying31
  go_enter Tryz.func29,Tryz.ntmps29
  go_wp2_with (at_builtin;refine apps_x (D:=varD) (X:=S) rfl _ _ 31 rfl Tryz.underlying31 info_var rfl (by decide) (by decide) rfl HO.out rfl HR.out (by rw[List.length_nil];omega) HB.out.size ?_;intro v5 w5 ho5 hg5 hv5)
  have HO5:Hid (OwnX varD S 73 w5 w.heap.size v5 l):=ho5
  obtain ⟨A5,c5,e5,_⟩:=HO5.out.rd
  subst e5
  have HB5:Hid (Below w.heap.size w w5):=qe_ HB.out hg5 (fun i hi=>(HO.out.block i hi).1)
  clear ho5 hg5 hv5 HR HO HB
  go_wp2_with fail
  go_ret
  exact ⟨A5,c5,rfl,HO5.out,HB5.out⟩
set_option maxHeartbeats 1000000 in
theorem clone_rule {w:World}{S:Nat→Prop}(hS:∀ b,S b→b<w.heap.size){A:Option Addr}{n c:Nat}{l}(h:RdG ruleD w S A n c l) (hn6:n≤1000000):Calls Tryz.prog 27 #[.slice A n c] w (ClP ruleD 49 S w l):=by
 have hl:=h.len
 cases A with
 | none =>
  have h0:n=0:=by
   rcases Nat.eq_zero_or_pos n with e|e
   ·exact e
   ·obtain ⟨_,_,_,_,e2,_⟩:=h.got e
    cases e2
  subst h0
  have e0:=List.eq_nil_of_length_eq_zero hl
  subst e0
  clear h
  have q0:=qs_ (P:=Tryz.prog) w 32 49 none 0 c Tryz.underlying32
  go_enter Tryz.func27,Tryz.ntmps27
  go_wp2_with fail
  go_ret
  exact ⟨none,0,rfl,OwnX.nil _ _ _ _ _,Below.refl _ _⟩
 | some a =>
  have HB:Hid (Below w.heap.size w (w.alloc (.cells #[] 49))):=qa_ _ _
  have HO:=ha_ (qz_ ruleD S w w.heap.size 49 (Nat.le_refl _) (by decide))
  have HR:Hid (RdG ruleD (w.alloc (.cells #[] 49)) (fun b=>b<(w.alloc (.cells #[] 49)).heap.size∧S b∧(Value.slice (some ⟨w.heap.size,0,none⟩) 0 0).ownBlock≠some b) (some a) n c l):=h.keep (fun b hb=>⟨Nat.lt_of_lt_of_le (hS b hb) HB.out.size,hb,fun e=>by have h1:=hS b hb;have h2:w.heap.size=b:=Option.some.inj e;omega⟩) (fun p hp=>HB.out.cell (hS _ hp))
  clear h hS
  have q0:=qs_ (P:=Tryz.prog) w 32 49 (some a) n c Tryz.underlying32
  go_enter Tryz.func27,Tryz.ntmps27
  go_wp2_with (at_builtin;refine apps_x (D:=ruleD) (X:=S) rfl _ _ 32 rfl Tryz.underlying32 za_ rfl (by decide) (by decide) rfl HO.out rfl HR.out (by rw[List.length_nil];omega) HB.out.size ?_;intro v5 w5 ho5 hg5 hv5)
  have HO5:Hid (OwnX ruleD S 49 w5 w.heap.size v5 l):=ho5
  obtain ⟨A5,c5,e5,_⟩:=HO5.out.rd
  subst e5
  have HB5:Hid (Below w.heap.size w w5):=qe_ HB.out hg5 (fun i hi=>(HO.out.block i hi).1)
  clear ho5 hg5 hv5 HR HO HB
  go_wp2_with fail
  go_ret
  exact ⟨A5,c5,rfl,HO5.out,HB5.out⟩
def numS (s:List ((Int × Int × Int) × Value) × Int) (r:Int × Int):List ((Int × Int × Int) × Value) × Int :=
 match idxv (s.2,r.1,r.2) s.1 0 with
 | some p=>(s.1,intOf p.2)
 | none=>(s.1++[((s.2,r.1,r.2),.int .i64 (s.1.length+1))],s.1.length+1)
def numL (M:List ((Int × Int × Int) × Value)) (L:List (Int × Int)):List ((Int × Int × Int) × Value) × Int:=L.foldl numS (M,0)
def AllInt (M:List ((Int × Int × Int) × Value)):Prop:=∀ p∈M,p.2=.int .i64 (intOf p.2)
theorem idxv_mem {κ:Type} [DecidableEq κ] {k:κ}:∀ {L:List (κ × Value)}{i:Nat}{q:Nat × Value},idxv k L i=some q→∃ p∈L,p.2=q.2
 | [],_,_,h=>by cases h
 | p :: t,i,q,h=>by
  unfold idxv at h
  by_cases hk:k=p.1
  ·rw[if_pos hk] at h;injection h with h;subst h;exact ⟨p,by simp,rfl⟩
  ·rw[if_neg hk] at h
   obtain ⟨p', h1,h2⟩:=idxv_mem h
   exact ⟨p', by simp[h1],h2⟩
theorem numS_ok {s:List ((Int × Int × Int) × Value) × Int}(h:AllInt s.1) (r:Int × Int):AllInt (numS s r).1∧(numS s r).1.length≤s.1.length+1:=by
 unfold numS
 cases idxv (s.2,r.1,r.2) s.1 0 with
 | some p=>exact ⟨h,by simp⟩
 | none=>exact ⟨fun p hp=>by
   rcases List.mem_append.1 hp with hp|hp
   ·exact h p hp
   ·simp at hp;subst hp;rfl,by simp⟩
theorem numT_ok {M:List ((Int × Int × Int) × Value)}(h:AllInt M):∀ L:List (Int × Int),AllInt (numL M L).1∧(numL M L).1.length≤M.length+L.length:=by
 intro L
 unfold numL
 suffices ∀ (L:List (Int × Int)) (s:List ((Int × Int × Int) × Value) × Int),AllInt s.1→AllInt (L.foldl numS s).1∧(L.foldl numS s).1.length≤s.1.length+L.length from this L (M,0) h
 intro L
 induction L with
 | nil=>intro s hs;exact ⟨hs,by simp⟩
 | cons r t ih =>
  intro s hs
  obtain ⟨h1,h2⟩:=numS_ok hs r
  obtain ⟨h3,h4⟩:=ih (numS s r) h1
  exact ⟨h3,by simp only[List.length_cons];rw[List.foldl_cons];omega⟩
theorem numL_take (M:List ((Int × Int × Int) × Value)){L:List (Int × Int)}{j:Nat}{r:Int × Int}(h:L[j]?=some r):numL M (L.take (j+1))=numS (numL M (L.take j)) r:=by
 unfold numL
 rw[List.take_add_one,h,List.foldl_append]
 rfl
theorem cells2 {w:World}{N:Nat}{x0 x1:Value}{t:TypeId}(h:w.heap[N]?=some (.cells #[x0,x1] t (0,0))):w.cell? ⟨N,0,none⟩=some x0∧w.cell? ⟨N,1,none⟩=some x1:=by
 refine ⟨?_,?_⟩ <;> (rw[cell_of_row _ _ _ _ _ _ h];rfl)
theorem gcells3 {w:World}{N:Nat}{x0 x1 x2:Value}{t:TypeId}(h:w.heap[N]?=some (.cells #[x0,x1,x2] t (0,0))):w.cell? ⟨N,0,none⟩=some x0∧w.cell? ⟨N,1,none⟩=some x1∧w.cell? ⟨N,2,none⟩=some x2:=by
 refine ⟨?_,?_,?_⟩ <;> (rw[cell_of_row _ _ _ _ _ _ h];rfl)
theorem zero_int (w:World):(zeroValue 3).run Tryz.prog w=.ok (.int .i64 0) w:=by
 have h:(Tryz.prog.info? 3).map (·.zero)=some (some (.int .i64 0)):=by kernel_rfl
 cases e:Tryz.prog.info? 3 with
 | none=>rw[e] at h;cases h
 | some j =>
  rw[e] at h
  simp at h
  simp[zeroValue,typeInfo,e,h]
def NumP (m:Nat) (w:World) (M:List ((Int × Int × Int) × Value)) (L:List (Int × Int)) (en:Ending) (w' : World):Prop:=en=.returned (.int .i64 (numL M L).2)∧EMap encT w' (numL M L).1 m∧Fx (fun b=>b=m) w w'
set_option maxHeartbeats 4000000 in
theorem number_any {w:World}{m:Nat}{M:List ((Int × Int × Int) × Value)}(hm:EMap encT w M m) (hi:AllInt M) (hml:M.length≤100000){A:Option Addr}{n c:Nat}{L:List (Int × Int)}(h:RgAt w (fun b=>b<w.heap.size∧b≠m) A n c L) (hn5:n≤100000) :
  Calls Tryz.prog 70 #[.map (some m),.slice A n c] w (NumP m w M L):=by
 have hl:=h.len
 have HA:=ha_ h
 have HM:=ha_ hm
 have HI:=ha_ hi
 clear h hm hi
 go_enter Tryz.func70,Tryz.ntmps70
 go_wp2_with fail
 go_loopw [5,13] (fun nv iv wx=>∃ j:Nat,j≤n∧iv=.int .i64 j∧nv=.int .i64 (numL M (L.take j)).2∧Hid (EMap encT wx (numL M (L.take j)).1 m)∧Hid (Fx (fun b=>b=m) w wx)) (fun _ iv _=>n - (intOf iv).toNat)
 case atStart=>exact ⟨0,by omega,rfl,rfl,HM.out,Fx.refl _ _⟩
 case round =>
  obtain ⟨j,hj,rfl,rfl,HE,HF⟩:=hrel
  rcases (⟨wr,rfl⟩:∃ WL:World,WL=wr) with ⟨WL,rfl⟩
  by_cases hlt:j<n
  ·obtain ⟨b,off,lo,hi,eA,hb,hr,k0,k1⟩:=HA.out.got hlt
   subst eA
   have hj0:(0:Int)≤(j:Int):=by omega
   have hj1:(j:Int)<(n:Int):=by omega
   have s0:WL.cell? ⟨b,off+j*2,none⟩=some (.int .i64 lo):=(HF.out.cell (p:=⟨b,_,none⟩) hb.1 hb.2).trans k0
   have s1:WL.cell? ⟨b,off+j*2+1,none⟩=some (.int .i64 hi):=(HF.out.cell (p:=⟨b,_,none⟩) hb.1 hb.2).trans k1
   have HT:=ha_ (numL_take M hr)
   obtain ⟨o1,o2⟩:=numT_ok HI.out (L.take j)
   have HOK:Hid (AllInt (numL M (L.take j)).1):=o1
   have hlen:(numL M (L.take j)).1.length≤200000:=by rw[List.length_take] at o2;omega
   clear k0 k1 hb hr o1 o2
   generalize hst:numL M (L.take j)=st at *
   obtain ⟨Mj,nj⟩:=st
   have hlen2:Mj.length≤200000:=hlen
   -- the two boxes
   have HB2:Hid (Below WL.heap.size WL ((WL.alloc (.cells #[.int .i64 lo,.int .i64 hi] 108)).alloc (.cells #[.int .i64 nj,.int .i64 lo,.int .i64 hi] 167))):=(qa_ WL _).trans ((qa_ _ _).mono (by simp))
   have HN7:Hid (((WL.alloc (.cells #[.int .i64 lo,.int .i64 hi] 108)).alloc (.cells #[.int .i64 nj,.int .i64 lo,.int .i64 hi] 167)).heap[WL.heap.size+1]?=some (.cells #[.int .i64 nj,.int .i64 lo,.int .i64 hi] 167 (0,0))):=by
    have:=heap_alloc_new (WL.alloc (.cells #[.int .i64 lo,.int .i64 hi] 108)) (.cells #[.int .i64 nj,.int .i64 lo,.int .i64 hi] 167)
    rwa [show (WL.alloc (.cells #[.int .i64 lo,.int .i64 hi] 108)).heap.size=WL.heap.size+1 by simp] at this
   have hm8:m<WL.heap.size:=HE.out.lt
   have HE8:=ha_ (HE.out.on HB2.out)
   have HF8:=ha_ (HF.out.below HB2.out)
   go_upto_region 6 with fail
   generalize hW8:((WL.alloc (.cells #[.int .i64 lo,.int .i64 hi] 108)).alloc (.cells #[.int .i64 nj,.int .i64 lo,.int .i64 hi] 167))=W8 at *
   clear hW8 s0 s1 HE HF
   obtain ⟨q0,q1,q2⟩:=gcells3 HN7.out
   have hz:(zeroValue 3).run Tryz.prog W8=.ok (.int .i64 0) W8:=zero_int W8
   cases hx:idxv (nj,lo,hi) Mj 0 with
   | some p =>
    have hp:p.2=.int .i64 (intOf p.2):=by
     obtain ⟨p', h1,h2⟩:=idxv_mem hx
     rw[← h2];exact HOK.out p' h1
    have hl9:=elookup keyT HE8.out (mt:=59) Tryz.underlying59 hz (nj,lo,hi) (r:=.tuple #[.int .i64 (intOf p.2),.bool true]) (by rw[hx];exact congrArg (fun v=>Value.tuple #[v,.bool true]) hp)
    have hl9:Sem.run Tryz.prog (Instr.lookup 59 (.map (some m)) (.agg #[.int .i64 nj,.int .i64 lo,.int .i64 hi]) true) W8=.ok (.tuple #[.int .i64 (intOf p.2),.bool true]) W8:=hl9
    have HS:Hid (numL M (L.take (j+1))=(Mj,intOf p.2)):=by
     show _=_
     rw[HT.out];unfold numS;rw[hx]
    clear hx hp hz HN7 HT HB2
    go_wp2_with fail
    go_roundw
    case rel=>exact ⟨j+1,by omega,by go_num,by rw[HS.out],by rw[HS.out];exact HE8.out,HF8.out⟩
    case measure=>simp[intOf];omega
   | none =>
    have hl9:=elookup keyT HE8.out (mt:=59) Tryz.underlying59 hz (nj,lo,hi) (r:=.tuple #[.int .i64 0,.bool false]) (by rw[hx])
    have hl9:Sem.run Tryz.prog (Instr.lookup 59 (.map (some m)) (.agg #[.int .i64 nj,.int .i64 lo,.int .i64 hi]) true) W8=.ok (.tuple #[.int .i64 0,.bool false]) W8:=hl9
    obtain ⟨es,ck,hu,he⟩:=eupdate keyT HE8.out (mt:=59) Tryz.underlying59 (nj,lo,hi) hx (.int .i64 ((Mj.length:Int)+1))
    have hu:Sem.run Tryz.prog (Instr.mapUpdate 59 (.map (some m)) (.agg #[.int .i64 nj,.int .i64 lo,.int .i64 hi]) (.int .i64 ((Mj.length:Int)+1))) W8=.ok () { W8 with heap:=W8.heap.setIfInBounds m (.map es ck) }:=hu
    obtain ⟨es0,ck0,hes,hesz⟩:=emap_len HE8.out
    have HS:Hid (numL M (L.take (j+1))=(Mj++[((nj,lo,hi),.int .i64 ((Mj.length:Int)+1))],(Mj.length:Int)+1)):=by
     show _=_
     rw[HT.out];unfold numS;rw[hx]
    have HE9:=ha_ he
    have HF9:Hid (Fx (fun b=>b=m) w { W8 with heap:=W8.heap.setIfInBounds m (.map es ck) }):=HF8.out.trans (Fx.put (X:=fun b=>b=m) W8 rfl _) (fun _ _ h=>h)
    have hlen9:(Builtin.len_ #[59] 3 #[.map (some m)]).run Tryz.prog W8=.ok (.int .i64 (Mj.length:Int)) W8:=by
     rw[← hesz]
     simp[Builtin.len_,run_underlying Tryz.underlying59,MapKept.run_getObj_map hes,goInt,Result.andThen]
    have hz9:IntKind.i64.wrap ((Mj.length:Int)+1)=(Mj.length:Int)+1:=IntWalk.i64_in _ (by omega)
    clear hx hz HN7 HT he HB2 hes hesz
    go_wp2_with fail
    go_roundw
    case rel=>exact ⟨j+1,by omega,by go_num,by rw[HS.out],by rw[HS.out];exact HE9.out,HF9.out⟩
    case measure=>simp[intOf];omega
  ·obtain rfl:j=n:=by omega
   have ht:L.take j=L:=List.take_of_length_le (by omega)
   rw[ht] at HE ⊢
   go_wp2_with fail
   go_ret
   exact ⟨rfl,HE.out,HF.out⟩

theorem OwnX.row {α:Type}{D:Rdr α}{X:Nat→Prop}{e:TypeId}{w:World}{B:Nat}{v:Value}{l:List α}(h:OwnX D X e w B v l){b:Nat}(hb:v.ownBlock=some b):∃ cs,w.heap[b]?=some (.cells cs e (0,0)):=by
 obtain ⟨cs,ho,_⟩:=h
 rcases ho.2 with ⟨h1,h2⟩|⟨g,cap,cur,h1,hB,hg,_⟩
 ·rw[h1] at hb;cases hb
 ·rw[h1] at hb
  have e1:g=b:=Option.some.inj hb
  subst e1
  exact ⟨cur,hg⟩
theorem OwnX.fx {α:Type}{D:Rdr α}{X Y:Nat→Prop}{e:TypeId}{w w' : World}{B:Nat}{v:Value}{l:List α}(h:OwnX D X e w B v l) (hf:Fx Y w w') (hX:∀ b,X b→¬ Y b) (hv:∀ b,v.ownBlock=some b→¬ Y b):OwnX D X e w' B v l:=by
 have hlt:=h.block
 obtain ⟨cs,ho,hk⟩:=h
 exact ⟨cs,prow_keep ho fun i _ h2 h3=>hf.block i h2 (hv i h3),fun i x hx=>D.keep (hk i x hx) (fun b hb=>⟨Nat.lt_of_lt_of_le hb.1 hf.size,hb.2⟩) (fun p hp=>hf.cell hp.1 (hX _ hp.2.1))⟩
theorem zb_ {w:World}{m:Nat}{es:Array MapEntry}{ck:Nat}{cs:Array Value}{t:TypeId}{f:Nat × Nat}(h:w.heap[m]?=some (.map es ck)) (h2:w.heap[m]?=some (.cells cs t f)):False:=by
 rw[h] at h2;cases h2
theorem zero_unit9 (w:World):(zeroValue 137).run Tryz.prog w=.ok (.agg #[]) w:=by
 have h:(Tryz.prog.info? 137).map (·.zero)=some (some (.agg #[])):=by kernel_rfl
 cases e:Tryz.prog.info? 137 with
 | none=>rw[e] at h;cases h
 | some j =>
  rw[e] at h
  simp at h
  simp[zeroValue,typeInfo,e,h]
theorem info_rgs:(Tryz.prog.info? 44).map (fun i=>(i.zero,i.size,i.bytes))=some (some (.slice none 0 0),1,24):=by kernel_rfl
theorem ownR_new {X:Nat→Prop}{e:TypeId}{w:World}{B:Nat}{A:Option Addr}{n c:Nat}{l:List (Int × Int)}(h:OwnX rgX X e w B (.slice A n c) l):n=l.length∧RgAt w (fun b=>B≤b∧b<w.heap.size) A n c l:=by
 obtain ⟨cs,h1,h2⟩:=h
 have h3:OwnX rgX (fun _=>False) e w B (.slice A n c) l:=⟨cs,h1,fun i x hx=>h2 i x hx⟩
 obtain ⟨A', c', e1,hr⟩:=h3.rd
 injection e1 with e1 e2 e3
 subst e1 e2 e3
 exact ⟨rfl,(hr.keep (fun b hb=>⟨hb.2.resolve_left id,hb.1⟩) (fun _ _=>rfl)).rgx⟩
def unitK (K:List Int):List (Int × Value):=K.map fun k=>(k,.agg #[])
theorem idxv_unit (k:Int):∀ (K:List Int) (i:Nat),(k∈K→∃ j,idxv k (unitK K) i=some (j,.agg #[]))∧(k∉K→idxv k (unitK K) i=none)
 | [],i=>⟨fun h=>absurd h (by simp),fun _=>rfl⟩
 | x :: t,i=>by
  obtain ⟨h1,h2⟩:=idxv_unit k t (i+1)
  refine ⟨fun h=>?_,fun h=>?_⟩
  ·by_cases hk:k=x
   ·exact ⟨i,by show (if k=x then _ else _)=_;rw[if_pos hk]⟩
   ·obtain ⟨j,hj⟩:=h1 ((List.mem_cons.1 h).resolve_left hk)
    exact ⟨j,by show (if k=x then _ else _)=_;rw[if_neg hk];exact hj⟩
  ·have hk:¬ k=x:=fun e=>h (by simp[e])
   show (if k=x then _ else _)=_
   rw[if_neg hk]
   exact h2 fun e=>h (by simp[e])
structure Met (B bx m1 m2 m3:Nat) (M:List ((Int × Int × Int) × Value)) (K:List Int) (g:Bool) (sv:Value) (L:List (List (Int × Int))) (w:World):Prop where
 box:w.heap[bx]?=some (.cells #[sv,.map (some m1),.map (some m2),.map (some m3)] 63 (0,0))
 lists:EMap encT w M m1
 ints:AllInt M
 known:EMap encI w (unitK K) m2
 gone:∃ es ck,w.heap[m3]?=some (.map es ck)∧(g=true→es=#[])
 sets:OwnX setD (fun b=>B≤b∧b≠bx∧b≠m1∧b≠m2∧b≠m3) 44 w B sv L
 lo:B≤bx∧B≤m1∧B≤m2∧B≤m3
 ne:m1≠m2∧m1≠m3∧m2≠m3
 ob:sv.ownBlock≠some bx
section
variable {B bx m1 m2 m3:Nat}{M M' : List ((Int × Int × Int) × Value)}{K:List Int}{g:Bool}{sv:Value}{L:List (List (Int × Int))}{w w' : World}
theorem Met.nb (h:Met B bx m1 m2 m3 M K g sv L w):bx≠m1∧bx≠m2∧bx≠m3:=by
 refine ⟨fun e=>?_,fun e=>?_,fun e=>?_⟩
 ·obtain ⟨es,ck,h1,_⟩:=h.lists
  exact zb_ (e ▸ h1) h.box
 ·obtain ⟨es,ck,h1,_⟩:=h.known
  exact zb_ (e ▸ h1) h.box
 ·obtain ⟨es,ck,h1,_⟩:=h.gone
  exact zb_ (e ▸ h1) h.box
theorem Met.so (h:Met B bx m1 m2 m3 M K g sv L w){b:Nat}(hb:sv.ownBlock=some b):b≠bx∧b≠m1∧b≠m2∧b≠m3:=by
 obtain ⟨cs,hr⟩:=h.sets.row hb
 refine ⟨fun e=>h.ob (by rw[← e];exact hb),fun e=>?_,fun e=>?_,fun e=>?_⟩
 ·obtain ⟨es,ck,h1,_⟩:=h.lists
  exact zb_ (e ▸ h1) hr
 ·obtain ⟨es,ck,h1,_⟩:=h.known
  exact zb_ (e ▸ h1) hr
 ·obtain ⟨es,ck,h1,_⟩:=h.gone
  exact zb_ (e ▸ h1) hr
theorem Met.blt (h:Met B bx m1 m2 m3 M K g sv L w):bx<w.heap.size:=by
 rcases Nat.lt_or_ge bx w.heap.size with hlt|hge
 ·exact hlt
 ·have:=h.box;rw[Array.getElem?_eq_none hge] at this;cases this
theorem Met.glt (h:Met B bx m1 m2 m3 M K g sv L w):m3<w.heap.size:=by
 obtain ⟨es,ck,h1,_⟩:=h.gone
 rcases Nat.lt_or_ge m3 w.heap.size with hlt|hge
 ·exact hlt
 ·rw[Array.getElem?_eq_none hge] at h1;cases h1
theorem Met.on (h:Met B bx m1 m2 m3 M K g sv L w) (hb:Below w.heap.size w w'):Met B bx m1 m2 m3 M K g sv L w' := by
 obtain ⟨es,ck,h1,h2⟩:=h.gone
 exact ⟨(hb.block _ h.blt).trans h.box,h.lists.on hb,h.ints,h.known.on hb,⟨es,ck,(hb.block _ h.glt).trans h1,h2⟩,h.sets.on hb,h.lo,h.ne,h.ob⟩
theorem Met.num (h:Met B bx m1 m2 m3 M K g sv L w) (hE:EMap encT w' M' m1) (hi:AllInt M') (hf:Fx (fun b=>b=m1) w w'):Met B bx m1 m2 m3 M' K g sv L w' := by
 obtain ⟨n1,n2,n3⟩:=h.nb
 obtain ⟨es,ck,h1,h2⟩:=h.gone
 exact ⟨(hf.block _ h.blt n1).trans h.box,hE,hi,h.known.keep (hf.block _ h.known.lt (fun e=>h.ne.1 e.symm)),⟨es,ck,(hf.block _ h.glt (fun e=>h.ne.2.1 e.symm)).trans h1,h2⟩,h.sets.fx hf (fun b hb e=>hb.2.2.1 e) (fun b hb e=>(h.so hb).2.1 e),h.lo,h.ne,h.ob⟩
theorem Met.know (h:Met B bx m1 m2 m3 M K g sv L w){K' : List Int}(hE:EMap encI w' (unitK K') m2) (hf:Fx (fun b=>b=m2) w w'):Met B bx m1 m2 m3 M K' g sv L w' := by
 obtain ⟨n1,n2,n3⟩:=h.nb
 obtain ⟨es,ck,h1,h2⟩:=h.gone
 exact ⟨(hf.block _ h.blt n2).trans h.box,h.lists.keep (hf.block _ h.lists.lt h.ne.1),h.ints,hE,⟨es,ck,(hf.block _ h.glt (fun e=>h.ne.2.2 e.symm)).trans h1,h2⟩,h.sets.fx hf (fun b hb e=>hb.2.2.2.1 e) (fun b hb e=>(h.so hb).2.2.1 e),h.lo,h.ne,h.ob⟩
theorem Met.set (h:Met B bx m1 m2 m3 M K g sv L w){sv' : Value}{L' : List (List (Int × Int))}(ho:OwnX setD (fun b=>B≤b∧b≠bx∧b≠m1∧b≠m2∧b≠m3) 44 w' B sv' L') (hg:w.grownBy w' sv.ownBlock) (hat:sv'.ownBlock=sv.ownBlock∨sv'.ownBlock=some w.heap.size):Met B bx m1 m2 m3 M K g sv' L' (w'.setCell ⟨bx,0,none⟩ sv'):=by
 obtain ⟨n1,n2,n3⟩:=h.nb
 obtain ⟨es,ck,h1,h2⟩:=h.gone
 have hbk:∀ i,i<w.heap.size→i≠bx→(sv.ownBlock≠some i)→(w'.setCell ⟨bx,0,none⟩ sv').heap[i]?=w.heap[i]? := fun i hi hn ho=>(Below.heap_setCell _ _ _ _ hn).trans (hg.block i hi (fun e=>ho e.symm))
 have hbx:w'.heap[bx]?=some (.cells #[sv,.map (some m1),.map (some m2),.map (some m3)] 63 (0,0)):=(hg.block _ h.blt (fun e=>h.ob e.symm)).trans h.box
 have hob:sv'.ownBlock≠some bx:=by
  rcases hat with e|e
  ·rw[e];exact h.ob
  ·rw[e];intro e2;injection e2 with e2;have:=h.blt;omega
 refine ⟨heap_setCell_same _ _ _ _ _ _ hbx,h.lists.keep (hbk _ h.lists.lt (fun e=>n1 e.symm) (fun e=>(h.so e).2.1 rfl)),h.ints,h.known.keep (hbk _ h.known.lt (fun e=>n2 e.symm) (fun e=>(h.so e).2.2.1 rfl)),⟨es,ck,(hbk _ h.glt (fun e=>n3 e.symm) (fun e=>(h.so e).2.2.2 rfl)).trans h1,h2⟩,?_,h.lo,h.ne,hob⟩
 exact ho.fx (Fx.setCell (X:=fun b=>b=bx) rfl 0 sv') (fun b hb e=>hb.2.1 e) (fun b hb e=>hob (e ▸ hb))
end
def MW (bx m1 m2 m3:Nat) (sv:Value) (b:Nat):Prop:=b=bx∨b=m1∨b=m2∨b=m3∨sv.ownBlock=some b
structure Mf (bx m1 m2 m3:Nat) (sv sv' : Value) (w w' : World):Prop where
 fx:Fx (MW bx m1 m2 m3 sv) w w'
 at_:sv'.ownBlock=sv.ownBlock∨∃ b,sv'.ownBlock=some b∧w.heap.size≤b
theorem Mf.trans {bx m1 m2 m3:Nat}{a b c:Value}{w w' w2:World}(h:Mf bx m1 m2 m3 a b w w') (k:Mf bx m1 m2 m3 b c w' w2):Mf bx m1 m2 m3 a c w w2:=by
 refine ⟨h.fx.trans k.fx (fun i hi hy=>?_),?_⟩
 ·rcases hy with e|e|e|e|e
  ·exact .inl e
  ·exact .inr (.inl e)
  ·exact .inr (.inr (.inl e))
  ·exact .inr (.inr (.inr (.inl e)))
  ·rcases h.at_ with e2|⟨b', e2,hb⟩
   ·exact .inr (.inr (.inr (.inr (e2 ▸ e))))
   ·rw[e2] at e;injection e with e;omega
 ·rcases k.at_ with e|⟨b', e,hb⟩
  ·rw[e];exact h.at_
  ·exact .inr ⟨b', e,Nat.le_trans h.fx.size hb⟩
theorem Mf.of {bx m1 m2 m3:Nat}{a:Value}{w w' : World}(h:Below w.heap.size w w'):Mf bx m1 m2 m3 a a w w' := ⟨Fx.of h _,.inl rfl⟩
theorem Mf.keepS {bx m1 m2 m3:Nat}{a b:Value}{w w' : World}(h:Mf bx m1 m2 m3 a b w w'){i:Nat}(hi:i<w.heap.size∧¬ MW bx m1 m2 m3 a i):i<w'.heap.size∧¬ MW bx m1 m2 m3 b i:=by
 refine ⟨Nat.lt_of_lt_of_le hi.1 h.fx.size,fun e=>hi.2 ?_⟩
 rcases e with e|e|e|e|e
 ·exact .inl e
 ·exact .inr (.inl e)
 ·exact .inr (.inr (.inl e))
 ·exact .inr (.inr (.inr (.inl e)))
 ·rcases h.at_ with e2|⟨b', e2,hb⟩
  ·exact .inr (.inr (.inr (.inr (e2 ▸ e))))
  ·rw[e2] at e;injection e with e;have:=hi.1;omega
theorem Met.old {B bx m1 m2 m3:Nat}{M:List ((Int × Int × Int) × Value)}{K:List Int}{g:Bool}{sv:Value}{L:List (List (Int × Int))}{w:World}(h:Met B bx m1 m2 m3 M K g sv L w):∀ b,b<B→¬ MW bx m1 m2 m3 sv b:=fun b hb e=>by
 have:=h.lo
 rcases e with e|e|e|e|e
 ·omega
 ·omega
 ·omega
 ·omega
 ·have:=(h.sets.block b e).1;omega
def addS (s:List ((Int × Int × Int) × Value) × List Int × List (List (Int × Int))) (x:List (Int × Int)):List ((Int × Int × Int) × Value) × List Int × List (List (Int × Int)) :=
 if (numL s.1 x).2∈s.2.1 then ((numL s.1 x).1,s.2.1,s.2.2) else ((numL s.1 x).1,s.2.1++[(numL s.1 x).2],s.2.2++[x])
theorem qj_ {w:World}{N:Nat}{x0 x1 x2 x3:Value}{t:TypeId}(h:w.heap[N]?=some (.cells #[x0,x1,x2,x3] t (0,0))):w.cell? ⟨N,0,none⟩=some x0∧w.cell? ⟨N,1,none⟩=some x1∧w.cell? ⟨N,2,none⟩=some x2∧w.cell? ⟨N,3,none⟩=some x3:=by
 refine ⟨?_,?_,?_,?_⟩ <;> (rw[cell_of_row _ _ _ _ _ _ h];rfl)
def AddP (B bx m1 m2 m3:Nat) (g:Bool) (sv:Value) (r:List ((Int × Int × Int) × Value) × List Int × List (List (Int × Int))) (w:World) (en:Ending) (w' : World):Prop:=∃ sv', en=.returned (.tuple #[])∧Met B bx m1 m2 m3 r.1 r.2.1 g sv' r.2.2 w' ∧ Mf bx m1 m2 m3 sv sv' w w'
def BxS (bx:Nat) (sv:Value) (w' : World):Prop:=w'.cell? ⟨bx,0,none⟩=some sv
set_option maxHeartbeats 4000000 in
theorem add_any {B bx m1 m2 m3:Nat}{M:List ((Int × Int × Int) × Value)}{K:List Int}{g:Bool}{sv:Value}{L:List (List (Int × Int))}{w:World}(h:Met B bx m1 m2 m3 M K g sv L w){S:Nat→Prop}(hS:∀ b,S b→b<w.heap.size∧¬ MW bx m1 m2 m3 sv b){A:Option Addr}{n c:Nat}{x:List (Int × Int)}(hs:RgAt w S A n c x) (hn:n≤1000) (hm5:M.length≤10000) (hl5:L.length≤10000) :
  Calls Tryz.prog 47 #[.pointer (some ⟨bx,0,none⟩),.slice A n c] w (AddP B bx m1 m2 m3 g sv (addS (M,K,L) x) w):=by
 obtain ⟨sA,sc,esv,_⟩:=h.sets.rd
 subst esv
 have hlo:=h.lo
 have hBs:B≤w.heap.size:=by have:=h.blt;omega
 have HM:=ha_ h
 have HOLD:=ha_ hS
 have HS:=ha_ hs
 have HN:=ha_ (number_any h.lists h.ints (by omega) (hs.keep (S' := fun b=>b<w.heap.size∧b≠m1) (fun b hb=>⟨(hS b hb).1,fun e=>(hS b hb).2 (.inr (.inl e))⟩) (fun _ _=>rfl)) (by omega))
 have HIO:=ha_ (numT_ok h.ints x)
 obtain ⟨c0,c1,c2,c3⟩:=qj_ h.box
 clear h hs
 go_enter Tryz.func47,Tryz.ntmps47
 go_wp2_with fail
 refine HN.out.mono ?_
 rintro en w1 ⟨rfl,hE1,hF1⟩
 have HM1:=ha_ (HM.out.num hE1 HIO.out.1 hF1)
 have HF1:Hid (Fx (MW bx m1 m2 m3 (.slice sA L.length sc)) w w1):=hF1.mono (fun i _ e=>.inr (.inl e))
 have HS1:Hid (RgAt w1 S A n c x):=HS.out.keep (fun _ h=>h) (fun p hp=>HF1.out.cell (HOLD.out _ hp).1 (HOLD.out _ hp).2)
 have HAD:Hid (addS (M,K,L) x=if (numL M x).2∈K then ((numL M x).1,K,L) else ((numL M x).1,K++[(numL M x).2],L++[x])):=rfl
 clear hE1 hF1 HN HM HS c0 c1 c2 c3
 generalize hnn:(numL M x).2=nn at *
 generalize hmm:(numL M x).1=M' at *
 obtain ⟨c0,c1,c2,c3⟩:=qj_ HM1.out.box
 have hz:(zeroValue 137).run Tryz.prog w1=.ok (.agg #[]) w1:=zero_unit9 w1
 by_cases hk:nn∈K
 ·obtain ⟨j,hj⟩:=(idxv_unit nn K 0).1 hk
  have hl9:=elookup keyI HM1.out.known (mt:=60) Tryz.underlying60 hz nn (r:=.tuple #[.agg #[],.bool true]) (by rw[hj])
  have hl9:Sem.run Tryz.prog (Instr.lookup 60 (.map (some m2)) (.int .i64 nn) true) w1=.ok (.tuple #[.agg #[],.bool true]) w1:=hl9
  have HR:Hid (AddP B bx m1 m2 m3 g (.slice sA L.length sc) (addS (M,K,L) x) w (.returned (.tuple #[])) (w1.alloc (.cells #[] 137))):=by
   refine ⟨.slice sA L.length sc,rfl,?_,HF1.out.below (qa_ _ _),.inl rfl⟩
   rw[HAD.out,if_pos hk]
   exact HM1.out.on (qa_ _ _)
  clear HM1 HAD HIO hj hz HS1 HF1
  go_wp2_with fail
  exact bodyPost_ret (results_none rfl _ _ _) rfl HR.out
 ·have hj:=(idxv_unit nn K 0).2 hk
  have hl9:=elookup keyI HM1.out.known (mt:=60) Tryz.underlying60 hz nn (r:=.tuple #[.agg #[],.bool false]) (by rw[hj])
  have hl9:Sem.run Tryz.prog (Instr.lookup 60 (.map (some m2)) (.int .i64 nn) true) w1=.ok (.tuple #[.agg #[],.bool false]) w1:=hl9
  have HM2:=ha_ (HM1.out.on (qa_ w1 (.cells #[] 137)))
  obtain ⟨es,ck,hu,he⟩:=eupdate keyI HM2.out.known (mt:=60) Tryz.underlying60 nn hj (.agg #[])
  have hu:Sem.run Tryz.prog (Instr.mapUpdate 60 (.map (some m2)) (.int .i64 nn) (.agg #[])) (w1.alloc (.cells #[] 137))=.ok () { w1.alloc (.cells #[] 137) with heap:=(w1.alloc (.cells #[] 137)).heap.setIfInBounds m2 (.map es ck) }:=hu
  have he2:EMap encI { w1.alloc (.cells #[] 137) with heap:=(w1.alloc (.cells #[] 137)).heap.setIfInBounds m2 (.map es ck) } (unitK (K++[nn])) m2:=by
   have:unitK (K++[nn])=unitK K++[(nn,.agg #[])]:=by unfold unitK;rw[List.map_append];rfl
   rw[this];exact he
  have HF2:Hid (Fx (fun b=>b=m2) (w1.alloc (.cells #[] 137)) { w1.alloc (.cells #[] 137) with heap:=(w1.alloc (.cells #[] 137)).heap.setIfInBounds m2 (.map es ck) }):=Fx.put (X:=fun b=>b=m2) _ rfl _
  have HM3:=ha_ (HM2.out.know he2 HF2.out)
  have HF3:Hid (Fx (MW bx m1 m2 m3 (.slice sA L.length sc)) w { w1.alloc (.cells #[] 137) with heap:=(w1.alloc (.cells #[] 137)).heap.setIfInBounds m2 (.map es ck) }):=(HF1.out.below (qa_ _ _)).trans HF2.out (fun i _ e=>.inr (.inr (.inl e)))
  obtain ⟨d0,d1,d2,d3⟩:=qj_ HM2.out.box
  generalize hW3:({ w1.alloc (.cells #[] 137) with heap:=(w1.alloc (.cells #[] 137)).heap.setIfInBounds m2 (.map es ck) }:World)=W3 at *
  clear hW3
  go_upto_region 4 with fail
  have HS3:Hid (RgAt W3 S A n c x):=HS1.out.keep (fun _ h=>h) (fun p hp=>by
   have h1:w.heap.size≤w1.heap.size:=HF1.out.size
   have e1:=HF3.out.cell (p:=p) (HOLD.out _ hp).1 (HOLD.out _ hp).2
   have e2:=HF1.out.cell (p:=p) (HOLD.out _ hp).1 (HOLD.out _ hp).2
   exact e1.trans e2.symm)
  clear hl9 hu he he2 hj hz HM1 HM2 HF1 HF2 HS1 c0 c1 c2 c3 d0 d1 d2 d3
  have HBD:Hid (Below W3.heap.size W3 W3.drew):=qb_ (Below.refl _ _) 1
  have HM4:=ha_ (HM3.out.on HBD.out)
  have HB3:Hid (B≤W3.heap.size):=Nat.le_trans hBs HF3.out.size
  have HC:=ha_ (clone_rg (S:=S) (w:=W3.drew) (fun b hb=>Nat.lt_of_lt_of_le (HOLD.out b hb).1 (Nat.le_trans HF3.out.size HBD.out.size)) (HS3.out.g.keep (fun _ h=>h) (fun p hp=>HBD.out.cell (Nat.lt_of_lt_of_le (HOLD.out _ hp).1 HF3.out.size))) (by omega))
  have SS:BxS bx (.slice sA L.length sc) W3.drew:=(qj_ HM4.out.box).1
  refine qw_ (BxS bx (.slice sA L.length sc)) 11 12 (by kernel_rfl) rfl ?_
  refine qc_ 0 (v:=.pointer (some ⟨bx,0,none⟩)) rfl (by kernel_rfl) (by kernel_rfl) (by kernel_rfl) (by kernel_rfl) (fun _ _ _ h=>h) SS rfl (fun w' hS=>?_) ?_
  ·have hS0:w'.cell? ⟨bx,0,none⟩=some (.slice sA L.length sc):=hS;go_simp
  refine qc_ 1 (v:=.pointer (some ⟨bx,0,none⟩)) rfl (by kernel_rfl) (by kernel_rfl) (by kernel_rfl) (by kernel_rfl) (fun _ _ _ h=>h) SS rfl (fun w' hS=>?_) ?_
  ·have hS0:w'.cell? ⟨bx,0,none⟩=some (.slice sA L.length sc):=hS;go_simp
  refine qc_ 2 (v:=.pointer (some ⟨bx,0,none⟩)) rfl (by kernel_rfl) (by kernel_rfl) (by kernel_rfl) (by kernel_rfl) (fun _ _ _ h=>h) SS rfl (fun w' hS=>?_) ?_
  ·have hS0:w'.cell? ⟨bx,0,none⟩=some (.slice sA L.length sc):=hS;go_simp
  refine qc_ 3 (v:=.pointer (some ⟨bx,0,none⟩)) rfl (by kernel_rfl) (by kernel_rfl) (by kernel_rfl) (by kernel_rfl) (fun _ _ _ h=>h) SS rfl (fun w' hS=>?_) ?_
  ·have hS0:w'.cell? ⟨bx,0,none⟩=some (.slice sA L.length sc):=hS;go_simp
  refine qc_ 4 (v:=.slice sA L.length sc) rfl (by kernel_rfl) (by kernel_rfl) (by kernel_rfl) (by kernel_rfl) (fun _ _ _ h=>h) SS rfl (fun w' hS=>?_) ?_
  ·have hS0:w'.cell? ⟨bx,0,none⟩=some (.slice sA L.length sc):=hS;go_simp
  refine qc_ 5 (v:=.slice A n c) rfl (by kernel_rfl) (by kernel_rfl) (by kernel_rfl) (by kernel_rfl) (fun _ _ _ h=>h) SS rfl (fun w' hS=>?_) ?_
  ·have hS0:w'.cell? ⟨bx,0,none⟩=some (.slice sA L.length sc):=hS;go_simp
  refine zk_ 6 rfl (by kernel_rfl) rfl ?_
  go_simp
  refine HC.out.mono ?_
  rintro en w5 ⟨A5,c5,rfl,ho5,hb5⟩
  obtain ⟨_,hr5⟩:=ownR_new ho5
  have HM5:=ha_ (HM4.out.on hb5)
  have HR5:=ha_ hr5
  have HSZ5:Hid (W3.heap.size≤W3.drew.heap.size∧W3.drew.heap.size≤w5.heap.size):=⟨HBD.out.size,hb5.size⟩
  have HF5:Hid (Fx (MW bx m1 m2 m3 (.slice sA L.length sc)) w w5):=(HF3.out.below HBD.out).below hb5
  have HLT:Hid (∀ b,W3.drew.heap.size≤b→B≤b∧b≠bx∧b≠m1∧b≠m2∧b≠m3):=fun b hb=>by
   have h1:=HM4.out.blt
   have h2:=HM4.out.lists.lt
   have h3:=HM4.out.known.lt
   have h4:=HM4.out.glt
   have h5:=HB3.out
   have h6:=HSZ5.out.1
   exact ⟨by omega,by omega,by omega,by omega,by omega⟩
  clear ho5 hb5 hr5 HC SS
  refine ⟨(qj_ HM5.out.box).1,?_⟩
  refine zk_ 7 rfl (by kernel_rfl) rfl ?_
  go_simp
  generalize hW6:(w5.alloc (.cells #[.slice A5 x.length c5] 44))=W6
  have hB6:Below w5.heap.size w5 W6:=by rw[← hW6];exact qa_ w5 _
  have hN6:W6.heap[w5.heap.size]?=some (.cells #[.slice A5 x.length c5] 44 (0,0)):=by rw[← hW6];exact heap_alloc_new w5 _
  have hlt6:w5.heap.size<W6.heap.size:=by rw[← hW6];simp
  have HM6:=ha_ (HM5.out.on hB6)
  have HF6:=ha_ (HF5.out.below hB6)
  have HNW:Hid (RdG setD W6 (fun b=>b<W6.heap.size∧(B≤b∧b≠bx∧b≠m1∧b≠m2∧b≠m3)∧(Value.slice sA L.length sc).ownBlock≠some b) (some ⟨w5.heap.size,0,none⟩) 1 1 [x]):=RdG.one hN6 ⟨A5,x.length,c5,rfl,HR5.out.keep (fun b hb=>⟨Nat.lt_of_lt_of_le hb.2 hB6.size,HLT.out b hb.1,fun e=>by have h1:=(HM4.out.sets.block b e).2;have h2:=hb.1;omega⟩) (fun p hp=>hB6.cell hp.2)⟩ ⟨hlt6,HLT.out _ HSZ5.out.2,fun e=>by have h1:=(HM5.out.sets.block _ e).2;omega⟩
  clear hW6
  refine ⟨(qj_ HM6.out.box).1,?_⟩
  refine zk_ 8 rfl (by kernel_rfl) rfl ?_
  refine wp_app_x (D:=setD) (X:=fun b=>B≤b∧b≠bx∧b≠m1∧b≠m2∧b≠m3) (.tmp 33) (.tmp 36) 22 rfl Tryz.underlying22 info_rgs rfl (by decide) (by decide) rfl HM6.out.sets rfl HNW.out (by omega) (Nat.le_trans HB3.out (Nat.le_trans HSZ5.out.1 (Nat.le_trans HSZ5.out.2 hB6.size))) ?_
  intro v7 w7 ho7 hg7 hv7
  obtain ⟨sA7,sc7,e7,_⟩:=ho7.rd
  rw[show (L++[x]).length=L.length+1 by simp] at e7
  subst e7
  have HM7:=ha_ (HM6.out.set ho7 hg7 hv7)
  have HBX7:Hid (w7.heap[bx]?=some (.cells #[.slice sA L.length sc,.map (some m1),.map (some m2),.map (some m3)] 63 (0,0))):=(hg7.block _ HM6.out.blt (fun e=>HM6.out.ob e.symm)).trans HM6.out.box
  have S7:BxS bx (.slice sA L.length sc) w7:=(qj_ HBX7.out).1
  have HF7:Hid (Fx (MW bx m1 m2 m3 (.slice sA L.length sc)) w (w7.setCell ⟨bx,0,none⟩ (.slice sA7 (L.length+1) sc7))):=(HF6.out.trans (Fx.grown (X:=MW bx m1 m2 m3 (.slice sA L.length sc)) hg7 (fun i _ e=>.inr (.inr (.inr (.inr e))))) (fun _ _ h=>h)).trans (Fx.setCell (X:=fun b=>b=bx) rfl 0 _) (fun i _ e=>.inl e)
  refine ⟨fun _=>S7,?_⟩
  have fr7:=qv_ HBX7.out
  obtain ⟨d0,d1,d2,d3⟩:=qj_ HBX7.out
  have HAT:Hid ((Value.slice sA7 (L.length+1) sc7).ownBlock=(Value.slice sA L.length sc).ownBlock∨∃ b,(Value.slice sA7 (L.length+1) sc7).ownBlock=some b∧w.heap.size≤b):=by
   rcases hv7 with e|e
   ·exact .inl e
   ·exact .inr ⟨_,e,HF6.out.size⟩
  clear ho7 hg7 hv7
  have HS7:=ha_ S7
  clear S7
  refine zk_ 9 rfl (by kernel_rfl) rfl ?_
  go_simp
  refine ⟨HS7.out,?_⟩
  refine qc_ 10 (v:=.pointer (some ⟨bx,0,none⟩)) rfl (by kernel_rfl) (by kernel_rfl) (by kernel_rfl) (by kernel_rfl) (fun _ _ _ h=>h) HS7.out rfl (fun w' hS=>?_) ?_
  ·go_simp
  refine zk_ 11 rfl (by kernel_rfl) rfl ?_
  go_simp
  refine Z_done (by kernel_rfl) ?_
  unfold OnlyN
  simp only[]
  have HR:Hid (AddP B bx m1 m2 m3 g (.slice sA L.length sc) (addS (M,K,L) x) w (.returned (.tuple #[])) (w7.setCell ⟨bx,0,none⟩ (.slice sA7 (L.length+1) sc7))):=by
   refine ⟨.slice sA7 (L.length+1) sc7,rfl,?_,HF7.out,HAT.out⟩
   rw[HAD.out,if_neg hk]
   exact HM7.out
  exact bodyPost_ret (results_none rfl _ _ _) rfl HR.out

def encPl (b o:Nat) (n:Int):Value:=.agg #[.pointer (some ⟨b,o,none⟩),.int .i64 n]
theorem check_place (w:World) (b o:Nat) (n:Int) (em:Bool):(Instr.checkKey em 10000 141 (encPl b o n)).run Tryz.prog w=.ok () w:=by
 have c1:∀ d p,(Instr.checkKey em (d+1) 139 (.pointer p)).run Tryz.prog w=.ok () w:=fun d p=>by simp[Instr.checkKey,run_underlying Tryz.underlying139]
 have c2:∀ d x,(Instr.checkKey em (d+1) 3 (.int .i64 x)).run Tryz.prog w=.ok () w:=fun d x=>by simp[Instr.checkKey,run_underlying Tryz.underlying3]
 have a3:=Tryz.isAgg3
 have z3:=Tryz.sizeOf3
 have a4:=Tryz.isAgg139
 have z4:=Tryz.sizeOf139
 unfold encPl
 rw[show (10000:Nat)=9998+1+1 from rfl]
 generalize 9998=d
 rw[Instr.checkKey]
 simp only[Sem.run_bind,run_underlying Tryz.underlying141,Result.andThen]
 go_simp
theorem look0 {w:World}{m ck:Nat}(hm:w.heap[m]?=some (.map #[] ck)){mt et:TypeId}(hmt:Tryz.prog.underlying mt=some (.map 141 et)){z:Value}(hz:(zeroValue et).run Tryz.prog w=.ok z w) (b o:Nat) (n:Int) :
  (Instr.lookup mt (.map (some m)) (encPl b o n) true).run Tryz.prog w=.ok (.tuple #[z,.bool false]) w:=by
 simp[Instr.lookup,run_underlying hmt,MapKept.run_getObj_map hm,check_place,Instr.findKey,run_underlying Tryz.underlying141,Instr.findNow,hz,Result.andThen]
theorem upd0 {w:World}{m ck:Nat}(hm:w.heap[m]?=some (.map #[] ck)){mt et:TypeId}(hmt:Tryz.prog.underlying mt=some (.map 141 et)) (b o:Nat) (n:Int) (v:Value) :
  ∃ es ck', (Instr.mapUpdate mt (.map (some m)) (encPl b o n) v).run Tryz.prog w=.ok () { w with heap:=w.heap.setIfInBounds m (.map es ck') }:=by
 exact ⟨#[{ key:=encPl b o n,val:=v,born:=ck }],ck+1,by simp[Instr.mapUpdate,run_underlying hmt,MapKept.run_getObj_map hm,check_place,Instr.findKey,run_underlying Tryz.underlying141,Instr.findNow,MapKept.run_setObj_map _ hm,Result.andThen]⟩
theorem Met.go {B bx m1 m2 m3:Nat}{M:List ((Int × Int × Int) × Value)}{K:List Int}{g:Bool}{sv:Value}{L:List (List (Int × Int))}{w:World}(h:Met B bx m1 m2 m3 M K g sv L w) (es:Array MapEntry) (ck:Nat):Met B bx m1 m2 m3 M K false sv L { w with heap:=w.heap.setIfInBounds m3 (.map es ck) }:=by
 obtain ⟨n1,n2,n3⟩:=h.nb
 have hf:Fx (fun b=>b=m3) w { w with heap:=w.heap.setIfInBounds m3 (.map es ck) }:=Fx.put (X:=fun b=>b=m3) w rfl _
 refine ⟨(hf.block _ h.blt n3).trans h.box,h.lists.keep (hf.block _ h.lists.lt h.ne.2.1),h.ints,h.known.keep (hf.block _ h.known.lt h.ne.2.2),⟨es,ck,?_,fun e=>by cases e⟩,h.sets.fx hf (fun b hb e=>hb.2.2.2.2 e) (fun b hb e=>(h.so hb).2.2.2 e),h.lo,h.ne,h.ob⟩
 show (w.heap.setIfInBounds m3 _)[m3]?=_
 rw[Array.getElem?_setIfInBounds_self_of_lt h.glt]
theorem enter_nil {w:World}{p:Value}{A:Option Addr}{c:Nat}:Calls Tryz.prog 48 #[p,.slice A 0 c] w fun en w' => en=.returned (.bool false)∧w' = w:=by
 go_enter Tryz.func48,Tryz.ntmps48
 go_wp2_with fail
 go_ret
 exact ⟨rfl,rfl⟩
def EntP (B bx m1 m2 m3:Nat) (M:List ((Int × Int × Int) × Value)) (K:List Int) (sv:Value) (L:List (List (Int × Int))) (w:World) (en:Ending) (w' : World):Prop:=en=.returned (.bool true)∧Met B bx m1 m2 m3 M K false sv L w' ∧ Fx (fun b=>b=m3) w w'
set_option maxHeartbeats 4000000 in
theorem enter_new {B bx m1 m2 m3:Nat}{M:List ((Int × Int × Int) × Value)}{K:List Int}{sv:Value}{L:List (List (Int × Int))}{w:World}(h:Met B bx m1 m2 m3 M K true sv L w){b o n c:Nat}(hn:0<n) (hn2:n≤1000) :
  Calls Tryz.prog 48 #[.pointer (some ⟨bx,0,none⟩),.slice (some ⟨b,o,none⟩) n c] w (EntP B bx m1 m2 m3 M K sv L w):=by
 have hlo:=h.lo
 have g2:((n:Int) == 0)=false:=by rw[beq_eq_false_iff_ne];omega
 have hn0:(0:Int)<(n:Int):=by omega
 have HBX:Hid (Below w.heap.size w (w.alloc (.cells #[.pointer (some ⟨b,o,none⟩),.int .i64 n] 141))):=qa_ w _
 have HRW:=ha_ (heap_alloc_new w (.cells #[.pointer (some ⟨b,o,none⟩),.int .i64 n] 141))
 have HM:=ha_ (h.on HBX.out)
 have HF1:Hid (Fx (fun b=>b=m3) w (w.alloc (.cells #[.pointer (some ⟨b,o,none⟩),.int .i64 n] 141))):=Fx.of HBX.out _
 have hlt1:w.heap.size<(w.alloc (.cells #[.pointer (some ⟨b,o,none⟩),.int .i64 n] 141)).heap.size:=by simp
 clear h
 go_enter Tryz.func48,Tryz.ntmps48
 go_upto_region 4 with fail
 generalize hW1:w.alloc (.cells #[.pointer (some ⟨b,o,none⟩),.int .i64 n] 141)=W1 at *
 clear hW1
 have HM1:Hid (Met B bx m1 m2 m3 M K true sv L W1.drew):=HM.out.on (qb_ (Below.refl _ _) 1)
 have HR1:Hid (W1.drew.heap[w.heap.size]?=some (.cells #[.pointer (some ⟨b,o,none⟩),.int .i64 n] 141 (0,0))):=HRW.out
 obtain ⟨c0,c1,c2,c3⟩:=qj_ HM1.out.box
 obtain ⟨k0,k1⟩:=cells2 HR1.out
 obtain ⟨d0,d1,d2,d3⟩:=qj_ HM.out.box
 obtain ⟨l0,l1⟩:=cells2 HRW.out
 have hbl:bx<W1.heap.size:=HM.out.blt
 obtain ⟨es,ck,hg,he⟩:=HM1.out.gone
 obtain rfl:=he rfl
 have hl9:=look0 hg (mt:=61) Tryz.underlying61 (zero_unit9 W1.drew) b o n
 have hl9:Sem.run Tryz.prog (Instr.lookup 61 (.map (some m3)) (.agg #[.pointer (some ⟨b,o,none⟩),.int .i64 n]) true) W1.drew=.ok (.tuple #[.agg #[],.bool false]) W1.drew:=hl9
 have hga:(W1.alloc (.cells #[] 137)).drew.heap[m3]?=some (.map #[] ck):=((qa_ W1 (.cells #[] 137)).block m3 (by have:=HM1.out.glt;exact this)).trans hg
 have hl8:=look0 hga (mt:=61) Tryz.underlying61 (zero_unit9 _) b o n
 have hl8:Sem.run Tryz.prog (Instr.lookup 61 (.map (some m3)) (.agg #[.pointer (some ⟨b,o,none⟩),.int .i64 n]) true) (W1.alloc (.cells #[] 137)).drew=.ok (.tuple #[.agg #[],.bool false]) (W1.alloc (.cells #[] 137)).drew:=hl8
 have HG2:=ha_ hga
 have HM2:Hid (Met B bx m1 m2 m3 M K true sv L (W1.alloc (.cells #[] 137)).drew):=HM.out.on (qb_ (qa_ _ _) 1)
 have HR2:Hid ((W1.alloc (.cells #[] 137)).drew.heap[w.heap.size]?=some (.cells #[.pointer (some ⟨b,o,none⟩),.int .i64 n] 141 (0,0))):=((qa_ W1 (.cells #[] 137)).block _ hlt1).trans HRW.out
 have HF2:Hid (Fx (fun b=>b=m3) w (W1.alloc (.cells #[] 137)).drew):=HF1.out.below (qb_ (qa_ _ _) 1)
 clear hg he HM HRW hga
 go_cut [6,7] (fun _ v7 wx=>v7=.bool false∧wx=(W1.alloc (.cells #[] 137)).drew)
 case first =>
  go_region
  all_goals (go_wp2_with fail;go_meet;exact ⟨rfl,rfl⟩)
 case rest =>
  obtain ⟨rfl,rfl⟩:=hcut
  clear hl8 hl9 c0 c1 c2 c3 d0 d1 d2 d3 k0 k1 l0 l1 HM1 HR1 HF1 HBX hbl hlt1
  generalize hW2:(W1.alloc (.cells #[] 137)).drew=W2 at *
  clear hW2
  have HM3:Hid (Met B bx m1 m2 m3 M K true sv L W2.drew):=HM2.out.on (qb_ (Below.refl _ _) 1)
  have hg3:W2.drew.heap[m3]?=some (.map #[] ck):=HG2.out
  obtain ⟨es,ck', hu⟩:=upd0 hg3 (mt:=61) Tryz.underlying61 b o n (.agg #[])
  have hu:Sem.run Tryz.prog (Instr.mapUpdate 61 (.map (some m3)) (.agg #[.pointer (some ⟨b,o,none⟩),.int .i64 n]) (.agg #[])) W2.drew=.ok () { W2.drew with heap:=W2.drew.heap.setIfInBounds m3 (.map es ck') }:=hu
  have HM4:=ha_ (HM3.out.go es ck')
  have HF4:Hid (Fx (fun b=>b=m3) w { W2.drew with heap:=W2.drew.heap.setIfInBounds m3 (.map es ck') }):=(HF2.out.below (qb_ (Below.refl _ _) 1)).trans (Fx.put (X:=fun b=>b=m3) W2.drew rfl _) (fun i _ e=>e)
  generalize hW3:({ W2.drew with heap:=W2.drew.heap.setIfInBounds m3 (.map es ck') }:World)=W3 at *
  clear hW3
  obtain ⟨c0,c1,c2,c3⟩:=qj_ HM2.out.box
  obtain ⟨k0,k1⟩:=cells2 HR2.out
  have HRES:Hid (EntP B bx m1 m2 m3 M K sv L w (.returned (.bool true)) W3):=⟨rfl,HM4.out,HF4.out⟩
  clear HM2 HR2 HF2 HM3 hg3 HM4 HF4 HG2
  go_wp2_with fail
  go_region
  all_goals go_wp2_with fail
  all_goals go_ret
  all_goals exact HRES.out

abbrev MSt:=List ((Int × Int × Int) × Value) × List Int × List (List (Int × Int))
def leafS (s:MSt) (x:Pt):MSt:=if x.kind=2 then addS s x.set else s
def leafL (s:MSt) (l:List Pt):MSt:=l.foldl leafS s
def twoS (s:MSt) (x:Pt):MSt:=leafL (leafS s x) x.kids
def twoL (s:MSt) (l:List Pt):MSt:=l.foldl twoS s
def SmS (s:MSt) (N:Nat):Prop:=AllInt s.1∧s.1.length≤N∧s.2.2.length≤N
theorem addS_sm {s:MSt}{N:Nat}(h:SmS s N){x:List (Int × Int)}(hx:x.length≤10):SmS (addS s x) (N+10):=by
 obtain ⟨h1,h2,h3⟩:=h
 obtain ⟨o1,o2⟩:=numT_ok h1 x
 unfold addS
 by_cases hk:(numL s.1 x).2∈s.2.1
 ·rw[if_pos hk];exact ⟨o1,by show (numL s.1 x).1.length≤_;omega,by show s.2.2.length≤_;omega⟩
 ·rw[if_neg hk];exact ⟨o1,by show (numL s.1 x).1.length≤_;omega,by show (s.2.2++[x]).length≤_;rw[List.length_append,List.length_singleton];omega⟩
theorem leafS_sm {s:MSt}{N:Nat}(h:SmS s N){x:Pt}(hx:x.set.length≤10):SmS (leafS s x) (N+10):=by
 unfold leafS
 by_cases hk:x.kind=2
 ·rw[if_pos hk];exact addS_sm h hx
 ·rw[if_neg hk];exact ⟨h.1,by have:=h.2.1;omega,by have:=h.2.2;omega⟩
theorem leafL_sm:∀ {l:List Pt}{s:MSt}{N:Nat},SmS s N→(∀ x∈l,x.set.length≤10)→SmS (leafL s l) (N+10*l.length)
 | [],_,_,h,_=>h
 | x :: t,s,N,h,hx=>by
  have:=leafL_sm (l:=t) (leafS_sm h (hx x (by simp))) (fun y hy=>hx y (by simp[hy]))
  unfold leafL at this ⊢
  rw[List.foldl_cons,List.length_cons,show N+10*(t.length+1)=N+10+10*t.length by omega]
  exact this
def SmP (x:Pt):Prop:=x.set.length≤10∧x.kids.length≤10∧∀ y∈x.kids,y.set.length≤10
theorem twoS_sm {s:MSt}{N:Nat}(h:SmS s N){x:Pt}(hx:SmP x):SmS (twoS s x) (N+110):=by
 have:=leafL_sm (leafS_sm h hx.1) hx.2.2
 have h2:=hx.2.1
 exact ⟨this.1,by have:=this.2.1;show (leafL (leafS s x) x.kids).1.length≤_;omega,by have:=this.2.2;show (leafL (leafS s x) x.kids).2.2.length≤_;omega⟩
theorem twoL_sm:∀ {l:List Pt}{s:MSt}{N:Nat},SmS s N→(∀ x∈l,SmP x)→SmS (twoL s l) (N+110*l.length)
 | [],_,_,h,_=>h
 | x :: t,s,N,h,hx=>by
  have:=twoL_sm (l:=t) (twoS_sm h (hx x (by simp))) (fun y hy=>hx y (by simp[hy]))
  unfold twoL at this ⊢
  rw[List.foldl_cons,List.length_cons,show N+110*(t.length+1)=N+110+110*t.length by omega]
  exact this
theorem twoL_leaf:∀ {l:List Pt}{s:MSt},(∀ x∈l,x.kids=[])→twoL s l=leafL s l
 | [],_,_=>rfl
 | x :: t,s,h=>by
  have e:twoS s x=leafS s x:=by unfold twoS;rw[h x (by simp)];rfl
  have:=twoL_leaf (l:=t) (s:=leafS s x) (fun y hy=>h y (by simp[hy]))
  unfold twoL leafL at this ⊢
  rw[List.foldl_cons,List.foldl_cons,e]
  exact this
theorem twoL_take (s:MSt){l:List Pt}{j:Nat}{x:Pt}(h:l[j]?=some x):twoL s (l.take (j+1))=twoS (twoL s (l.take j)) x:=by
 unfold twoL
 rw[List.take_add_one,h,List.foldl_append]
 rfl
def MeetP (B bx m1 m2 m3:Nat) (sv0:Value) (r:MSt) (w:World) (en:Ending) (w' : World):Prop:=∃ g sv,en=.returned (.tuple #[])∧Met B bx m1 m2 m3 r.1 r.2.1 g sv r.2.2 w' ∧ Mf bx m1 m2 m3 sv0 sv w w'
def Lvl (D g:Bool) (l:List Pt):Prop:=∀ (i:Nat) (x:Pt),l[i]?=some x→x.kids=[]∨(D=true∧i+1=l.length∧g=true∧∀ y∈x.kids,y.kids=[])
def MeetK (D:Bool):Prop:=∀ (B bx m1 m2 m3:Nat) (M:List ((Int × Int × Int) × Value)) (K:List Int) (g:Bool) (sv:Value) (L:List (List (Int × Int))) (w:World),Met B bx m1 m2 m3 M K g sv L w→∀ (l:List Pt),Lvl D g l→(∀ x∈l,SmP x)→l.length≤10→SmS (M,K,L) (if D=true then 5000 else 8000)→∀ (S:Nat→Prop),(∀ b,S b→b<w.heap.size∧¬ MW bx m1 m2 m3 sv b)→∀ (A:Option Addr) (n c:Nat),RdP w S A n c l →
 Calls Tryz.prog 24 #[.pointer (some ⟨bx,0,none⟩),.slice A n c] w (MeetP B bx m1 m2 m3 sv (twoL (M,K,L) l) w)
set_option maxHeartbeats 8000000 in
theorem meet_of {D:Bool}(ih:D=true→MeetK false):MeetK D:=by
 intro B bx m1 m2 m3 M K g sv L w h l hlv hsm hl10 hs5 S hS A n c hr
 have hlo:=h.lo
 have hn:=hr.len
 have hn10:n≤10:=by omega
 have hBs:B≤w.heap.size:=by have:=h.blt;omega
 have HM:=ha_ h
 have HOLD:=ha_ hS
 have HR:=ha_ hr
 have HLV:=ha_ hlv
 have HSM:=ha_ hsm
 have HS5:=ha_ hs5
 have HIH:=ha_ ih
 have HLN:Hid (l.length=n):=hn
 clear h hr hlv hsm hs5 ih hn hl10
 go_enter Tryz.func24,Tryz.ntmps24
 go_wp2_with fail
 go_loopw [8] (fun iv wx=>∃ (j:Nat) (g' : Bool) (sv' : Value),j≤n∧iv=.int .i64 j∧Hid (Met B bx m1 m2 m3 (twoL (M,K,L) (l.take j)).1 (twoL (M,K,L) (l.take j)).2.1 g' sv' (twoL (M,K,L) (l.take j)).2.2 wx)∧Hid (g' = g∨j=n)∧Hid (Mf bx m1 m2 m3 sv sv' w wx)) (fun iv _=>n - (intOf iv).toNat)
 case atStart=>exact ⟨0,g,sv,by omega,rfl,HM.out,.inl rfl,Mf.of (Below.refl _ _)⟩
 case round =>
  obtain ⟨j,g', sv', hj,rfl,HM2,HG,HF⟩:=hrel
  rcases (⟨wr,rfl⟩:∃ WL:World,WL=wr) with ⟨WL,rfl⟩
  clear HM
  by_cases hlt:j<n
  ·have hj0:(0:Int)≤(j:Int):=by omega
   have hj1:(j:Int)<(n:Int):=by omega
   have HR2:Hid (RdP WL S A n c l):=HR.out.keep (fun _ h=>h) (fun p hp=>HF.out.fx.cell (HOLD.out _ hp).1 (HOLD.out _ hp).2)
   obtain ⟨b,off,x,sA,sn,sc,gA,gn,gc,kA,kn,kc,eA,hb,hx,hin,s0,s1,s2,s3⟩:=HR2.out.got hlt
   subst eA
   have HX:=ha_ hx
   have HSET:=ha_ hin.set
   have HKID:=ha_ hin.kids
   have hsp:=HSM.out x (List.mem_of_getElem? hx)
   have HSP:=ha_ hsp
   have hsn:sn≤10:=by have:=hin.set.len;have:=hsp.1;omega
   have hkn:kn≤10:=by have:=hin.kids.len;have:=hsp.2.1;omega
   have HTK:=ha_ (twoL_take (M,K,L) hx)
   have HST:Hid (SmS (twoL (M,K,L) (l.take j)) ((if D=true then 5000 else 8000)+1100)):=by
    have h1:=twoL_sm (l:=l.take j) HS5.out (fun y hy=>HSM.out y (List.mem_of_mem_take hy))
    have h2:(l.take j).length≤10:=by rw[List.length_take];omega
    exact ⟨h1.1,by have:=h1.2.1;omega,by have:=h1.2.2;omega⟩
   have HGJ:Hid (g' = g):=HG.out.resolve_right (by omega)
   have HBX:Hid (Below WL.heap.size WL (WL.alloc (.cells #[.int .i64 x.kind,.slice sA sn sc,.slice gA gn gc,.slice kA kn kc] 47))):=qa_ _ _
   have HRW:=ha_ (heap_alloc_new WL (.cells #[.int .i64 x.kind,.slice sA sn sc,.slice gA gn gc,.slice kA kn kc] 47))
   have hz1:WL.heap.size<(WL.alloc (.cells #[.int .i64 x.kind,.slice sA sn sc,.slice gA gn gc,.slice kA kn kc] 47)).heap.size:=by simp
   have HM3:=ha_ (HM2.out.on HBX.out)
   have HF3:=ha_ (HF.out.trans (Mf.of (a:=sv') HBX.out))
   have HBL:Hid (B≤WL.heap.size):=Nat.le_trans hBs HF.out.fx.size
   have HSET3:Hid (RgAt (WL.alloc (.cells #[.int .i64 x.kind,.slice sA sn sc,.slice gA gn gc,.slice kA kn kc] 47)) S sA sn sc x.set):=HSET.out.keep (fun _ h=>h) (fun p hp=>HBX.out.cell (Nat.lt_of_lt_of_le (HOLD.out _ hp).1 HF.out.fx.size))
   have HKID3:Hid (RdP (WL.alloc (.cells #[.int .i64 x.kind,.slice sA sn sc,.slice gA gn gc,.slice kA kn kc] 47)) S kA kn kc x.kids):=HKID.out.keep (fun _ h=>h) (fun p hp=>HBX.out.cell (Nat.lt_of_lt_of_le (HOLD.out _ hp).1 HF.out.fx.size))
   generalize hst:twoL (M,K,L) (l.take j)=st at *
   obtain ⟨Mj,Kj,Lj⟩:=st
   have HSO9:Hid (∀ b,sv'.ownBlock=some b→b<WL.heap.size):=fun b e=>(HM2.out.sets.block b e).2
   have HLT9:Hid (bx<WL.heap.size∧m1<WL.heap.size∧m2<WL.heap.size∧m3<WL.heap.size):=⟨HM2.out.blt,HM2.out.lists.lt,HM2.out.known.lt,HM2.out.glt⟩
   have HOL2:Hid (∀ b,S b→b<WL.heap.size∧¬ MW bx m1 m2 m3 sv' b):=fun b hb=>HF.out.keepS (HOLD.out b hb)
   clear hx hin hb hsp HM2 HF HSET HKID HG HR2
   go_upto_region 3 with fail
   generalize hW3:WL.alloc (.cells #[.int .i64 x.kind,.slice sA sn sc,.slice gA gn gc,.slice kA kn kc] 47)=W3 at *
   clear hW3 s0 s1 s2 s3
   obtain ⟨k0,k1,k2,k3⟩:=qy_ HRW.out
   go_upto_if 14 with fail
   go_cut [] (fun wx=>∃ sv5,Hid (Met B bx m1 m2 m3 (leafS (Mj,Kj,Lj) x).1 (leafS (Mj,Kj,Lj) x).2.1 g' sv5 (leafS (Mj,Kj,Lj) x).2.2 wx)∧Hid (Mf bx m1 m2 m3 sv' sv5 W3 wx))
   case first =>
    by_cases hk:x.kind=2
    ·have g1:(x.kind == 2)=true:=beq_iff_eq.2 hk
     have HE:Hid (leafS (Mj,Kj,Lj) x=addS (Mj,Kj,Lj) x.set):=if_pos hk
     have HC:=ha_ (add_any HM3.out (fun b hb=>⟨Nat.lt_of_lt_of_le (HOL2.out b hb).1 (Nat.le_of_lt hz1),(HOL2.out b hb).2⟩) HSET3.out (by omega) (by show Mj.length≤10000;have h:Mj.length≤(if D=true then 5000 else 8000)+1100:=HST.out.2.1;split at h <;> omega) (by show Lj.length≤10000;have h:Lj.length≤(if D=true then 5000 else 8000)+1100:=HST.out.2.2;split at h <;> omega))
     clear hk HM3
     go_wp2_with fail
     refine HC.out.mono ?_
     rintro en w5 ⟨sv5,rfl,hm5,hf5⟩
     have HM5:Hid (Met B bx m1 m2 m3 (leafS (Mj,Kj,Lj) x).1 (leafS (Mj,Kj,Lj) x).2.1 g' sv5 (leafS (Mj,Kj,Lj) x).2.2 w5):=by
      show Met _ _ _ _ _ _ _ _ _ _ _
      rw[HE.out];exact hm5
     have HF5:=ha_ hf5
     clear hm5 hf5 HC
     go_wp2_with fail
     go_meet
     exact ⟨sv5,HM5.out,HF5.out⟩
    ·have g1:(x.kind == 2)=false:=beq_eq_false_iff_ne.2 hk
     have HE:Hid (leafS (Mj,Kj,Lj) x=(Mj,Kj,Lj)):=if_neg hk
     have HM5:Hid (Met B bx m1 m2 m3 (leafS (Mj,Kj,Lj) x).1 (leafS (Mj,Kj,Lj) x).2.1 g' sv' (leafS (Mj,Kj,Lj) x).2.2 W3):=by
      show Met _ _ _ _ _ _ _ _ _ _ _
      rw[HE.out];exact HM3.out
     clear hk HM3
     go_wp2_with fail
     go_meet
     exact ⟨sv', HM5.out,Mf.of (Below.refl _ _)⟩
   case rest =>
    obtain ⟨sv5,HM5,HF5⟩:=hcut
    rcases (⟨wc,rfl⟩:∃ W5:World,W5=wc) with ⟨W5,rfl⟩
    have HSO:Hid (∀ b,sv'.ownBlock=some b→b<WL.heap.size):=HSO9.out
    have hbw:¬ MW bx m1 m2 m3 sv' WL.heap.size:=fun e=>by
     have h1:=HLT9.out
     rcases e with e|e|e|e|e
     ·omega
     ·omega
     ·omega
     ·omega
     ·have:=HSO.out _ e;omega
    have HRW5:=ha_ ((HF5.out.fx.block _ hz1 hbw).trans HRW.out)
    have HKID5:Hid (RdP W5 S kA kn kc x.kids):=HKID3.out.keep (fun _ h=>h) (fun p hp=>HF5.out.fx.cell (Nat.lt_trans (HOL2.out _ hp).1 hz1) (HOL2.out _ hp).2)
    have HF6:=ha_ (HF3.out.trans HF5.out)
    have HSM5:Hid (SmS (leafS (Mj,Kj,Lj) x) ((if D=true then 5000 else 8000)+1200)):=by
     have h1:=leafS_sm HST.out HSP.out.1
     exact ⟨h1.1,by have:=h1.2.1;omega,by have:=h1.2.2;omega⟩
    clear hbw HF5 HF3 HKID3 HSET3 HRW HBX hz1 HST HSO
    obtain ⟨k0,k1,k2,k3⟩:=qy_ HRW5.out
    by_cases hkn0:kn=0
    ·subst hkn0
     have hkids:x.kids=[]:=List.eq_nil_of_length_eq_zero HKID5.out.len
     have HE:Hid (twoL (M,K,L) (l.take (j+1))=leafS (Mj,Kj,Lj) x):=by
      show _=_
      rw[HTK.out];unfold twoS;rw[hkids];rfl
     have HC:Hid (Calls Tryz.prog 48 #[.pointer (some ⟨bx,0,none⟩),.slice kA 0 kc] W5 fun en w' => en=.returned (.bool false)∧w' = W5):=enter_nil
     clear hkids HKID5
     go_wp2_with fail
     refine HC.out.mono ?_
     rintro en w6 ⟨rfl,rfl⟩
     go_wp2_with fail
     go_roundw
     case rel=>exact ⟨j+1,g', sv5,by omega,by go_num,by rw[HE.out];exact HM5.out,.inl HGJ.out,HF6.out⟩
     case measure=>simp[intOf];omega
    ·obtain ⟨hD,hjl,hg,hyy⟩:D=true∧j+1=l.length∧g=true∧∀ y∈x.kids,y.kids=[]:=by
      rcases HLV.out j x HX.out with h|h
      ·have:=HKID5.out.len
       rw[h] at this
       exact absurd this.symm hkn0
      ·exact h
     subst hD hg
     have hg2:g' = true:=HGJ.out
     subst hg2
     obtain ⟨kb,ko,_,_,_,_,_,_,_,_,_,_,ekA,_⟩:=HKID5.out.got (i:=0) (by omega)
     subst ekA
     have HC:=ha_ (enter_new HM5.out (b:=kb) (o:=ko) (n:=kn) (c:=kc) (by omega) (by omega))
     have HE:Hid (twoL (M,K,L) (l.take (j+1))=twoL (leafS (Mj,Kj,Lj) x) x.kids):=by
      show _=_
      rw[HTK.out,twoL_leaf hyy];rfl
     have hjn:j+1=n:=by have:=HLN.out;omega
     have HYY:Hid (∀ y∈x.kids,y.kids=[]):=hyy
     have hb3:WL.heap.size≠m3:=by have:=HLT9.out.2.2.2;omega
     have hbl5:WL.heap.size<W5.heap.size:=by
      rcases Nat.lt_or_ge WL.heap.size W5.heap.size with h|h
      ·exact h
      ·have:=HRW5.out;rw[Array.getElem?_eq_none h] at this;cases this
     clear hyy
     go_wp2_with fail
     refine HC.out.mono ?_
     rintro en w6 ⟨rfl,hm6,hf6⟩
     have HRW6:=ha_ ((hf6.block _ hbl5 hb3).trans HRW5.out)
     have HF7:Hid (Mf bx m1 m2 m3 sv sv5 w w6):=HF6.out.trans ⟨hf6.mono (fun i _ e=>.inr (.inr (.inr (.inl e)))),.inl rfl⟩
     have HKID6:Hid (RdP w6 S (some ⟨kb,ko,none⟩) kn kc x.kids):=HKID5.out.keep (fun _ h=>h) (fun p hp=>hf6.cell (Nat.lt_trans (HOL2.out _ hp).1 hbl5) (fun e=>(HOL2.out _ hp).2 (.inr (.inr (.inr (.inl e))))))
     have HCM:=ha_ (HIH.out (by trivial) B bx m1 m2 m3 _ _ _ _ _ w6 hm6 x.kids (fun i y hy=>.inl (HYY.out y (List.mem_of_getElem? hy))) (fun y hy=>⟨HSP.out.2.2 y hy,by rw[HYY.out y hy];exact Nat.zero_le _,fun z hz=>by rw[HYY.out y hy] at hz;cases hz⟩) HSP.out.2.1 ⟨HSM5.out.1,by have h:(leafS (Mj,Kj,Lj) x).1.length≤5000+1200:=HSM5.out.2.1;show (leafS (Mj,Kj,Lj) x).1.length≤8000;omega,by have h:(leafS (Mj,Kj,Lj) x).2.2.length≤5000+1200:=HSM5.out.2.2;show (leafS (Mj,Kj,Lj) x).2.2.length≤8000;omega⟩ S (fun b hb=>HF7.out.keepS (HOLD.out b hb)) _ _ _ HKID6.out)
     clear hm6 hf6 HC HKID5 HF6 HM5 HRW5 hbl5 hb3
     clear k0 k1 k2 k3
     obtain ⟨k0,k1,k2,k3⟩:=qy_ HRW6.out
     go_wp2_with fail
     refine HCM.out.mono ?_
     rintro en w7 ⟨g7,sv7,rfl,hm7,hf7⟩
     have HM7:Hid (Met B bx m1 m2 m3 (twoL (M,K,L) (l.take (j+1))).1 (twoL (M,K,L) (l.take (j+1))).2.1 g7 sv7 (twoL (M,K,L) (l.take (j+1))).2.2 w7):=by
      show Met _ _ _ _ _ _ _ _ _ _ _
      rw[HE.out];exact hm7
     have HF8:=ha_ (HF7.out.trans hf7)
     clear hm7 hf7 HCM HKID6 HF7 HRW6 k0 k1 k2 k3
     go_wp2_with fail
     go_roundw
     case rel=>exact ⟨j+1,g7,sv7,by omega,by go_num,HM7.out,.inr hjn,HF8.out⟩
     case measure=>simp[intOf];omega
  ·obtain rfl:j=n:=by omega
   have ht:l.take j=l:=List.take_of_length_le (by have:=HLN.out;omega)
   rw[ht] at HM2
   have HR9:Hid (MeetP B bx m1 m2 m3 sv (twoL (M,K,L) l) w (.returned (.tuple #[])) WL):=⟨g', sv', rfl,HM2.out,HF.out⟩
   clear HM2 HF HG ht
   go_wp2_with fail
   exact bodyPost_ret (results_none rfl _ _ _) rfl HR9.out
theorem meet_leafs:MeetK false:=meet_of (fun h=>by cases h)
theorem meet_two:MeetK true:=meet_of (fun _=>meet_leafs)

theorem rows3 (w:World) (o0 o1 o2:Obj):(((w.alloc o0).alloc o1).alloc o2).heap.size=w.heap.size+3∧(((w.alloc o0).alloc o1).alloc o2).heap[w.heap.size]?=some o0∧(((w.alloc o0).alloc o1).alloc o2).heap[w.heap.size+1]?=some o1∧(((w.alloc o0).alloc o1).alloc o2).heap[w.heap.size+1+1]?=some o2∧Below w.heap.size w (((w.alloc o0).alloc o1).alloc o2):=by
 have h1:(w.alloc o0).heap.size=w.heap.size+1:=by simp
 have h2:((w.alloc o0).alloc o1).heap.size=w.heap.size+1+1:=by simp
 have b1:=qa_ w o0
 have b2:=qa_ (w.alloc o0) o1
 have b3:=qa_ ((w.alloc o0).alloc o1) o2
 have n1:=heap_alloc_new w o0
 have n2:=heap_alloc_new (w.alloc o0) o1
 have n3:=heap_alloc_new ((w.alloc o0).alloc o1) o2
 rw[h1] at n2
 rw[h2] at n3
 exact ⟨by simp,((b3.block _ (by omega)).trans (b2.block _ (by omega))).trans n1,(b3.block _ (by omega)).trans n2,n3,b1.trans ((b2.mono b1.size).trans (b3.mono (by omega)))⟩
end Go.Proofs.YtbbmjdddemahfaaGreat
