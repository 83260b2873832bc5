/- Part of the proof. -/
import Derived.Test.YtbbmjdddemahfaaGreatSW23
import Derived.Test.YtbbmjdddemahfaaGreatSW33
import Derived.Test.YtbbmjdddemahfaaGreatSW38
import Derived.Test.YtbbmjdddemahfaaGreatSW30
import Derived.Lib.SlBytesConst
set_option maxRecDepth 100000
namespace Go.Proofs.YtbbmjdddemahfaaGreat
open Go.RowKit
open M (Rg)
open Y (Nd It noName zeroN)
open E (okb encB flat offs DecIs Upto)
open W (Tk lexS)

theorem or_nil {L:List Rg}(h:M.LF 0 L) (hl:L.length≤400):toldL (fun x y=>x || y) [] L=L :=
 (told_eq ⟨h,fun c=>by
  show M.covb L c=(M.isch c && (M.hasB [] c || M.hasB L c))
  rw[has_nil,M.hasB_least h hl,Bool.false_or]
  exact M.LF_isch h (by omega) c⟩).symm
theorem lf_one {lo hi:Int}(h0:0≤lo) (h1:lo≤hi) (h2:hi≤1114111):M.LF 0 [(lo,hi)]:=by
 unfold M.LF M.LF
 exact ⟨h0,h1,h2,trivial⟩
theorem plain_one {lo hi:Int}(h0:0≤lo) (h1:lo≤hi) (h2:hi≤1114111):M.plainL [(lo,hi)]=[(lo,hi)] :=
 M.plainL_is (lf_one h0 h1 h2) fun c=>(M.hasB_least (lf_one h0 h1 h2) (by simp) c).symm
theorem set_one (vs:List Vr) (nm nm' : ByteArray){lo hi:Int}(h0:0≤lo) (h1:lo≤hi) (h2:hi≤1114111):dSet vs (.mk 4 nm 0 0 [.mk 5 nm' lo hi []])=(0,[(lo,hi)]):=by
 have e5:dSet vs (.mk 5 nm' lo hi [])=(0,[(lo,hi)]):=by
  rw[dset_plain rfl]
  show dSetOf vs 5 lo hi nm' []=_
  unfold dSetOf fewD
  rw[if_pos rfl,plain_one h0 h1 h2]
  rfl
 have eL:dSets vs [.mk 5 nm' lo hi []]=(0,[[(lo,hi)]]):=by
  rw[dSets,e5,dSets]
  rfl
 have eo:orsD [] [[(lo,hi)]]=(0,[(lo,hi)]):=by
  rw[orsD,or_nil (lf_one h0 h1 h2) (by simp),if_neg (by simp),orsD]
 rw[dset_inner rfl]
 show (if (dSets vs [.mk 5 nm' lo hi []]).1≠0 then _ else dSetOf vs 4 0 0 nm (dSets vs [.mk 5 nm' lo hi []]).2)=_
 rw[eL,if_neg (by simp)]
 unfold dSetOf
 rw[if_neg (by decide),if_neg (by decide),if_neg (by decide),if_pos rfl,eo,if_neg (by simp),if_neg (by decide)]
 rfl
theorem whole_set (vs:List Vr) (nm nm' : ByteArray){lo hi:Int}(h0:0≤lo) (h1:lo≤hi) (h2:hi≤1114111):dWhole vs (.mk 4 nm 0 0 [.mk 5 nm' lo hi []])=(0,.mk 2 [(lo,hi)] [] []):=by
 rw[dWhole,if_neg (by decide),if_pos (by decide),set_one vs nm nm' h0 h1 h2]
 rfl
def p10A:Pt:=.mk 2 [(97,99)] [] []
def p10B:Pt:=.mk 5 [] [] [.mk 2 [(98,98)] [] []]
def p10E:Pt:=.mk 1 [] [] []
def v10:Vr:=⟨⟨#[97]⟩,p10A,true,0⟩
def r10a:Rl:=⟨3000,false,p10A,p10B,9⟩
def r10b:Rl:=⟨4000,true,p10A,p10E,22⟩
def n10A:Nd:=.mk 4 ⟨#[]⟩ 0 0 [.mk 5 ⟨#[]⟩ 97 99 []]
def n10N:Nd:=.mk 2 ⟨#[97]⟩ 0 0 []
def n10B:Nd:=.mk 10 ⟨#[]⟩ 0 0 [.mk 4 ⟨#[]⟩ 0 0 [.mk 5 ⟨#[]⟩ 98 98 []]]
def n10E:Nd:=.mk 1 ⟨#[]⟩ 0 0 []
def i10:List It:=[⟨1,⟨#[97]⟩,0,false,n10A,.mk 0 ⟨#[]⟩ 0 0 [],0⟩,⟨2,⟨#[]⟩,3000,false,n10N,n10B,9⟩,⟨2,⟨#[]⟩,4000,true,n10N,n10E,22⟩]
theorem ex_of {vs:List Vr}{n:Nd}{p:Pt}(h:dWhole vs n=(0,p)) (hs:p.size≤300):dExpand vs n=(0,p):=by
 unfold dExpand
 rw[h,if_neg (by simp),if_neg (by simpa using hs)]
theorem ex_A (vs:List Vr):dExpand vs n10A=(0,p10A):=ex_of (whole_set vs _ _ (by decide) (by decide) (by decide)) (by decide)
theorem ex_N:dExpand [v10] n10N=(0,p10A):=ex_of (by
 unfold n10N
 rw[dWhole,if_neg (by decide),if_neg (by decide),if_pos rfl]
 rfl) (by decide)
theorem ex_B (vs:List Vr):dExpand vs n10B=(0,p10B):=ex_of (by
 unfold n10B
 rw[dWhole,if_neg (by decide),if_neg (by decide),if_neg (by decide),if_pos (by decide),dWholes,whole_set vs _ _ (by decide) (by decide) (by decide),dWholes]
 rfl) (by decide)
theorem ex_E (vs:List Vr):dExpand vs n10E=(0,p10E):=ex_of (by
 unfold n10E
 rw[dWhole,if_pos rfl]
 rfl) (by decide)
def vs10:Nat→List Vr|0=>[]|_+1=>[v10]
def rs10:Nat→List Rl|0=>[]|1=>[]|2=>[r10a]|_+3=>[r10a,r10b]
theorem step10:∀ i x,i10[i]?=some x→StepOk (vs10 i) (rs10 i) x (vs10 (i+1)) (rs10 (i+1))∧(x.kind=1→i=0)∧x.before.size≤1000∧x.after.size≤1000:=by
 intro i x hx
 match i,hx with
 | 0,hx =>
  injection hx with hx
  subst hx
  refine ⟨.inl ⟨rfl,rfl,by rw[ex_A],rfl,?_,rfl⟩,fun _=>rfl,by decide,by decide⟩
  rw[ex_A];rfl
 | 1,hx =>
  injection hx with hx
  subst hx
  refine ⟨.inr ⟨rfl,rfl,by decide,?_,?_,rfl,?_⟩,fun h=>absurd h (by decide),by decide,by decide⟩
  ·show (dExpand [v10] n10N).1=0
   rw[ex_N]
  ·show (dExpand [v10] n10B).1=0
   rw[ex_B]
  ·show [r10a]=rlPut [] ⟨3000,false,(dExpand [v10] n10N).2,(dExpand [v10] n10B).2,9⟩
   rw[ex_N,ex_B];rfl
 | 2,hx =>
  injection hx with hx
  subst hx
  refine ⟨.inr ⟨rfl,rfl,by decide,?_,?_,rfl,?_⟩,fun h=>absurd h (by decide),by decide,by decide⟩
  ·show (dExpand [v10] n10N).1=0
   rw[ex_N]
  ·show (dExpand [v10] n10E).1=0
   rw[ex_E]
  ·show [r10a,r10b]=rlPut [r10a] ⟨4000,true,(dExpand [v10] n10N).2,(dExpand [v10] n10E).2,22⟩
   rw[ex_N,ex_E];rfl
 | i+3,hx=>cases hx
def al10B:List Int:=[36,97,61,91,97,45,99,93,10,51,32,36,97,32,195,151,32,91,98,93,42,10,52,32,36,97,32,195,183]
def al10C:List Int:=[36,97,61,91,97,45,99,93,10,51,32,36,97,32,215,32,91,98,93,42,10,52,32,36,97,32,247]
theorem al10_dec:DecIs al10B al10C (offs 0 al10C++[(al10B.length:Int)]) (-1) 0:=.ok al10C (by decide) ⟨fun c hc=>List.all_eq_true.1 (show al10C.all okb=true by decide) c hc,by decide,by decide⟩
theorem al10_lex:lexS al10C 0 0 []=.ok (lexL al10C):=by kernel_rfl
theorem al10_all:allS al10B.length 300 30 (placed al10C (lexL al10C))=(i10,-1,0):=by kernel_rfl
theorem al10_one {ts:List Tok}{x er:Int}(h:TokIs al10B ts x er):ts=placed al10C (lexL al10C):=by
 cases h with
 | dec cs' ats' _ _ h he=>obtain ⟨_,_,_,e⟩:=h.one al10_dec;exact absurd e he
 | bad cs' ats' _ h k _ hl' => obtain ⟨e,_⟩:=h.one al10_dec;subst e;rw[al10_lex] at hl'; cases hl'
 | ok cs' ats' _ h ts' hl' => obtain ⟨e,_⟩:=h.one al10_dec;subst e;rw[al10_lex] at hl'; injection hl' with e;subst e;rfl
theorem al10_live:((Y.itemsP al10B.length 300 30 [] (.live (placed al10C (lexL al10C)))).2 matches .live _)=true:=by kernel_rfl
theorem al10_no19:(placed al10C (lexL al10C)).all (fun t=>t.kind != 19 && t.kind != 6 && t.kind != 12 && t.kind != 16 && t.kind != 17)=true:=by kernel_rfl
theorem al10_good:∀ ts x,TokIs al10B ts x 0→(∀ a y,(Y.itemsP ((al10B.length:Nat):Int) 300 30 [] (.live ts)).2≠.dead a y)∧∀ t∈ts,t.kind≠19∧t.kind≠6∧t.kind≠12∧t.kind≠16∧t.kind≠17:=fun ts x h=>by
 rw[al10_one h]
 refine ⟨fun a y e=>?_,fun t ht=>?_⟩
 ·have h1:=al10_live
  rw[e] at h1
  cases h1
 ·have h1:=List.all_eq_true.1 al10_no19 t ht
  simpa [Bool.and_eq_true,and_assoc] using h1
theorem book_noStr {w:World}{N:Nat}{a0 a1 a2 a3:Option Addr}{n0 n1 n2 n3 c0 c1 c2 c3:Nat}{t:TypeId}(h:w.heap[N]?=some (.cells #[.slice a0 n0 c0,.slice a1 n1 c1,.slice a2 n2 c2,.slice a3 n3 c3] t (0,0))):∀ (o:Nat) (x:ByteArray),w.cell? ⟨N,o,none⟩≠some (.string x):=by
 intro o x e
 rw[cell_of_row _ _ _ _ _ _ h] at e
 match o,e with
 | 0,e=>cases e
 | 1,e=>cases e
 | 2,e=>cases e
 | 3,e=>cases e
 | o+4,e=>cases e
theorem strs_not {w:World}{S:Nat→Prop}{A:Option Addr}{n c:Nat}{l:List ByteArray}(h:RdG strD w S A n c l){N:Nat}(hN:∀ (o:Nat) (x:ByteArray),w.cell? ⟨N,o,none⟩≠some (.string x)):RdG strD w (fun b=>S b∧b≠N) A n c l:=by
 obtain ⟨h1,h2,h3,cs,h4,h5⟩:=h
 refine ⟨h1,h2,h3,cs,fun hn=>?_,fun i x hx=>h5 i x hx⟩
 obtain ⟨b,off,e,hb,hcc⟩:=h4 hn
 have e5:cs 0=[.string _]:=h5 0 _ (List.getElem?_eq_getElem (by omega))
 have h0:=hcc 0 hn 0
 rw[e5] at h0
 exact ⟨b,off,e,⟨hb,fun e=>hN _ _ (e ▸ h0 _ rfl)⟩,hcc⟩
set_option maxHeartbeats 4000000 in
theorem read10 {w:World}{A:Option Addr}{n c:Nat}(h:RdK .u8 w w.heap.size A n c al10B) :
  Calls Tryz.prog 11 #[.slice A n c] w (BuildP w [v10] [r10a,r10b]):=by
 have HP:=hd_ (qa_ w (.cells #[.slice none 0 0,.slice none 0 0,.slice none 0 0,.slice none 0 0] 36))
 have HRX:=hd_ (heap_alloc_new w (.cells #[.slice none 0 0,.slice none 0 0,.slice none 0 0,.slice none 0 0] 36))
 have HK:=hd_ (h.on HP.out)
 clear h
 go_enter Tryz.func11,Tryz.ntmps11
 go_upto_region 1 with fail
 generalize hW1:w.alloc (.cells #[.slice none 0 0,.slice none 0 0,.slice none 0 0,.slice none 0 0] 36)=W1 at *
 clear hW1
 go_wp2_with fail
 refine (pofl_any HK.out (dof_any HK.out (byt_of (by decide)) (by decide)) (by decide) 300 30 (by decide) (by decide) (by rw[show n=al10B.length from HK.out.len.symm];exact al10_good)).mono ?_
 rintro en w2 ⟨r,hi,A2,c2,rfl,hr,hb⟩
 obtain rfl:=items_one al10_dec al10_lex hi
 rw[al10_all] at hr ⊢
 have HB2:=hd_ hb
 have HI:=hd_ (hr.keep (S' := Bl w2) (fun _ h=>h.2) (fun _ _=>rfl))
 have HC:=hd_ (build_any (by decide) (Vs:=vs10) (Rs:=rs10) ⟨rfl,rfl⟩ step10 (by decide) HI.out)
 clear hi hr hb
 go_wp2_with fail
 refine HC.out.mono ?_
 rintro en w3 ⟨vA,vn,vc,rA,rn,rc,uA,un,uc,us,rfl,hv,hr,hu,hun,hb3⟩
 have hz1:w.heap.size<W1.heap.size:=by
  rcases Nat.lt_or_ge w.heap.size W1.heap.size with h|h
  ·exact h
  ·have:=HRX.out;rw[Array.getElem?_eq_none h] at this;cases this
 have HZ3:Hid (w3.heap[w.heap.size]?=some (.cells #[.slice none 0 0,.slice none 0 0,.slice none 0 0,.slice none 0 0] 36 (0,0))):=(hb3.block _ (Nat.lt_of_lt_of_le hz1 HB2.out.size)).trans ((HB2.out.block _ hz1).trans HRX.out)
 have HB3:Hid (Below w.heap.size w w3):=(HP.out.trans (HB2.out.mono HP.out.size)).trans (hb3.mono (Nat.le_trans HP.out.size HB2.out.size))
 have HF:Hid (BuildP w [v10] [r10a,r10b] (.returned (.tuple #[.agg #[.slice vA vn vc,.slice rA rn rc,.slice none 0 0,.slice uA un uc],.int .i64 (-1),.int .i64 0])) (set4 w3 w.heap.size (.slice vA vn vc) (.slice rA rn rc) (.slice none 0 0) (.slice uA un uc))):=by
  have hz:=book_noInt HZ3.out
  refine ⟨vA,vn,vc,rA,rn,rc,uA,un,uc,us,rfl,(vars_not hv hz).keep (fun b h=>?_) (fun p hp=>qn_ _ _ _ _ _ hp.2),(rules_not hr hz).keep (fun b h=>?_) (fun p hp=>qn_ _ _ _ _ _ hp.2),(strs_not hu (book_noStr HZ3.out)).keep (fun b h=>?_) (fun p hp=>qn_ _ _ _ _ _ hp.2),hun,qm_ HB3.out (Nat.le_refl _) _ _ _ _⟩
  ·show b<_
   rw[qg_];exact h.1
  ·show b<_
   rw[qg_];exact h.1
  ·show b<_
   rw[qg_];exact h.1
 have HQQ:=hd_ (qx_ HZ3.out (.slice vA vn vc) (.slice rA rn rc) (.slice none 0 0) (.slice uA un uc))
 have fr:=qv_ HZ3.out
 obtain ⟨q0,q1,q2,q3⟩:=qi_ HZ3.out
 clear hv hr hu hun hb3 HI HC HK HB2 HRX HP HB3
 go_wp2_with fail
 change bodyPost _ _ _ _ _ (set4 w3 w.heap.size (.slice vA vn vc) (.slice rA rn rc) (.slice none 0 0) (.slice uA un uc))
 generalize hW9:set4 w3 w.heap.size (.slice vA vn vc) (.slice rA rn rc) (.slice none 0 0) (.slice uA un uc)=W9 at *
 exact bodyPost_ret (results_ctt (a:=2) (u:=3) (s:=4) rfl (Tryz.isAgg36 _) (Tryz.sizeOf36 _) _ rfl HQQ.out) rfl HF.out
end Go.Proofs.YtbbmjdddemahfaaGreat
