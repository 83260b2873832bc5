/- Part of the proof. -/
import Derived.Test.YtbbmjdddemahfaaGreatSW27
import Derived.Test.YtbbmjdddemahfaaGreatSW14
import Derived.Shelf.Unicode.DecodeSlow
set_option maxRecDepth 100000
namespace Go.Proofs.YtbbmjdddemahfaaGreat
open Go.RowKit
open E (okb encB Fst)

def FstP (w:World) (L:List Int) (e:Ending) (w' : World):Prop:=∃ (c:Int) (k:Nat),e=.returned (.tuple #[.int .i64 c,.int .i64 k])∧Fst L c k∧Below w.heap.size w w'
open E (okb encB Fst Upto Dead DecIs offs)

def DecP (w:World) (L:List Int) (e:Ending) (w' : World):Prop:=∃ (A1 A2:Option Addr) (n1 c1 n2 c2:Nat) (cs ats:List Int) (x er:Int),
 e=.returned (.tuple #[.slice A1 n1 c1,.slice A2 n2 c2,.int .i64 x,.int .i64 er])∧RdK .i64 w' w'.heap.size A1 n1 c1 cs∧RdK .i64 w' w'.heap.size A2 n2 c2 ats∧DecIs L cs ats x er∧Below w.heap.size w w'
theorem decP_ok {w w' : World}{L cs:List Int}{v1 v2:Value}{n1 n2:Nat}(hl:L.length≤3000) (hu:Upto L L.length cs) (h1:OwnK .i64 w' w.heap.size 3 v1 n1 cs) (h2:OwnK .i64 w' w.heap.size 3 v2 n2 (offs 0 cs++[(L.length:Int)])) (hb:Below w.heap.size w w') :
  DecP w L (.returned (.tuple #[v1,v2,.int .i64 (-1),.int .i64 0])) w' := by
 obtain ⟨A1,c1,rfl,r1⟩:=h1.rd
 obtain ⟨A2,c2,rfl,r2⟩:=h2.rd
 exact ⟨A1,A2,n1,c1,n2,c2,cs,_,_,_,rfl,r1,r2,.ok cs hl hu,hb⟩
theorem decP_bad {w w' : World}{L cs:List Int}{p:Nat}(hl:L.length≤3000) (hp:p<L.length) (hu:Upto L p cs) (hd:Dead L p) (hb:Below w.heap.size w w') :
  DecP w L (.returned (.tuple #[.slice none 0 0,.slice none 0 0,.int .i64 p,.int .i64 3])) w' :=
 ⟨none,none,0,0,0,0,[],[],_,_,rfl,RdK.nil _ _ _,RdK.nil _ _ _,.bad p cs hl hp hu hd,hb⟩
theorem decP_long {w:World}{L:List Int}(hl:3000<L.length):DecP w L (.returned (.tuple #[.slice none 0 0,.slice none 0 0,.int .i64 0,.int .i64 2])) w :=
 ⟨none,none,0,0,0,0,[],[],_,_,rfl,RdK.nil _ _ _,RdK.nil _ _ _,.long hl,Below.refl _ _⟩
structure DecR (w:World) (L:List Int) (vc va:Value) (p:Nat) (cs:List Int) (wx:World):Prop where
 up:Upto L p cs
 c:OwnK .i64 wx w.heap.size 3 vc cs.length cs
 a:OwnK .i64 wx w.heap.size 3 va cs.length (offs 0 cs)
 apt:Apt vc va
 b:Below w.heap.size w wx
theorem DecR.start (w:World) (L:List Int):DecR w L (.slice none 0 0) (.slice none 0 0) 0 [] w :=
 ⟨Upto.start L,OwnK.nil _ _ _ _,OwnK.nil _ _ _ _,apt_nil _,Below.refl _ _⟩
theorem DecR.on {w wx w' : World}{L cs:List Int}{vc va:Value}{p:Nat}(h:DecR w L vc va p cs wx) (hb:Below wx.heap.size wx w'):DecR w L vc va p cs w' :=
 ⟨h.up,h.c.below hb,h.a.below hb,h.apt,h.b.trans (hb.mono h.b.size)⟩
theorem decR_c {w w3 w4:World}{L cs:List Int}{vc va v4:Value}{p:Nat}{d:Int}{o:Obj}(h:DecR w L vc va p cs w3) (ho:OwnK .i64 w4 w.heap.size 3 v4 (cs.length+1) (cs++[d])) (hg:(w3.alloc o).grownBy w4 vc.ownBlock) (hv:v4.ownBlock=vc.ownBlock∨v4.ownBlock=some (w3.heap.size+1)) :
  OwnK .i64 w4 w.heap.size 3 v4 (cs.length+1) (cs++[d])∧OwnK .i64 w4 w.heap.size 3 va cs.length (offs 0 cs)∧Apt v4 va∧Below w.heap.size w w4:=by
 have ha:=(h.a.alloc o).block
 have hc:=(h.c.alloc o).block
 refine ⟨ho,(h.a.alloc o).kept hg ?_,?_,qe_ (h.b.alloc (by have:=h.b.size;omega) o) hg fun i hi=>(hc i hi).1⟩
 ·rcases h.apt with e|e
  ·cases hva:va.ownBlock with
   | none=>exact Or.inl rfl
   | some i=>exact Or.inr (by rw[e];simp)
  ·exact Or.inr (Ne.symm e)
 ·rcases hv with e|e
  ·rcases h.apt with e' | e'
   ·exact Or.inl (e.trans e')
   ·exact Or.inr (by rw[e];exact e')
  ·refine Or.inr fun e' => ?_
   have:=(ha _ (e'.symm.trans e)).2
   simp at this
theorem decR_a {w w4 w5:World}{L cs:List Int}{va v4 v5:Value}{p k:Nat}{d:Int}{o:Obj}(h:OwnK .i64 w4 w.heap.size 3 v4 (cs.length+1) (cs++[d])∧OwnK .i64 w4 w.heap.size 3 va cs.length (offs 0 cs)∧Apt v4 va∧Below w.heap.size w w4)
  (hu:Upto L (p+k) (cs++[d])) (hO:offs 0 (cs++[d])=offs 0 cs++[(p:Int)])
  (ho:OwnK .i64 w5 w.heap.size 3 v5 (cs.length+1) (offs 0 cs++[(p:Int)])) (hg:(w4.alloc o).grownBy w5 va.ownBlock) (hv:v5.ownBlock=va.ownBlock∨v5.ownBlock=some (w4.heap.size+1)) :
  DecR w L v4 v5 (p+k) (cs++[d]) w5:=by
 obtain ⟨h1,h2,h3,h4⟩:=h
 have ha:=(h2.alloc o).block
 have hc:=(h1.alloc o).block
 refine ⟨hu,?_,?_,?_,qe_ (h4.alloc (by have:=h4.size;omega) o) hg fun i hi=>(ha i hi).1⟩
 ·rw[List.length_append];exact (h1.alloc o).kept hg h3
 ·rw[List.length_append,hO];exact ho
 ·rcases hv with e|e
  ·rcases h3 with e' | e'
   ·exact Or.inl e'
   ·exact Or.inr (by rw[e];exact e')
  ·cases hv4:v4.ownBlock with
   | none=>exact Or.inl hv4
   | some i =>
    refine Or.inr fun e' => ?_
    have:=(hc i hv4).2
    rw[hv4,e] at e'
    injection e' with e'
    simp at this
    omega
theorem decR_end {w wr w5:World}{L cs:List Int}{vc va v5:Value}{p:Nat}{o:Obj}(h:DecR w L vc va p cs wr) (hlen:L.length=p) (hl:p≤3000) (hu:Upto L L.length cs) (ho:OwnK .i64 w5 w.heap.size 3 v5 (cs.length+1) (offs 0 cs++[(p:Int)])) (hg:(wr.alloc o).grownBy w5 va.ownBlock) :
  DecP w L (.returned (.tuple #[vc,v5,.int .i64 (-1),.int .i64 0])) w5:=by
 rw[← hlen] at ho
 exact decP_ok (by rw[hlen];exact hl) hu ((h.c.alloc o).kept hg h.apt) ho (qe_ (h.b.alloc (by have:=h.b.size;omega) o) hg fun i hi=>((h.a.alloc o).block i hi).1)
open E (okb encB Fst fitB cand)

theorem heads_at (w:World) (t:TypeId):∀ j x,[(0:Int),192,224,240][j]?=some x→(w.alloc (.cells #[.int .i64 0,.int .i64 192,.int .i64 224,.int .i64 240] t)).cell? ⟨w.heap.size,j,none⟩=some (.int .i64 x):=fun j x hx=>by
 have:=lit_k w w.heap.size rfl .i64 [0,192,224,240] t #[.int .i64 0,.int .i64 192,.int .i64 224,.int .i64 240] rfl j x hx
 rwa [qo_,Nat.zero_add] at this
set_option maxHeartbeats 2000000 in
theorem r8first_any {w:World}{A:Option Addr}{n c:Nat}{L:List Int}(h:RdK .u8 w w.heap.size A n c L) (hb:Byt L) :
  Calls Tryz.prog 80 #[.slice A n c] w (FstP w L):=by
 have hsm:=h.small
 have hlen:=hc_ h.len
 have hcap:=h.cap
 have hcapm:=h.capm
 unfold maxLen at hcapm
 have HB:=hc_ hb
 clear hb
 go_enter Tryz.func80,Tryz.ntmps80
 go_wp2_with fail
 have HH:=hc_ (heads_at w 3)
 have h1:=hc_ (h.push (.cells #[.int .i64 0,.int .i64 192,.int .i64 224,.int .i64 240] 3))
 have HB0:=hc_ (qa_ w (.cells #[.int .i64 0,.int .i64 192,.int .i64 224,.int .i64 240] 3))
 clear h
 generalize w.alloc (.cells #[.int .i64 0,.int .i64 192,.int .i64 224,.int .i64 240] 3)=w1 at *
 have hN:w.heap.size<w1.heap.size:=klt_of_cell (HH.out 0 0 rfl)
 go_loopw [5] (fun i wx=>∃ m:Nat,1≤m∧m≤5∧i=.int .i64 m∧Hid (∀ k,1≤k→k<m→k≤n→fitB L k=false)∧Hid (Below w1.heap.size w1 wx)) (fun i _=>5 - (intOf i).toNat)
 case atStart=>exact ⟨1,by omega,by omega,rfl,fun k _ _ _=>by omega,Below.refl _ _⟩
 case round =>
  obtain ⟨m,hm1,hm5,rfl,HF,HW⟩:=hrel
  by_cases hm4:m≤4
  ·by_cases hmn:m≤n
   ·obtain ⟨b,off,x0,rfl,hbl,hx0,hc0⟩:=h1.out.got (j:=0) (by omega)
    have k0:wr.cell? ⟨b,off,none⟩=some (.int .u8 x0):=(HW.out.cell (p:=⟨b,off,none⟩) hbl).trans (by simpa using hc0)
    have hx0b:=HB.out x0 (List.mem_of_getElem? hx0)
    have HX0:=hc_ hx0
    clear hx0 hc0
    have hmm:m=1∨m=2∨m=3∨m=4:=by omega
    rcases hmm with rfl|rfl|rfl|rfl
    ·have kh:wr.cell? ⟨w.heap.size,0,none⟩=some (.int .i64 0):=(HW.out.cell (p:=⟨w.heap.size,0,none⟩) hN).trans (HH.out 0 0 rfl)
     have HP1:Hid (E.part L 1 1=x0 - 0):=E.part_one HX0.out
     go_wp2_with fail
     go_quiet (fail)
     go_wp2_with fail
     clear kh k0
     have HW1:=hc_ (qb_ HW.out nq)
     generalize wr.drewN nq=w2 at *
     go_loop [6,7] (fun cv iv=>∃ i:Nat,1≤i∧i≤1∧iv=.int .i64 i∧cv=.int .i64 (E.part L 1 i)) (fun _ iv=>1 - (intOf iv).toNat)
     case atStart=>exact ⟨1,by omega,by omega,rfl,by rw[HP1.out];(try go_num)⟩
     case round =>
      obtain ⟨i,hi1,hi2,rfl,rfl⟩:=hrel
      have hpb:=E.part_bd HB.out 1 i (by omega)
      by_cases hlt:i<1
      ·exfalso;omega
      ·obtain rfl:i=1:=by omega
       have hpc:=E.part_cand (l:=L) (n:=1) (by omega) (by omega) (by rw[hlen.out];omega)
       rw[hpc] at hpb ⊢
       clear hpc hi1 hi2 hlt
       have hcon:=hc_ (bytes_any (cand L 1) w2)
       go_wp2_with (go_at_call 100;refine hcon.out.mono ?_;rintro e w3 ⟨A3,n3,c3,rfl,h3,hb3⟩)
       have H3:=hc_ h3
       have HB3:=hc_ hb3
       have hn3:n3≤4:=by have:=h3.len;have:=E.enc_le (cand L 1);omega
       have hlen3:=hc_ h3.len
       clear h3 hb3 hcon
       by_cases hq:n3=1
       ·subst hq
        obtain ⟨b3,o3,rfl,hb3l,hc3⟩:=H3.out.at_ (by omega)
        have HL:=hc_ ((h1.out.on (HW1.out.trans (HB3.out.mono HW1.out.size))).take hmn)
        have q1:∀ q,(convert 39 9 (.slice (some ⟨b3,o3,none⟩) 1 c3)).run Tryz.prog (w3.drewN q)=.ok (.string (strOfNums (encB (cand L 1)))) (w3.drewN q):=fun q=>conv_k (H3.out.drewN q) _ 5 _ Tryz.underlying39 Tryz.underlying5 Tryz.underlying9 (by omega)
        have q2:∀ q,(convert 39 9 (.slice (some ⟨b,off,none⟩) 1 c)).run Tryz.prog (w3.drewN q)=.ok (.string (strOfNums (L.take 1))) (w3.drewN q):=fun q=>conv_k (HL.out.drewN q) _ 5 _ Tryz.underlying39 Tryz.underlying5 Tryz.underlying9 (by omega)
        clear hc3
        have hcmp:=str_eqB (enc_byt (cand L 1)) (Byt.take HB.out 1)
        cases hfit:fitB L 1 with
        | true =>
         have HG:=hc_ (E.fit_yes (by omega) (by rw[hlen.out];omega) hfit)
         unfold fitB at hfit
         rw[hfit] at hcmp
         clear hfit
         go_quiet (fail)
         go_wp2_with fail
         go_ret2
         exact ⟨cand L 1,1,rfl,HG.out,HB0.out.trans ((HW1.out.trans (qb_ (HB3.out.mono HW1.out.size) _)).mono HB0.out.size)⟩
        | false =>
         have HNF:=hc_ hfit
         unfold fitB at hfit
         rw[hfit] at hcmp
         clear hfit
         have HQ:Hid (∀ k,1≤k→k<1+1→k≤n→fitB L k=false):=fun k k1 k2 k3=>by
          by_cases h:k<1
          ·exact HF.out k k1 h k3
          ·obtain rfl:k=1:=by omega
           exact HNF.out
         go_quiet (fail)
         go_wp2_with fail
         go_roundw
         case rel=>exact ⟨1+1,by omega,by omega,rfl,HQ.out,HW1.out.trans (qb_ (HB3.out.mono HW1.out.size) _)⟩
         case measure=>simp[intOf]
       ·have g3:((n3:Int) == 1)=false:=beq_eq_false_iff_ne.2 (by omega)
        have HNF:Hid (fitB L 1=false):=by
         unfold fitB
         refine decide_eq_false fun e=>hq ?_
         rw[← hlen3.out,e,List.length_take,hlen.out];omega
        have HQ:Hid (∀ k,1≤k→k<1+1→k≤n→fitB L k=false):=fun k k1 k2 k3=>by
         by_cases h:k<1
         ·exact HF.out k k1 h k3
         ·obtain rfl:k=1:=by omega
          exact HNF.out
        clear hq
        go_quiet (fail)
        go_wp2_with fail
        go_roundw
        case rel=>exact ⟨1+1,by omega,by omega,rfl,HQ.out,HW1.out.trans (qb_ (HB3.out.mono HW1.out.size) _)⟩
        case measure=>simp[intOf]
    ·have kh:wr.cell? ⟨w.heap.size,1,none⟩=some (.int .i64 192):=(HW.out.cell (p:=⟨w.heap.size,1,none⟩) hN).trans (HH.out 1 192 rfl)
     have HP1:Hid (E.part L 2 1=x0 - 192):=E.part_one HX0.out
     go_wp2_with fail
     go_quiet (fail)
     go_wp2_with fail
     clear kh k0
     have HW1:=hc_ (qb_ HW.out nq)
     generalize wr.drewN nq=w2 at *
     go_loop [6,7] (fun cv iv=>∃ i:Nat,1≤i∧i≤2∧iv=.int .i64 i∧cv=.int .i64 (E.part L 2 i)) (fun _ iv=>2 - (intOf iv).toNat)
     case atStart=>exact ⟨1,by omega,by omega,rfl,by rw[HP1.out];(try go_num)⟩
     case round =>
      obtain ⟨i,hi1,hi2,rfl,rfl⟩:=hrel
      have hpb:=E.part_bd HB.out 2 i (by omega)
      by_cases hlt:i<2
      ·obtain ⟨b', off', xi,e,_,hxi,hci⟩:=h1.out.got (j:=i) (by omega)
       injection e with e;injection e with e1 e2 _;subst e1 e2
       have k1:w2.cell? ⟨b,off+i,none⟩=some (.int .u8 xi):=(HW1.out.cell (p:=⟨b,off+i,none⟩) hbl).trans hci
       have hxib:=HB.out xi (List.mem_of_getElem? hxi)
       have HS:=hc_ (E.part_step (n:=2) hi1 hxi)
       clear hxi hci
       have hlt' : (i:Int)<n:=by omega
       go_wp2_with fail
       go_round
       case rel=>exact ⟨i+1,by omega,by omega,by go_num,by rw[HS.out];(try go_num)⟩
       case measure=>simp[intOf];omega
      ·obtain rfl:i=2:=by omega
       have hpc:=E.part_cand (l:=L) (n:=2) (by omega) (by omega) (by rw[hlen.out];omega)
       rw[hpc] at hpb ⊢
       clear hpc hi1 hi2 hlt
       have hcon:=hc_ (bytes_any (cand L 2) w2)
       go_wp2_with (go_at_call 100;refine hcon.out.mono ?_;rintro e w3 ⟨A3,n3,c3,rfl,h3,hb3⟩)
       have H3:=hc_ h3
       have HB3:=hc_ hb3
       have hn3:n3≤4:=by have:=h3.len;have:=E.enc_le (cand L 2);omega
       have hlen3:=hc_ h3.len
       clear h3 hb3 hcon
       by_cases hq:n3=2
       ·subst hq
        obtain ⟨b3,o3,rfl,hb3l,hc3⟩:=H3.out.at_ (by omega)
        have HL:=hc_ ((h1.out.on (HW1.out.trans (HB3.out.mono HW1.out.size))).take hmn)
        have q1:∀ q,(convert 39 9 (.slice (some ⟨b3,o3,none⟩) 2 c3)).run Tryz.prog (w3.drewN q)=.ok (.string (strOfNums (encB (cand L 2)))) (w3.drewN q):=fun q=>conv_k (H3.out.drewN q) _ 5 _ Tryz.underlying39 Tryz.underlying5 Tryz.underlying9 (by omega)
        have q2:∀ q,(convert 39 9 (.slice (some ⟨b,off,none⟩) 2 c)).run Tryz.prog (w3.drewN q)=.ok (.string (strOfNums (L.take 2))) (w3.drewN q):=fun q=>conv_k (HL.out.drewN q) _ 5 _ Tryz.underlying39 Tryz.underlying5 Tryz.underlying9 (by omega)
        clear hc3
        have hcmp:=str_eqB (enc_byt (cand L 2)) (Byt.take HB.out 2)
        cases hfit:fitB L 2 with
        | true =>
         have HG:=hc_ (E.fit_yes (by omega) (by rw[hlen.out];omega) hfit)
         unfold fitB at hfit
         rw[hfit] at hcmp
         clear hfit
         go_quiet (fail)
         go_wp2_with fail
         go_ret2
         exact ⟨cand L 2,2,rfl,HG.out,HB0.out.trans ((HW1.out.trans (qb_ (HB3.out.mono HW1.out.size) _)).mono HB0.out.size)⟩
        | false =>
         have HNF:=hc_ hfit
         unfold fitB at hfit
         rw[hfit] at hcmp
         clear hfit
         have HQ:Hid (∀ k,1≤k→k<2+1→k≤n→fitB L k=false):=fun k k1 k2 k3=>by
          by_cases h:k<2
          ·exact HF.out k k1 h k3
          ·obtain rfl:k=2:=by omega
           exact HNF.out
         go_quiet (fail)
         go_wp2_with fail
         go_roundw
         case rel=>exact ⟨2+1,by omega,by omega,rfl,HQ.out,HW1.out.trans (qb_ (HB3.out.mono HW1.out.size) _)⟩
         case measure=>simp[intOf]
       ·have g3:((n3:Int) == 2)=false:=beq_eq_false_iff_ne.2 (by omega)
        have HNF:Hid (fitB L 2=false):=by
         unfold fitB
         refine decide_eq_false fun e=>hq ?_
         rw[← hlen3.out,e,List.length_take,hlen.out];omega
        have HQ:Hid (∀ k,1≤k→k<2+1→k≤n→fitB L k=false):=fun k k1 k2 k3=>by
         by_cases h:k<2
         ·exact HF.out k k1 h k3
         ·obtain rfl:k=2:=by omega
          exact HNF.out
        clear hq
        go_quiet (fail)
        go_wp2_with fail
        go_roundw
        case rel=>exact ⟨2+1,by omega,by omega,rfl,HQ.out,HW1.out.trans (qb_ (HB3.out.mono HW1.out.size) _)⟩
        case measure=>simp[intOf]
    ·have kh:wr.cell? ⟨w.heap.size,2,none⟩=some (.int .i64 224):=(HW.out.cell (p:=⟨w.heap.size,2,none⟩) hN).trans (HH.out 2 224 rfl)
     have HP1:Hid (E.part L 3 1=x0 - 224):=E.part_one HX0.out
     go_wp2_with fail
     go_quiet (fail)
     go_wp2_with fail
     clear kh k0
     have HW1:=hc_ (qb_ HW.out nq)
     generalize wr.drewN nq=w2 at *
     go_loop [6,7] (fun cv iv=>∃ i:Nat,1≤i∧i≤3∧iv=.int .i64 i∧cv=.int .i64 (E.part L 3 i)) (fun _ iv=>3 - (intOf iv).toNat)
     case atStart=>exact ⟨1,by omega,by omega,rfl,by rw[HP1.out];(try go_num)⟩
     case round =>
      obtain ⟨i,hi1,hi2,rfl,rfl⟩:=hrel
      have hpb:=E.part_bd HB.out 3 i (by omega)
      by_cases hlt:i<3
      ·obtain ⟨b', off', xi,e,_,hxi,hci⟩:=h1.out.got (j:=i) (by omega)
       injection e with e;injection e with e1 e2 _;subst e1 e2
       have k1:w2.cell? ⟨b,off+i,none⟩=some (.int .u8 xi):=(HW1.out.cell (p:=⟨b,off+i,none⟩) hbl).trans hci
       have hxib:=HB.out xi (List.mem_of_getElem? hxi)
       have HS:=hc_ (E.part_step (n:=3) hi1 hxi)
       clear hxi hci
       have hlt' : (i:Int)<n:=by omega
       go_wp2_with fail
       go_round
       case rel=>exact ⟨i+1,by omega,by omega,by go_num,by rw[HS.out];(try go_num)⟩
       case measure=>simp[intOf];omega
      ·obtain rfl:i=3:=by omega
       have hpc:=E.part_cand (l:=L) (n:=3) (by omega) (by omega) (by rw[hlen.out];omega)
       rw[hpc] at hpb ⊢
       clear hpc hi1 hi2 hlt
       have hcon:=hc_ (bytes_any (cand L 3) w2)
       go_wp2_with (go_at_call 100;refine hcon.out.mono ?_;rintro e w3 ⟨A3,n3,c3,rfl,h3,hb3⟩)
       have H3:=hc_ h3
       have HB3:=hc_ hb3
       have hn3:n3≤4:=by have:=h3.len;have:=E.enc_le (cand L 3);omega
       have hlen3:=hc_ h3.len
       clear h3 hb3 hcon
       by_cases hq:n3=3
       ·subst hq
        obtain ⟨b3,o3,rfl,hb3l,hc3⟩:=H3.out.at_ (by omega)
        have HL:=hc_ ((h1.out.on (HW1.out.trans (HB3.out.mono HW1.out.size))).take hmn)
        have q1:∀ q,(convert 39 9 (.slice (some ⟨b3,o3,none⟩) 3 c3)).run Tryz.prog (w3.drewN q)=.ok (.string (strOfNums (encB (cand L 3)))) (w3.drewN q):=fun q=>conv_k (H3.out.drewN q) _ 5 _ Tryz.underlying39 Tryz.underlying5 Tryz.underlying9 (by omega)
        have q2:∀ q,(convert 39 9 (.slice (some ⟨b,off,none⟩) 3 c)).run Tryz.prog (w3.drewN q)=.ok (.string (strOfNums (L.take 3))) (w3.drewN q):=fun q=>conv_k (HL.out.drewN q) _ 5 _ Tryz.underlying39 Tryz.underlying5 Tryz.underlying9 (by omega)
        clear hc3
        have hcmp:=str_eqB (enc_byt (cand L 3)) (Byt.take HB.out 3)
        cases hfit:fitB L 3 with
        | true =>
         have HG:=hc_ (E.fit_yes (by omega) (by rw[hlen.out];omega) hfit)
         unfold fitB at hfit
         rw[hfit] at hcmp
         clear hfit
         go_quiet (fail)
         go_wp2_with fail
         go_ret2
         exact ⟨cand L 3,3,rfl,HG.out,HB0.out.trans ((HW1.out.trans (qb_ (HB3.out.mono HW1.out.size) _)).mono HB0.out.size)⟩
        | false =>
         have HNF:=hc_ hfit
         unfold fitB at hfit
         rw[hfit] at hcmp
         clear hfit
         have HQ:Hid (∀ k,1≤k→k<3+1→k≤n→fitB L k=false):=fun k k1 k2 k3=>by
          by_cases h:k<3
          ·exact HF.out k k1 h k3
          ·obtain rfl:k=3:=by omega
           exact HNF.out
         go_quiet (fail)
         go_wp2_with fail
         go_roundw
         case rel=>exact ⟨3+1,by omega,by omega,rfl,HQ.out,HW1.out.trans (qb_ (HB3.out.mono HW1.out.size) _)⟩
         case measure=>simp[intOf]
       ·have g3:((n3:Int) == 3)=false:=beq_eq_false_iff_ne.2 (by omega)
        have HNF:Hid (fitB L 3=false):=by
         unfold fitB
         refine decide_eq_false fun e=>hq ?_
         rw[← hlen3.out,e,List.length_take,hlen.out];omega
        have HQ:Hid (∀ k,1≤k→k<3+1→k≤n→fitB L k=false):=fun k k1 k2 k3=>by
         by_cases h:k<3
         ·exact HF.out k k1 h k3
         ·obtain rfl:k=3:=by omega
          exact HNF.out
        clear hq
        go_quiet (fail)
        go_wp2_with fail
        go_roundw
        case rel=>exact ⟨3+1,by omega,by omega,rfl,HQ.out,HW1.out.trans (qb_ (HB3.out.mono HW1.out.size) _)⟩
        case measure=>simp[intOf]
    ·have kh:wr.cell? ⟨w.heap.size,3,none⟩=some (.int .i64 240):=(HW.out.cell (p:=⟨w.heap.size,3,none⟩) hN).trans (HH.out 3 240 rfl)
     have HP1:Hid (E.part L 4 1=x0 - 240):=E.part_one HX0.out
     go_wp2_with fail
     go_quiet (fail)
     go_wp2_with fail
     clear kh k0
     have HW1:=hc_ (qb_ HW.out nq)
     generalize wr.drewN nq=w2 at *
     go_loop [6,7] (fun cv iv=>∃ i:Nat,1≤i∧i≤4∧iv=.int .i64 i∧cv=.int .i64 (E.part L 4 i)) (fun _ iv=>4 - (intOf iv).toNat)
     case atStart=>exact ⟨1,by omega,by omega,rfl,by rw[HP1.out];(try go_num)⟩
     case round =>
      obtain ⟨i,hi1,hi2,rfl,rfl⟩:=hrel
      have hpb:=E.part_bd HB.out 4 i (by omega)
      by_cases hlt:i<4
      ·obtain ⟨b', off', xi,e,_,hxi,hci⟩:=h1.out.got (j:=i) (by omega)
       injection e with e;injection e with e1 e2 _;subst e1 e2
       have k1:w2.cell? ⟨b,off+i,none⟩=some (.int .u8 xi):=(HW1.out.cell (p:=⟨b,off+i,none⟩) hbl).trans hci
       have hxib:=HB.out xi (List.mem_of_getElem? hxi)
       have HS:=hc_ (E.part_step (n:=4) hi1 hxi)
       clear hxi hci
       have hlt' : (i:Int)<n:=by omega
       go_wp2_with fail
       go_round
       case rel=>exact ⟨i+1,by omega,by omega,by go_num,by rw[HS.out];(try go_num)⟩
       case measure=>simp[intOf];omega
      ·obtain rfl:i=4:=by omega
       have hpc:=E.part_cand (l:=L) (n:=4) (by omega) (by omega) (by rw[hlen.out];omega)
       rw[hpc] at hpb ⊢
       clear hpc hi1 hi2 hlt
       have hcon:=hc_ (bytes_any (cand L 4) w2)
       go_wp2_with (go_at_call 100;refine hcon.out.mono ?_;rintro e w3 ⟨A3,n3,c3,rfl,h3,hb3⟩)
       have H3:=hc_ h3
       have HB3:=hc_ hb3
       have hn3:n3≤4:=by have:=h3.len;have:=E.enc_le (cand L 4);omega
       have hlen3:=hc_ h3.len
       clear h3 hb3 hcon
       by_cases hq:n3=4
       ·subst hq
        obtain ⟨b3,o3,rfl,hb3l,hc3⟩:=H3.out.at_ (by omega)
        have HL:=hc_ ((h1.out.on (HW1.out.trans (HB3.out.mono HW1.out.size))).take hmn)
        have q1:∀ q,(convert 39 9 (.slice (some ⟨b3,o3,none⟩) 4 c3)).run Tryz.prog (w3.drewN q)=.ok (.string (strOfNums (encB (cand L 4)))) (w3.drewN q):=fun q=>conv_k (H3.out.drewN q) _ 5 _ Tryz.underlying39 Tryz.underlying5 Tryz.underlying9 (by omega)
        have q2:∀ q,(convert 39 9 (.slice (some ⟨b,off,none⟩) 4 c)).run Tryz.prog (w3.drewN q)=.ok (.string (strOfNums (L.take 4))) (w3.drewN q):=fun q=>conv_k (HL.out.drewN q) _ 5 _ Tryz.underlying39 Tryz.underlying5 Tryz.underlying9 (by omega)
        clear hc3
        have hcmp:=str_eqB (enc_byt (cand L 4)) (Byt.take HB.out 4)
        cases hfit:fitB L 4 with
        | true =>
         have HG:=hc_ (E.fit_yes (by omega) (by rw[hlen.out];omega) hfit)
         unfold fitB at hfit
         rw[hfit] at hcmp
         clear hfit
         go_quiet (fail)
         go_wp2_with fail
         go_ret2
         exact ⟨cand L 4,4,rfl,HG.out,HB0.out.trans ((HW1.out.trans (qb_ (HB3.out.mono HW1.out.size) _)).mono HB0.out.size)⟩
        | false =>
         have HNF:=hc_ hfit
         unfold fitB at hfit
         rw[hfit] at hcmp
         clear hfit
         have HQ:Hid (∀ k,1≤k→k<4+1→k≤n→fitB L k=false):=fun k k1 k2 k3=>by
          by_cases h:k<4
          ·exact HF.out k k1 h k3
          ·obtain rfl:k=4:=by omega
           exact HNF.out
         go_quiet (fail)
         go_wp2_with fail
         go_roundw
         case rel=>exact ⟨4+1,by omega,by omega,rfl,HQ.out,HW1.out.trans (qb_ (HB3.out.mono HW1.out.size) _)⟩
         case measure=>simp[intOf]
       ·have g3:((n3:Int) == 4)=false:=beq_eq_false_iff_ne.2 (by omega)
        have HNF:Hid (fitB L 4=false):=by
         unfold fitB
         refine decide_eq_false fun e=>hq ?_
         rw[← hlen3.out,e,List.length_take,hlen.out];omega
        have HQ:Hid (∀ k,1≤k→k<4+1→k≤n→fitB L k=false):=fun k k1 k2 k3=>by
         by_cases h:k<4
         ·exact HF.out k k1 h k3
         ·obtain rfl:k=4:=by omega
          exact HNF.out
        clear hq
        go_quiet (fail)
        go_wp2_with fail
        go_roundw
        case rel=>exact ⟨4+1,by omega,by omega,rfl,HQ.out,HW1.out.trans (qb_ (HB3.out.mono HW1.out.size) _)⟩
        case measure=>simp[intOf]
   ·have HG:Hid (Fst L (-1) 0):=E.fit_no fun k k1 k4 kl=>HF.out k k1 (by rw[hlen.out] at kl;omega) (by rw[hlen.out] at kl;omega)
    go_wp2_with fail
    go_ret2
    exact ⟨-1,0,rfl,HG.out,HB0.out.trans (HW.out.mono HB0.out.size)⟩
  ·obtain rfl:m=5:=by omega
   have HG:Hid (Fst L (-1) 0):=E.fit_no fun k k1 k4 kl=>HF.out k k1 (by omega) (by rw[hlen.out] at kl;omega)
   go_wp2_with fail
   go_ret2
   exact ⟨-1,0,rfl,HG.out,HB0.out.trans (HW.out.mono HB0.out.size)⟩

set_option maxHeartbeats 2000000 in
theorem rdecode_any {w:World}{A:Option Addr}{n c:Nat}{L:List Int}(h:RdK .u8 w w.heap.size A n c L) (hb:Byt L) :
  Calls Tryz.prog 61 #[.slice A n c] w (DecP w L):=by
 have hlen:=hc_ h.len
 have hcap:=h.cap
 have hsm:=h.small
 by_cases hl:n≤3000
 ·have hl' : ¬ (3000:Int)<n:=by omega
  have HH:=hc_ h
  have HBy:=hc_ hb
  clear h hb
  go_enter Tryz.func61,Tryz.ntmps61
  go_wp2_with fail
  go_loopw [6,7,8] (fun vc va pv wx=>∃ (p:Nat) (cs:List Int),p≤n∧pv=.int .i64 p∧Hid (DecR w L vc va p cs wx)) (fun _ _ pv _=>n - (intOf pv).toNat)
  case atStart=>exact ⟨0,[],by omega,rfl,DecR.start w L⟩
  case round =>
   obtain ⟨p,cs,hp,rfl,HR⟩:=hrel
   have hfew:cs.length≤p:=HR.out.up.few
   by_cases hlt:p<n
   ·have hr1:=(HH.out.on HR.out.b)
    obtain ⟨b,off,x0,rfl,_,_,_⟩:=hr1.got (j:=0) (by omega)
    have hcon:=hc_ (r8first_any (hr1.drop hlt) (HBy.out.drop p))
    clear hr1
    have hcp:¬ c=p:=by omega
    go_wp2_with fail
    refine hcon.out.mono ?_
    rintro e w3 ⟨d,k,rfl,hf,hb3⟩
    have HR3:=hc_ (HR.out.on hb3)
    have hfl:=E.fst_le hf
    have hfb:=E.fst_bd hf
    rw[List.length_drop,hlen.out] at hfl
    clear hcon HR
    rcases hf with ⟨f1,f2,f3⟩|⟨f1,f2,f3⟩
    ·have g0:((k:Int) == 0)=false:=beq_eq_false_iff_ne.2 (by have:=E.enc_len f1;omega)
     have HU:=hc_ (HR3.out.up.next f1 f2)
     rw[← f3] at HU
     have HO:=hc_ (E.offs_snoc HR3.out.up d)
     have hk1:1≤k:=by have:=E.enc_len f1;omega
     clear f1 f2 f3
     go_wp2_with (at_builtin;refine app_k .i64 rfl _ _ 23 rfl w.heap.size 3 8 Tryz.underlying23 info_i64 (by decide) _ _ _ rfl (HR3.out.c.alloc _) ⟨w3.heap.size,0,none⟩ 1 1 [d] rfl rfl (lit_k w3 _ rfl .i64 [d] _ _ rfl) (by omega) ?c2 ?_)
     case c2=>have:=HR3.out.b.size;simp;omega
     intro v4 w4 ho4 hg4 hv4
     have HR4:=hc_ (decR_c HR3.out ho4 hg4 hv4)
     clear ho4 hg4 hv4
     go_wp2_with (at_builtin;refine app_k .i64 rfl _ _ 23 rfl w.heap.size 3 8 Tryz.underlying23 info_i64 (by decide) _ _ _ rfl (HR4.out.2.1.alloc _) ⟨w4.heap.size,0,none⟩ 1 1 [(p:Int)] rfl rfl (lit_k w4 _ rfl .i64 [(p:Int)] _ _ rfl) (by omega) ?c2 ?_)
     case c2=>have:=HR4.out.2.2.2.size;simp;omega
     intro v5 w5 ho5 hg5 hv5
     have HR5:=hc_ (decR_a HR4.out HU.out HO.out ho5 hg5 hv5)
     clear ho5 hg5 hv5
     go_wp2_with fail
     go_roundw
     case rel=>exact ⟨p+k,cs++[d],by omega,by go_num,HR5.out⟩
     case measure=>simp[intOf];omega
    ·subst f1 f2
     have HG:=hc_ (decP_bad (by rw[hlen.out];exact hl) (by rw[hlen.out];exact hlt) HR3.out.up f3 HR3.out.b)
     clear f3
     go_wp2_with fail
     exact bodyPost_ret (v:=.tuple #[.slice none 0 0,.slice none 0 0,.int .i64 p,.int .i64 3]) (by simp[results,Tryz.results61,go_sem]) rfl HG.out
   ·obtain rfl:p=n:=by omega
    have HU:Hid (Upto L L.length cs):=by rw[hlen.out];exact HR.out.up
    go_wp2_with (at_builtin;refine app_k .i64 rfl _ _ 23 rfl w.heap.size 3 8 Tryz.underlying23 info_i64 (by decide) _ _ _ rfl (HR.out.a.alloc _) ⟨wr.heap.size,0,none⟩ 1 1 [(p:Int)] rfl rfl (lit_k wr _ rfl .i64 [(p:Int)] _ _ rfl) (by omega) ?c3 ?_)
    case c3=>have:=HR.out.b.size;simp;omega
    intro v5 w5 ho5 hg5 hv5
    have HG:Hid (DecP w L (.returned (.tuple #[u6,v5,.int .i64 (-1),.int .i64 0])) w5):=decR_end HR.out hlen.out hl HU.out ho5 hg5
    clear ho5 hg5 hv5
    go_wp2_with fail
    exact bodyPost_ret (v:=.tuple #[u6,v5,.int .i64 (-1),.int .i64 0]) (by simp[results,Tryz.results61,go_sem]) rfl HG.out
 ·have hl' : (3000:Int)<n:=by omega
  have HG:=hc_ (decP_long (w:=w) (L:=L) (by rw[hlen.out];omega))
  clear h hb
  go_enter Tryz.func61,Tryz.ntmps61
  go_wp2_with fail
  exact bodyPost_ret (v:=.tuple #[.slice none 0 0,.slice none 0 0,.int .i64 0,.int .i64 2]) (by simp[results,Tryz.results61,go_sem]) rfl HG.out
end Go.Proofs.YtbbmjdddemahfaaGreat
