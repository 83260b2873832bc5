/- Part of the proof. -/
import Derived.Lib.DecodeNEq
namespace Go.Proofs.YtbbmjdddemahfaaGreat.E

def okb (c:Int):Bool:=decide (0≤c) && decide (c≤1114111) && !(decide (55296≤c) && decide (c≤57343))
theorem okb_iff (c:Int):okb c=true↔0≤c∧c≤1114111∧¬ (55296≤c∧c≤57343):=by
  simp only[okb,Bool.and_eq_true,decide_eq_true_eq,Bool.not_eq_true', Bool.and_eq_false_iff,decide_eq_false_iff_not];omega
def encB (c:Int):List Int :=
  if c<0∨1114111<c∨(55296≤c∧c≤57343) then []
  else if c<128 then [c]
  else if c<2048 then [192+c / 64,128+c % 64]
  else if c<65536 then [224+c / 4096,128+c / 64 % 64,128+c % 64]
  else [240+c / 262144,128+c / 4096 % 64,128+c / 64 % 64,128+c % 64]
theorem enc_not {c:Int}(h:okb c=false):encB c=[]:=by
  unfold encB
  rw[if_pos]
  have:¬ okb c=true:=by simp[h]
  rw[okb_iff] at this;omega
theorem enc_kinds {c:Int}(h:okb c=true):(0≤c∧c<128∧encB c=[c])∨(128≤c∧c<2048∧encB c=[192+c / 64,128+c % 64]) ∨
    (2048≤c∧c<65536∧¬ (55296≤c∧c≤57343)∧encB c=[224+c / 4096,128+c / 64 % 64,128+c % 64]) ∨
    (65536≤c∧c≤1114111∧encB c=[240+c / 262144,128+c / 4096 % 64,128+c / 64 % 64,128+c % 64]):=by
  rw[okb_iff] at h
  unfold encB
  rw[if_neg (by omega)]
  by_cases h1:c<128
  · rw[if_pos h1];exact Or.inl ⟨by omega,h1,rfl⟩
  rw[if_neg h1]
  by_cases h2:c<2048
  · rw[if_pos h2];exact Or.inr (Or.inl ⟨by omega,h2,rfl⟩)
  rw[if_neg h2]
  by_cases h3:c<65536
  · rw[if_pos h3];exact Or.inr (Or.inr (Or.inl ⟨by omega,h3,by omega,rfl⟩))
  rw[if_neg h3]
  exact Or.inr (Or.inr (Or.inr ⟨by omega,by omega,rfl⟩))
theorem enc_len {c:Int}(h:okb c=true):1≤(encB c).length∧(encB c).length≤4:=by
  rcases enc_kinds h with ⟨_,_,e⟩|⟨_,_,e⟩|⟨_,_,_,e⟩|⟨_,_,e⟩ <;> simp[e]
theorem enc_le (c:Int):(encB c).length≤4:=by
  cases h:okb c with
  | true=>exact (enc_len h).2
  | false=>simp[enc_not h]
theorem enc_byte {c x:Int}(hx:x∈encB c):0≤x∧x<256:=by
  cases h:okb c with
  | false=>simp[enc_not h] at hx
  | true =>
    rcases enc_kinds h with ⟨_,_,e⟩|⟨_,_,e⟩|⟨_,_,_,e⟩|⟨_,_,e⟩ <;> rw[e] at hx <;> simp at hx <;> omega
theorem enc_one {c d:Int}(hc:okb c=true) (hd:okb d=true){r s:List Int}(h:encB c++r=encB d++s):c=d∧r=s:=by
  rcases enc_kinds hc with ⟨_,_,e⟩|⟨_,_,e⟩|⟨_,_,_,e⟩|⟨_,_,e⟩ <;> rcases enc_kinds hd with ⟨_,_,f⟩|⟨_,_,f⟩|⟨_,_,_,f⟩|⟨_,_,f⟩ <;>
    rw[e,f] at h <;> simp only[List.cons_append,List.nil_append,List.cons.injEq] at h <;>
    first
      | exact ⟨by omega,h.2⟩
      | exact ⟨by omega,h.2.2⟩
      | exact ⟨by omega,h.2.2.2⟩
      | exact ⟨by omega,h.2.2.2.2⟩
      | (exfalso;obtain ⟨h1,h2⟩:=h;omega)
      | (exfalso;obtain ⟨h1,h2,h3⟩:=h;omega)
theorem enc_pre {c d:Int}(hc:okb c=true) (hd:okb d=true){l:List Int}(h:encB c <+: l) (h' : encB d <+: l):c=d:=by
  obtain ⟨r,rfl⟩:=h
  obtain ⟨s,e⟩:=h'
  exact (enc_one hd hc e).1.symm
def Fst (l:List Int) (c:Int) (k:Nat):Prop :=
  (okb c=true∧encB c <+: l∧k=(encB c).length)∨(c=-1∧k=0∧∀ d,okb d=true→¬ encB d <+: l)
theorem fst_le {l:List Int}{c:Int}{k:Nat}(h:Fst l c k):k≤l.length∧k≤4:=by
  rcases h with ⟨a1,a2,rfl⟩|⟨_,rfl,_⟩
  · exact ⟨a2.length_le,enc_le _⟩
  · omega
theorem fst_bd {l:List Int}{c:Int}{k:Nat}(h:Fst l c k):-1≤c∧c≤1114111:=by
  rcases h with ⟨a1,_,_⟩|⟨rfl,_,_⟩
  · rw[okb_iff] at a1;omega
  · omega
def cand:List Int→Nat→Int
  | a :: _,1=>a
  | a :: b :: _,2=>(a - 192)*64+b - 128
  | a :: b :: c :: _,3=>((a - 224)*64+b - 128)*64+c - 128
  | a :: b :: c :: d :: _,4=>(((a - 240)*64+b - 128)*64+c - 128)*64+d - 128
  | _,_=>0
theorem cand_enc {c:Int}(h:okb c=true) (r:List Int):cand (encB c++r) (encB c).length=c:=by
  rcases enc_kinds h with ⟨_,_,e⟩|⟨_,_,e⟩|⟨_,_,_,e⟩|⟨_,_,e⟩ <;> rw[e] <;> simp[cand] <;> omega
def headB:Nat→Int
  | 1=>0
  | 2=>192
  | 3=>224
  | _=>240
def part (l:List Int) (n:Nat):Nat→Int
  | 0=>0
  | 1=>l.getD 0 0 - headB n
  | i+2=>part l n (i+1)*64+l.getD (i+1) 0 - 128
theorem getD_byte {l:List Int}(hb:∀ x∈l,0≤x∧x<256) (k:Nat):0≤l.getD k 0∧l.getD k 0<256:=by
  rw[List.getD_eq_getElem?_getD]
  cases h:l[k]? with
  | none=>simp
  | some x=>exact hb x (List.mem_of_getElem? h)
theorem head_bd (n:Nat):0≤headB n∧headB n≤240:=by unfold headB;split <;> omega
theorem part_bd {l:List Int}(hb:∀ x∈l,0≤x∧x<256) (n i:Nat) (hi:i≤4):-100000000≤part l n i∧part l n i≤100000000:=by
  have g0:=getD_byte hb 0;have g1:=getD_byte hb 1;have g2:=getD_byte hb 2;have g3:=getD_byte hb 3;have hh:=head_bd n
  match i,hi with
  | 0,_=>simp[part]
  | 1,_=>simp only[part];omega
  | 2, _ => have e : part l n 2 = (l.getD 0 0 - headB n) * 64 + l.getD 1 0 - 128 := rfl
            rw[e];omega
  | 3, _ => have e : part l n 3 = ((l.getD 0 0 - headB n) * 64 + l.getD 1 0 - 128) * 64 + l.getD 2 0 - 128 := rfl
            rw[e];omega
  | 4, _ => have e : part l n 4 = (((l.getD 0 0 - headB n) * 64 + l.getD 1 0 - 128) * 64 + l.getD 2 0 - 128) * 64 + l.getD 3 0 - 128 := rfl
            rw[e];omega
theorem part_cand {l:List Int}{n:Nat}(h1:1≤n) (h4:n≤4) (hl:n≤l.length):part l n n=cand l n:=by
  match n,h1,h4,l,hl with
  | 1,_,_,a :: t,_=>simp[part,cand,headB]
  | 2,_,_,a :: b :: t,_=>simp[part,cand,headB]
  | 3,_,_,a :: b :: c :: t,_=>simp[part,cand,headB]
  | 4,_,_,a :: b :: c :: d :: t,_=>simp[part,cand,headB]
theorem part_step {l:List Int}{n i:Nat}{x:Int}(h1:1≤i) (hx:l[i]?=some x):part l n (i+1)=part l n i*64+x - 128:=by
  match i,h1 with
  | i+1,_=>simp only[part,List.getD_eq_getElem?_getD,hx,Option.getD_some]
theorem part_one {l:List Int}{n:Nat}{x:Int}(hx:l[0]?=some x):part l n 1=x - headB n:=by
  simp only[part,List.getD_eq_getElem?_getD,hx,Option.getD_some]
def fitB (l:List Int) (k:Nat):Bool:=decide (encB (cand l k)=l.take k)
theorem fit_yes {l:List Int}{k:Nat}(hk:1≤k) (hl:k≤l.length) (h:fitB l k=true):Fst l (cand l k) k:=by
  have e:encB (cand l k)=l.take k:=of_decide_eq_true h
  have hlen:(encB (cand l k)).length=k:=by rw[e,List.length_take];omega
  refine Or.inl ⟨?_,?_,hlen.symm⟩
  · cases ho:okb (cand l k) with
    | true=>rfl
    | false=>rw[enc_not ho] at hlen;simp at hlen;omega
  · rw[e];exact List.take_prefix k l
theorem fit_no {l:List Int}(h:∀ k,1≤k→k≤4→k≤l.length→fitB l k=false):Fst l (-1) 0:=by
  refine Or.inr ⟨rfl,rfl,fun d hd hp=>?_⟩
  have hb:=enc_len hd
  have hl:=hp.length_le
  have:=h _ hb.1 hb.2 hl
  obtain ⟨r,rfl⟩:=hp
  unfold fitB at this
  rw[cand_enc hd] at this
  simp at this

/-! ### How far bytes are characters' -/
def flat (cs:List Int):List Int:=cs.flatMap encB
structure Upto (b:List Int) (n:Nat) (cs:List Int):Prop where
  ok:∀ c∈cs,okb c=true
  eq:b.take n=flat cs
  le:n≤b.length
def Dead (b:List Int) (n:Nat):Prop:=∀ d,okb d=true→¬ encB d <+: b.drop n
theorem flat_snoc (cs:List Int) (c:Int):flat (cs++[c])=flat cs++encB c:=by simp[flat]
theorem flat_app (cs ds:List Int):flat (cs++ds)=flat cs++flat ds:=by simp[flat]
theorem dead_end (b:List Int):Dead b b.length:=fun d hd hp=>by
  have h1:=hp.length_le;have h2:=enc_len hd;simp only[List.length_drop] at h1;omega
theorem Upto.start (b:List Int):Upto b 0 []:=⟨(fun _ h=>by cases h),by simp[flat],Nat.zero_le _⟩
theorem Upto.len {b:List Int}{n:Nat}{cs:List Int}(h:Upto b n cs):(flat cs).length=n:=by
  rw[← h.eq,List.length_take];have:=h.le;omega
theorem Upto.next {b:List Int}{n:Nat}{cs:List Int}{c:Int}(h:Upto b n cs) (hc:okb c=true) (hp:encB c <+: b.drop n):Upto b (n+(encB c).length) (cs++[c]):=by
  refine ⟨fun x hx=>?_,?_,?_⟩
  · rcases List.mem_append.1 hx with hx|hx
    · exact h.ok x hx
    · simp at hx;subst hx;exact hc
  · rw[flat_snoc,← h.eq,List.take_add,List.prefix_iff_eq_take.1 hp]
    simp
  · have:=hp.length_le;rw[List.length_drop] at this;have:=h.le;omega
theorem Upto.one {b:List Int}:∀ {cs ds:List Int}{n m:Nat},Upto b n cs→Dead b n→Upto b m ds→Dead b m→n=m∧cs=ds:=by
  intro cs
  induction cs generalizing b with
  | nil =>
    intro ds n m h1 d1 h2 d2
    have hn:n=0:=by have:=h1.len;simp[flat] at this;omega
    subst hn
    cases ds with
    | nil=>have:=h2.len;simp[flat] at this;exact ⟨this,rfl⟩
    | cons d ds =>
      exfalso
      refine d1 d (h2.ok d (by simp)) ?_
      have:b.take m=encB d++flat ds:=h2.eq
      rw[List.drop_zero]
      exact (List.IsPrefix.trans ⟨flat ds,rfl⟩ (this ▸ List.take_prefix m b))
  | cons c cs ih =>
    intro ds n m h1 d1 h2 d2
    have e1:b.take n=encB c++flat cs:=h1.eq
    have hc:=h1.ok c (by simp)
    have p1:encB c <+: b:=List.IsPrefix.trans ⟨flat cs,rfl⟩ (e1 ▸ List.take_prefix n b)
    cases ds with
    | nil =>
      exfalso
      have hm:m=0:=by have:=h2.len;simp[flat] at this;omega
      subst hm
      exact d2 c hc (by simpa using p1)
    | cons d ds =>
      have e2:b.take m=encB d++flat ds:=h2.eq
      have hd:=h2.ok d (by simp)
      have p2:encB d <+: b:=List.IsPrefix.trans ⟨flat ds,rfl⟩ (e2 ▸ List.take_prefix m b)
      have:=enc_pre hc hd p1 p2
      subst this
      have l1:=h1.len;have l2:=h2.len
      simp only[flat,List.flatMap_cons,List.length_append] at l1 l2
      have q1:n=(encB c).length+(n - (encB c).length):=by omega
      have q2:m=(encB c).length+(m - (encB c).length):=by omega
      have t1:(b.drop (encB c).length).take (n - (encB c).length)=flat cs:=by
        have:=e1;rw[q1,List.take_add] at this
        rw[← List.prefix_iff_eq_take.1 p1] at this
        exact List.append_cancel_left this
      have t2:(b.drop (encB c).length).take (m - (encB c).length)=flat ds:=by
        have:=e2;rw[q2,List.take_add] at this
        rw[← List.prefix_iff_eq_take.1 p1] at this
        exact List.append_cancel_left this
      have u1:Upto (b.drop (encB c).length) (n - (encB c).length) cs:=⟨fun x hx=>h1.ok x (by simp[hx]),t1,by rw[List.length_drop];have:=h1.le;omega⟩
      have u2:Upto (b.drop (encB c).length) (m - (encB c).length) ds:=⟨fun x hx=>h2.ok x (by simp[hx]),t2,by rw[List.length_drop];have:=h2.le;omega⟩
      have w1:Dead (b.drop (encB c).length) (n - (encB c).length):=by
        unfold Dead;rw[List.drop_drop,← q1];exact d1
      have w2:Dead (b.drop (encB c).length) (m - (encB c).length):=by
        unfold Dead;rw[List.drop_drop,← q2];exact d2
      obtain ⟨r1,r2⟩:=ih u1 w1 u2 w2
      exact ⟨by omega,by rw[r2]⟩
def offs:Nat→List Int→List Int
  | _,[]=>[]
  | k,c :: t=>(k:Int) :: offs (k+(encB c).length) t
theorem offs_len (k:Nat) (cs:List Int):(offs k cs).length=cs.length:=by
  induction cs generalizing k with
  | nil=>rfl
  | cons c t ih=>simp[offs,ih]
theorem offs_app (k:Nat) (cs ds:List Int):offs k (cs++ds)=offs k cs++offs (k+(flat cs).length) ds:=by
  induction cs generalizing k with
  | nil=>simp[offs,flat]
  | cons c t ih=>simp[offs,ih,flat,Nat.add_assoc]

inductive DecIs (b:List Int):List Int→List Int→Int→Int→Prop
  | long:3000<b.length→DecIs b [] [] 0 2
  | ok (cs:List Int):b.length≤3000→Upto b b.length cs→DecIs b cs (offs 0 cs++[(b.length:Int)]) (-1) 0
  | bad (n:Nat) (ds:List Int):b.length≤3000→n<b.length→Upto b n ds→Dead b n→DecIs b [] [] n 3
theorem DecIs.one {b cs ats ds bts:List Int}{x e y f:Int}(h:DecIs b cs ats x e) (h' : DecIs b ds bts y f):cs=ds∧ats=bts∧x=y∧e=f:=by
  cases h with
  | long h1=>cases h' with
    | long _=>exact ⟨rfl,rfl,rfl,rfl⟩
    | ok _ h2 _=>omega
    | bad _ _ h2 _ _ _=>omega
  | ok _ h1 u1=>cases h' with
    | long _=>omega
    | ok _ h2 u2=>have:=(u1.one (dead_end b) u2 (dead_end b)).2;subst this;exact ⟨rfl,rfl,rfl,rfl⟩
    | bad n _ h2 h3 u2 d2=>have:=(u1.one (dead_end b) u2 d2).1;omega
  | bad m _ h1 k1 u1 d1=>cases h' with
    | long _=>omega
    | ok _ h2 u2=>have:=(u1.one d1 u2 (dead_end b)).1;omega
    | bad n _ h2 h3 u2 d2=>have:=(u1.one d1 u2 d2).1;subst this;exact ⟨rfl,rfl,rfl,rfl⟩
theorem offs_snoc {b:List Int}{p:Nat}{cs:List Int}(h:Upto b p cs) (c:Int):offs 0 (cs++[c])=offs 0 cs++[(p:Int)]:=by
  rw[offs_app,h.len];simp[offs]
theorem flat_ge {cs:List Int}(h:∀ c∈cs,okb c=true):cs.length≤(flat cs).length:=by
  induction cs with
  | nil=>simp
  | cons c t ih =>
    have h1:=enc_len (h c (by simp))
    have h2:=ih (fun x hx=>h x (by simp[hx]))
    simp only[flat,List.flatMap_cons,List.length_append,List.length_cons] at *
    omega
theorem Upto.few {b:List Int}{n:Nat}{cs:List Int}(h:Upto b n cs):cs.length≤n:=by have:=flat_ge h.ok;rw[h.len] at this;exact this

theorem flat_mono (l:List Int) (k:Nat):(flat (l.take k)).length≤(flat l).length:=by
  conv=>rhs;rw[← List.take_append_drop k l,flat_app,List.length_append]
  omega

/-! ### Lines -/
end Go.Proofs.YtbbmjdddemahfaaGreat.E
