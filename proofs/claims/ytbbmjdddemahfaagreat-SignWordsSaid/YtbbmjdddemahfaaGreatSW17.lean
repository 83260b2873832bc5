/- Part of the proof. -/
import Derived.Test.YtbbmjdddemahfaaGreatSW16
import Derived.Maps.OwnIn
import Derived.Maps.Views
import Derived.DeepKeys4
namespace Go.Proofs.YtbbmjdddemahfaaGreat
open Go.RowKit
open M (Rg)

theorem keys_type:Tryz.prog.keyType 110=true:=by kernel_rfl
theorem keys_cells:Tryz.prog.cellsOf 110=60:=by kernel_rfl
theorem bool_cells:Tryz.prog.cellsOf 4=1:=by kernel_rfl
theorem keys_laid:laidOutB Tryz.prog=true:=by kernel_rfl
theorem keys_size:∃ m,Tryz.prog.types.size=m+1:=⟨Tryz.prog.types.size - 1,by
 have:decide (0<Tryz.prog.types.size)=true:=by kernel_rfl
 have:=of_decide_eq_true this
 omega⟩
def klit (o:List Bool):Lit:=.string (keyBytes (o.map Lit.bool))
theorem bytes_bools:∀ (o:List Bool),keyBytes (o.map Lit.bool)=o.map fun b=>if b then 1 else 0
 | []=>rfl
 | b :: t=>by have:=bytes_bools t;unfold keyBytes at *;simp[Lit.keyBytes,this]
theorem klit_inj {a b:List Bool}(h:klit a=klit b):a=b:=by
 unfold klit at h
 injection h with h
 rw[bytes_bools,bytes_bools] at h
 induction a generalizing b with
 | nil=>cases b with
  | nil=>rfl
  | cons y u=>simp at h
 | cons x t ih=>cases b with
  | nil=>simp at h
  | cons y u =>
   simp only[List.map_cons,List.cons.injEq] at h
   rw[ih h.2]
   congr 1
   cases x <;> cases y <;> simp_all
theorem mapM_all {α β:Type}{f:α→Option β}{g:α→β}:∀ (l:List α),(∀ i∈l,f i=some (g i))→l.mapM f=some (l.map g)
 | [],_=>rfl
 | x :: t,h=>by
  rw[List.mapM_cons,h x (by simp),mapM_all t fun i hi=>h i (by simp[hi])]
  rfl
theorem flat_one {α:Type}(l:List α):(l.map fun x=>[x]).flatten=l:=by
 induction l with
 | nil=>rfl
 | cons x t ih=>simp[ih]
theorem key_ow (o:List Bool) (h:o.length=60):keyOf Tryz.prog 110 (.agg (owV o))=some (klit o):=by
 obtain ⟨m,hm⟩:=keys_size
 have hz:(owV o).size=60:=by rw[owV_size,h]
 unfold keyOf
 simp only[Tryz.underlying110]
 rw[if_pos (by simp[keys_type,Value.formed,Tryz.underlying110,keys_cells,hz]),hm]
 unfold Program.keyLits
 simp only[Tryz.underlying110,Value.cells]
 rw[if_pos (by rw[keys_cells];simpa using hz)]
 rw[mapM_all (g:=fun i=>[Lit.bool (o.getD i false)]) _ fun i hi=>?_]
 ·simp only[Option.map_some,klit]
  congr 3
  rw[show (List.range 60).map (fun i=>[Lit.bool (o.getD i false)])=((List.range 60).map fun i=>Lit.bool (o.getD i false)).map fun x=>[x] by rw[List.map_map];rfl,flat_one]
  apply List.ext_getElem (by simp[h])
  intro i h1 h2
  have:i<o.length:=by simpa using h2
  simp[List.getD_eq_getElem?_getD,this]
 ·have hi' : i<60:=List.mem_range.1 hi
  rw[bool_cells]
  have:((owV o).toList.drop (i*1)).take 1=[.bool (o.getD i false)]:=by
   unfold owV
   rw[Nat.mul_one]
   have ho:i<o.length:=by omega
   rw[List.drop_eq_getElem_cons (by simpa using ho)]
   simp[List.getD_eq_getElem?_getD,ho]
  rw[this]
  unfold Program.keyLits
  simp only[Tryz.underlying4]
theorem ow_keyed:Maps.Keyed Tryz.prog 110 :=
 Maps.Keyed.of_law (deep_law_laid keys_laid (m:=10) (by decide) (of_decide_eq_true (by kernel_rfl)) (by kernel_rfl) (by kernel_rfl))
structure MapOk (D:DataW Unit) (ks:List (List Bool)):Prop where
 map:Maps.IsMap D
 has:∀ o,Maps.has D (klit o)=decide (o∈ks)
 at_:∀ (k:Nat) o,ks[k]?=some o→∀ z,D.atKey (klit o) z=.lit (.int .i64 k)
theorem mapOk_start:MapOk (.map []) []:=⟨Maps.isMap_empty,fun o=>by simp[Maps.has],fun k o h=>by simp at h⟩
theorem MapOk.put {D:DataW Unit}{ks:List (List Bool)}{o:List Bool}(h:MapOk D ks) (hn:o∉ks):MapOk (D.put (klit o) (.lit (.int .i64 ks.length))) (ks++[o]):=by
 have hk:WideAt.IsKeyLit (klit o):=trivial
 refine ⟨h.map.put _ _,fun p=>?_,fun k p hp z=>?_⟩
 ·by_cases e:p=o
  ·subst e;rw[Maps.has_put_same h.map hk];simp
  ·rw[Maps.has_put_other (fun h' => e (klit_inj h')),h.has]
   simp[e]
 ·by_cases e:p=o
  ·subst e
   rw[Maps.atKey_put_same h.map hk]
   have hk' : k=ks.length:=by
    rcases Nat.lt_or_ge k ks.length with g|g
    ·rw[List.getElem?_append_left g] at hp;exact absurd (List.mem_of_getElem? hp) hn
    ·have:=(List.getElem?_eq_some_iff.1 hp).1;simp at this;omega
   rw[hk']
  ·rw[Maps.atKey_put_other (fun h' => e (klit_inj h'))]
   refine h.at_ k p ?_ z
   rcases Nat.lt_or_ge k ks.length with g|g
   ·rwa [List.getElem?_append_left g] at hp
   ·rw[List.getElem?_append_right g] at hp
    have:k - ks.length=0:=by have:=(List.getElem?_eq_some_iff.1 hp).1;simp at this;omega
    rw[this] at hp
    simp at hp
    exact absurd hp.symm e
end Go.Proofs.YtbbmjdddemahfaaGreat
