/- Part of the proof. -/
import Derived.Test.YtbbmjdddemahfaaGreatSW01
import Derived.Test.YtbbmjdddemahfaaGreatSW25
import Derived.Test.YtbbmjdddemahfaaGreatSW09
import Derived.Test.YtbbmjdddemahfaaGreatSW26
import Derived.OwnWalk
namespace Go.Proofs.YtbbmjdddemahfaaGreat
theorem hc_ {p:Prop}(h:p):Go.RowKit.Hid p:=Go.Lib.hid h
open Go.RowKit
open E (okb encB)

theorem info_i64:(Tryz.prog.info? 3).map (fun i=>(i.zero,i.size,i.bytes))=some (some (.int .i64 0),1,8):=by kernel_rfl
def NewK (k:IntKind) (w:World) (L:List Int) (e:Ending) (w' : World):Prop:=∃ A n c,e=.returned (.slice A n c)∧RdK k w' w'.heap.size A n c L∧Below w.heap.size w w'
def Byt (L:List Int):Prop:=∀ x∈L,0≤x∧x<256
theorem Byt.take {L:List Int}(h:Byt L) (m:Nat):Byt (L.take m):=fun x hx=>h x (List.mem_of_mem_take hx)
theorem Byt.drop {L:List Int}(h:Byt L) (m:Nat):Byt (L.drop m):=fun x hx=>h x (List.mem_of_mem_drop hx)
theorem enc_byt (c:Int):Byt (encB c):=fun _ hx=>E.enc_byte hx
end Go.Proofs.YtbbmjdddemahfaaGreat
set_option maxRecDepth 100000
namespace Go.Proofs.YtbbmjdddemahfaaGreat
open Go.RowKit
open W (dgB ltB smB nmB markB signK many valN)

open W (dgB many valN partN numB)

open W (dgB smB many numB noBl lettersB allowB)

open E (okb encB)

theorem six_any (c:Int) (w:World) (h0:0≤c) (h1:c≤1114111):Calls Tryz.prog 121 #[.int .i64 c] w fun e w' => e=.returned (.int .u8 (128+c % 64))∧w=w' := by
 go_enter Tryz.func121,Tryz.ntmps121
 go_wp2
 go_ret
 exact ⟨rfl,rfl⟩
set_option maxHeartbeats 1000000 in
theorem bytes_any (c:Int) (w:World):Calls Tryz.prog 100 #[.int .i64 c] w (NewK .u8 w (encB c)):=by
 cases h:okb c with
 | false =>
  have he:=hc_ (E.enc_not h)
  have h' : ¬ (0≤c∧c≤1114111∧¬ (55296≤c∧c≤57343)):=by rw[← E.okb_iff,h];simp
  clear h
  have fin:Hid (NewK .u8 w (encB c) (.returned (.slice none 0 0)) w):=⟨none,0,0,rfl,by rw[he.out];exact RdK.nil _ _ _,Below.refl _ _⟩
  clear he
  by_cases h1:c<0
  ·clear h'
   go_enter Tryz.func100,Tryz.ntmps100
   go_wp2
   go_ret
   exact fin.out
  ·by_cases h2:1114111<c
   ·clear h'
    go_enter Tryz.func100,Tryz.ntmps100
    go_wp2
    go_ret
    exact fin.out
   ·have h3:55296≤c:=by omega
    have h4:c≤57343:=by omega
    clear h'
    go_enter Tryz.func100,Tryz.ntmps100
    go_wp2
    go_ret
    exact fin.out
 | true =>
  have fin:∀ (cs:Array Value) (t:TypeId) (m:Nat),Hid (cs.toList=(encB c).map (Value.int .u8))→Hid ((encB c).length=m)→NewK .u8 w (encB c) (.returned (.slice (some ⟨w.heap.size,0,none⟩) m m)) (w.alloc (.cells cs t)):=fun cs t m hc hm =>
   ⟨_,_,_,rfl,by have:=rd_lit_k w w.heap.size rfl .u8 (encB c) t cs hc.out (by have:=E.enc_le c;omega);rw[hm.out] at this;exact this,qa_ _ _⟩
  have FIN:=hc_ fin
  clear fin
  rcases E.enc_kinds h with ⟨a,b,e⟩|⟨a,b,e⟩|⟨a,b,d,e⟩|⟨a,b,e⟩
  all_goals
   have HE:=hc_ e
   clear e h
  ·go_enter Tryz.func100,Tryz.ntmps100
   go_wp2_with (go_at_call 121;refine (six_any _ _ (by omega) (by omega)).mono ?_;rintro e w' ⟨rfl,rfl⟩)
   go_ret
   exact FIN.out _ _ _ (by rw[HE.out];rfl) (by rw[HE.out];rfl)
  ·go_enter Tryz.func100,Tryz.ntmps100
   go_wp2_with (go_at_call 121;refine (six_any _ _ (by omega) (by omega)).mono ?_;rintro e w' ⟨rfl,rfl⟩)
   go_ret
   exact FIN.out _ _ _ (by rw[HE.out];rfl) (by rw[HE.out];rfl)
  ·by_cases h3:55296≤c
   ·have h4:¬ c≤57343:=by omega
    clear d
    go_enter Tryz.func100,Tryz.ntmps100
    go_wp2_with (go_at_call 121;refine (six_any _ _ (by omega) (by omega)).mono ?_;rintro e w' ⟨rfl,rfl⟩)
    go_ret
    exact FIN.out _ _ _ (by rw[HE.out];rfl) (by rw[HE.out];rfl)
   ·clear d
    go_enter Tryz.func100,Tryz.ntmps100
    go_wp2_with (go_at_call 121;refine (six_any _ _ (by omega) (by omega)).mono ?_;rintro e w' ⟨rfl,rfl⟩)
    go_ret
    exact FIN.out _ _ _ (by rw[HE.out];rfl) (by rw[HE.out];rfl)
  ·go_enter Tryz.func100,Tryz.ntmps100
   go_wp2_with (go_at_call 121;refine (six_any _ _ (by omega) (by omega)).mono ?_;rintro e w' ⟨rfl,rfl⟩)
   go_ret
   exact FIN.out _ _ _ (by rw[HE.out];rfl) (by rw[HE.out];rfl)
end Go.Proofs.YtbbmjdddemahfaaGreat
