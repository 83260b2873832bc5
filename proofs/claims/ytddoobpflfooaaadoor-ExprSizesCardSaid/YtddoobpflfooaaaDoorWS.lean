/- The program's word.Of. -/
import Derived.Test.YtddoobpflfooaaaDoorWR
import Derived.Test.YtddoobpflfooaaaDoorB8d
set_option maxRecDepth 100000
namespace Go.Proofs.YtddoobpflfooaaaDoor
open Go.RowKit
open E (okb encB flat offs DecIs Upto)
open W (Tk Lx lexS)

/-- Tokens with their places among bytes. -/
def placed (L : List Int) (ts : List Tk) : List Tok := ts.map fun t => ⟨t.kind, t.text, t.low, t.high, plc L t.at_⟩
/-- What a text's tokens come to: the tokens, or the place and the error. -/
inductive TokIs (Bs : List Int) : List Tok → Int → Int → Prop where
  | dec (cs ats : List Int) (x er : Int) (h : DecIs Bs cs ats x er) (he : er ≠ 0) : TokIs Bs [] x er
  | bad (cs ats : List Int) (x : Int) (h : DecIs Bs cs ats x 0) (k : Nat) (er : Int) (hl : lexS cs 0 0 [] = .bad k er) : TokIs Bs [] (plc cs k : Nat) er
  | ok (cs ats : List Int) (x : Int) (h : DecIs Bs cs ats x 0) (ts : List Tk) (hl : lexS cs 0 0 [] = .ok ts) : TokIs Bs (placed cs ts) (-1) 0
/-- What Of leaves. -/
def OfP5 (w : World) (Bs : List Int) (e : Ending) (w' : World) : Prop := ∃ (A : Option Addr) (n c : Nat) (l : List Tok) (x er : Int),
  e = .returned (.tuple #[.slice A n c, .int .i64 x, .int .i64 er]) ∧ RdT w' w'.heap.size A n c l ∧ TokIs Bs l x er ∧ Below w.heap.size w w'
theorem dec_ok {Bs cs ats : List Int} {x er : Int} (h : DecIs Bs cs ats x er) (he : er = 0) : cs.all okb = true ∧ Bs = flat cs ∧ Bs.length ≤ 3000 ∧ ats = offs 0 cs ++ [(Bs.length : Int)] := by
  cases h with
  | ok _ hl hu => exact ⟨List.all_eq_true.2 hu.ok, by have := hu.eq; rw [List.take_length] at this; exact this, hl, rfl⟩
  | bad _ _ _ _ _ _ => omega
  | long _ => omega
set_option maxHeartbeats 1000000 in
theorem of5_any {w : World} {A : Option Addr} {n c : Nat} {Bs : List Int} (h : RdK .u8 w w.heap.size A n c Bs) (hb : Byt Bs) (hT : Tabs w) :
    Calls Tryd.prog 20 #[.slice A n c] w (OfP5 w Bs) := by
  have HH := Lib.hid h
  have hdec := Lib.hid (decode_any h hb hT)
  clear h hb hT
  go_enter Tryd.func20, Tryd.ntmps20
  go_wp2_with fail
  refine hdec.out.mono ?_
  rintro e w1 ⟨A1, A2, n1, c1, n2, c2, cs, ats, x, er, rfl, r1, r2, hd, hb1⟩
  have HB1 := Lib.hid hb1
  have HD := Lib.hid hd
  have HR0 := Lib.hid (HH.out.on hb1)
  have HR1 := Lib.hid r1
  have HR2 := Lib.hid r2
  clear r1 r2 hd hb1 hdec
  by_cases he : er = 0
  · subst he
    obtain ⟨o1, o2, o3, o4⟩ := dec_ok HD.out rfl
    have hrd := read5_any (X := ⟨A, n, c, Bs, A1, n1, c1, cs, A2, n2, c2, ats⟩) ⟨o1, o2, o3, o4⟩ HR0.out HR1.out HR2.out
    unfold LexP at hrd
    simp only at hrd
    have HRD := Lib.hid hrd
    clear hrd o1 o2 o3 o4
    go_wp2_with fail
    refine HRD.out.mono ?_
    rintro e w2 ⟨hb2, hm⟩
    have HB2 := Lib.hid (HB1.out.trans (hb2.mono HB1.out.size))
    clear hb2
    cases hl : lexS cs 0 0 [] with
    | ok ts =>
      rw [hl] at hm
      obtain ⟨A3, c3, rfl, hr3⟩ := hm
      have HE : Hid (OfP5 w Bs (.returned (.tuple #[.slice A3 ts.length c3, .int .i64 (-1), .int .i64 0])) w2) := ⟨A3, ts.length, c3, placed cs ts, -1, 0, rfl, hr3, .ok cs ats x HD.out ts hl, HB2.out⟩
      go_wp2_with fail
      exact bodyPost_ret (v := .tuple #[.slice A3 ts.length c3, .int .i64 (-1), .int .i64 0]) (by simp [results, Tryd.results20, go_sem]) rfl HE.out
    | bad k er =>
      rw [hl] at hm
      subst hm
      have HE : Hid (OfP5 w Bs (.returned (.tuple #[.slice none 0 0, .int .i64 (plc cs k : Nat), .int .i64 er])) w2) := ⟨none, 0, 0, [], _, er, rfl, RdT.nil _ _, .bad cs ats x HD.out k er hl, HB2.out⟩
      go_wp2_with fail
      exact bodyPost_ret (v := .tuple #[.slice none 0 0, .int .i64 (plc cs k : Nat), .int .i64 er]) (by simp [results, Tryd.results20, go_sem]) rfl HE.out
  · have g1 : (er != 0) = true := by simpa using he
    have HE : Hid (OfP5 w Bs (.returned (.tuple #[.slice none 0 0, .int .i64 x, .int .i64 er])) w1) := ⟨none, 0, 0, [], x, er, rfl, RdT.nil _ _, .dec cs ats x er HD.out he, HB1.out⟩
    go_wp2_with fail
    exact bodyPost_ret (v := .tuple #[.slice none 0 0, .int .i64 x, .int .i64 er]) (by simp [results, Tryd.results20, go_sem]) rfl HE.out
end Go.Proofs.YtddoobpflfooaaaDoor
