/- The program's ink: whether an item may be written. The pen: a rule's line. The pen: an item's line. The program's Form of layer 7. The program's Items of layer 7. The three fixed texts: what they say. The fixed fact of layer 6 holds. The document's lexer of layer 5: its memory; fail, is, put. The document's lexer of layer 5: put. The document's lexer of layer 5: letters, digits; what a method of it leaves. Plain facts on words, as the document's lexer asks them: numbers, digit by digit; what a note allows. The document's lexer of layer 5: text, ascii, number. The document's lexer of layer 5: name. -/
import Derived.Test.YtmohefgdpddldaaGreatDoorCK06
import Derived.Deep.RegionHeldLaw
import Derived.Test.YtmohefgdpddldaaGreatDoorCK02
set_option maxRecDepth 100000
namespace Go.Proofs.YtmohefgdpddldaaGreatDoor
open Go.RowKit
open Y (Nd It noName)
open K (numsOf nameB twoB threeB aloneB endK pairB inS inF nosB deepB rightB noneB numOk mayB)

open W (lettersB)
theorem may_eq (x : It) : mayB x = if x.kind = 1 then nameB (numsOf x.name) && (x.number == 0) && !x.cut && rightB x.before && noneB x.after
    else if x.kind = 2 then decide (x.name.size = 0) && numOk x.number && rightB x.before && rightB x.after
    else if x.kind = 3 then lettersB (numsOf x.name) && ((x.number == -1) || numOk x.number) && !x.cut && noneB x.before && noneB x.after
    else false := by unfold K.mayB; simp only [beqd]
set_option maxHeartbeats 8000000 in
theorem may_any {x : It} {w : World} {Ab Aa : Option Addr} {nb cb na ca : Nat} (hs : x.name.size ≤ 140737488355328) (hkb : RdN w (Lt w) Ab nb cb x.before.kids) (hka : RdN w (Lt w) Aa na ca x.after.kids) :
    Calls Tryz.prog 14 #[.agg #[.int .i64 x.kind, .string x.name, .int .i64 x.number, .bool x.cut, .int .i64 x.before.kind, .string x.before.name, .int .i64 x.before.low, .int .i64 x.before.high, .slice Ab nb cb, .int .i64 x.after.kind, .string x.after.name, .int .i64 x.after.low, .int .i64 x.after.high, .slice Aa na ca, .int .i64 x.pos]] w (BooK w (mayB x)) := by
  have HP := Lib.hid (kbelow_push w (.cells #[.int .i64 x.kind, .string x.name, .int .i64 x.number, .bool x.cut, .int .i64 x.before.kind, .string x.before.name, .int .i64 x.before.low, .int .i64 x.before.high, .slice Ab nb cb, .int .i64 x.after.kind, .string x.after.name, .int .i64 x.after.low, .int .i64 x.after.high, .slice Aa na ca, .int .i64 x.pos] 35))
  have HROW := Lib.hid (heap_alloc_new w (.cells #[.int .i64 x.kind, .string x.name, .int .i64 x.number, .bool x.cut, .int .i64 x.before.kind, .string x.before.name, .int .i64 x.before.low, .int .i64 x.before.high, .slice Ab nb cb, .int .i64 x.after.kind, .string x.after.name, .int .i64 x.after.low, .int .i64 x.after.high, .slice Aa na ca, .int .i64 x.pos] 35))
  have hz : (w.alloc (.cells #[.int .i64 x.kind, .string x.name, .int .i64 x.number, .bool x.cut, .int .i64 x.before.kind, .string x.before.name, .int .i64 x.before.low, .int .i64 x.before.high, .slice Ab nb cb, .int .i64 x.after.kind, .string x.after.name, .int .i64 x.after.low, .int .i64 x.after.high, .slice Aa na ca, .int .i64 x.pos] 35)).heap.size = w.heap.size + 1 := by simp
  have HB : Hid (Below w.heap.size w (w.alloc (.cells #[.int .i64 x.kind, .string x.name, .int .i64 x.number, .bool x.cut, .int .i64 x.before.kind, .string x.before.name, .int .i64 x.before.low, .int .i64 x.before.high, .slice Ab nb cb, .int .i64 x.after.kind, .string x.after.name, .int .i64 x.after.low, .int .i64 x.after.high, .slice Aa na ca, .int .i64 x.pos] 35))) := HP.out
  have HRB : Hid (∀ W, Below w.heap.size w W → Calls Tryz.prog 16 #[.agg #[.int .i64 x.before.kind, .string x.before.name, .int .i64 x.before.low, .int .i64 x.before.high, .slice Ab nb cb]] W (BooK W (rightB x.before))) := fun W h => right_any (hkb.on h)
  have HRA : Hid (∀ W, Below w.heap.size w W → Calls Tryz.prog 16 #[.agg #[.int .i64 x.after.kind, .string x.after.name, .int .i64 x.after.low, .int .i64 x.after.high, .slice Aa na ca]] W (BooK W (rightB x.after))) := fun W h => right_any (hka.on h)
  have HNB : Hid (∀ W, Calls Tryz.prog 32 #[.agg #[.int .i64 x.before.kind, .string x.before.name, .int .i64 x.before.low, .int .i64 x.before.high, .slice Ab nb cb]] W (BooK W (noneB x.before))) := fun W => none_any hkb.len
  have HNA : Hid (∀ W, Calls Tryz.prog 32 #[.agg #[.int .i64 x.after.kind, .string x.after.name, .int .i64 x.after.low, .int .i64 x.after.high, .slice Aa na ca]] W (BooK W (noneB x.after))) := fun W => none_any hka.len
  have HNM : Hid (∀ W, Calls Tryz.prog 31 #[.string x.name] W (BooK W (nameB (numsOf x.name)))) := fun W => isName_any _ W
  have HLT : Hid (∀ W, Calls Tryz.prog 34 #[.string x.name] W fun e w' => e = .returned (.bool (lettersB (numsOf x.name))) ∧ W = w') := fun W => letters_any (strIs_nums x.name) (by rw [K.numsOf_len]; exact hs)
  have HNU : Hid (∀ W, Calls Tryz.prog 33 #[.int .i64 x.number] W fun e w' => e = .returned (.bool (numOk x.number)) ∧ W = w') := fun W => isNumber_any _ W
  have hF := may_eq x
  clear hkb hka hs
  generalize mayB x = res at *
  generalize nameB (numsOf x.name) = qn at *
  generalize lettersB (numsOf x.name) = ql at *
  generalize numOk x.number = qu at *
  generalize rightB x.before = qb at *
  generalize rightB x.after = qa at *
  generalize noneB x.before = qnb at *
  generalize noneB x.after = qna at *
  generalize x.cut = cut at *
  by_cases h1 : x.kind = 1
  · rw [if_pos h1] at hF
    have k1 : (x.kind == 1) = true := by rw [beqd]; exact decide_eq_true (by omega)
    have HF := Lib.hid hF
    clear hF h1 HRA HNB HLT HNU
    go_enter Tryz.func14, Tryz.ntmps14
    go_wp2_with fail
    refine (HNM.out _).mono ?_
    rintro e w2 ⟨rfl, hb2⟩
    have HB2 := Lib.hid (HB.out.trans (hb2.mono HB.out.size))
    clear HB
    have HB := HB2
    clear HB2
    have HROW2 := Lib.hid ((hb2.block w.heap.size (by omega)).trans HROW.out)
    clear HROW
    have HROW := HROW2
    clear HROW2
    obtain ⟨r0, r1, r2, r3, r4, r5, r6, r7, r8, r9, r10, r11, r12, r13, r14⟩ := cells15 HROW.out
    have hz2 := hb2.size
    clear hb2
    cases qn with
    | false =>
      go_wp2_with fail
      go_ret
      exact ⟨ret_bool (by rw [HF.out]; rfl), HB.out⟩
    | true =>
      cases g1 : (x.number == 0) with
      | false =>
        rw [g1] at HF
        go_wp2_with fail
        go_ret
        exact ⟨ret_bool (by rw [HF.out]; rfl), HB.out⟩
      | true =>
        rw [g1] at HF
        cases cut with
        | true =>
          go_wp2_with fail
          go_ret
          exact ⟨ret_bool (by rw [HF.out]; rfl), HB.out⟩
        | false =>
          go_wp2_with fail
          refine (HRB.out _ HB.out).mono ?_
          rintro e w2 ⟨rfl, hb2⟩
          have HB2 := Lib.hid (HB.out.trans (hb2.mono HB.out.size))
          clear HB
          have HB := HB2
          clear HB2
          have HROW2 := Lib.hid ((hb2.block w.heap.size (by omega)).trans HROW.out)
          clear HROW
          have HROW := HROW2
          clear HROW2
          obtain ⟨r0, r1, r2, r3, r4, r5, r6, r7, r8, r9, r10, r11, r12, r13, r14⟩ := cells15 HROW.out
          have hz2 := hb2.size
          clear hb2
          cases qb with
          | false =>
            go_wp2_with fail
            go_ret
            exact ⟨ret_bool (by rw [HF.out]; rfl), HB.out⟩
          | true =>
            go_wp2_with fail
            refine (HNA.out _).mono ?_
            rintro e w2 ⟨rfl, hb2⟩
            have HB2 := Lib.hid (HB.out.trans (hb2.mono HB.out.size))
            clear HB
            have HB := HB2
            clear HB2
            have HROW2 := Lib.hid ((hb2.block w.heap.size (by omega)).trans HROW.out)
            clear HROW
            have HROW := HROW2
            clear HROW2
            obtain ⟨r0, r1, r2, r3, r4, r5, r6, r7, r8, r9, r10, r11, r12, r13, r14⟩ := cells15 HROW.out
            have hz2 := hb2.size
            clear hb2
            go_wp2_with fail
            go_ret
            exact ⟨ret_bool (by rw [HF.out]; rfl), HB.out⟩

  · rw [if_neg h1] at hF
    have k1 : (x.kind == 1) = false := by rw [beqd]; exact decide_eq_false (by omega)
    by_cases h2 : x.kind = 2
    · rw [if_pos h2] at hF
      have k2 : (x.kind == 2) = true := by rw [beqd]; exact decide_eq_true (by omega)
      have HF := Lib.hid hF
      clear hF h1 h2 HNB HNA HLT HNM
      go_enter Tryz.func14, Tryz.ntmps14
      by_cases g0 : x.name.size = 0
      · have g0' := str_none g0
        rw [decide_eq_true g0] at HF
        clear g0
        go_wp2_with fail
        refine (HNU.out _).mono ?_
        rintro e w2 ⟨rfl, rfl⟩
        cases qu with
        | false =>
          go_wp2_with fail
          go_ret
          exact ⟨ret_bool (by rw [HF.out]; rfl), HB.out⟩
        | true =>
          go_wp2_with fail
          refine (HRB.out _ HB.out).mono ?_
          rintro e w2 ⟨rfl, hb2⟩
          have HB2 := Lib.hid (HB.out.trans (hb2.mono HB.out.size))
          clear HB
          have HB := HB2
          clear HB2
          have HROW2 := Lib.hid ((hb2.block w.heap.size (by omega)).trans HROW.out)
          clear HROW
          have HROW := HROW2
          clear HROW2
          obtain ⟨r0, r1, r2, r3, r4, r5, r6, r7, r8, r9, r10, r11, r12, r13, r14⟩ := cells15 HROW.out
          have hz2 := hb2.size
          clear hb2
          cases qb with
          | false =>
            go_wp2_with fail
            go_ret
            exact ⟨ret_bool (by rw [HF.out]; rfl), HB.out⟩
          | true =>
            go_wp2_with fail
            refine (HRA.out _ HB.out).mono ?_
            rintro e w2 ⟨rfl, hb2⟩
            have HB2 := Lib.hid (HB.out.trans (hb2.mono HB.out.size))
            clear HB
            have HB := HB2
            clear HB2
            have HROW2 := Lib.hid ((hb2.block w.heap.size (by omega)).trans HROW.out)
            clear HROW
            have HROW := HROW2
            clear HROW2
            obtain ⟨r0, r1, r2, r3, r4, r5, r6, r7, r8, r9, r10, r11, r12, r13, r14⟩ := cells15 HROW.out
            have hz2 := hb2.size
            clear hb2
            go_wp2_with fail
            go_ret
            exact ⟨ret_bool (by rw [HF.out]; rfl), HB.out⟩
      · have g0' := str_some g0
        rw [decide_eq_false g0] at HF
        clear g0
        go_wp2_with fail
        go_ret
        exact ⟨ret_bool (by rw [HF.out]; rfl), HB.out⟩
    · rw [if_neg h2] at hF
      have k2 : (x.kind == 2) = false := by rw [beqd]; exact decide_eq_false (by omega)
      by_cases h3 : x.kind = 3
      · rw [if_pos h3] at hF
        have k3 : (x.kind == 3) = true := by rw [beqd]; exact decide_eq_true (by omega)
        have HF := Lib.hid hF
        clear hF h1 h2 h3 HRB HRA HNM
        go_enter Tryz.func14, Tryz.ntmps14
        go_wp2_with fail
        refine (HLT.out _).mono ?_
        rintro e w2 ⟨rfl, rfl⟩
        cases ql with
        | false =>
          go_wp2_with fail
          go_ret
          exact ⟨ret_bool (by rw [HF.out]; rfl), HB.out⟩
        | true =>
          cases g7 : (x.number == -1) with
          | true =>
            rw [g7] at HF
            cases cut with
            | true =>
              go_wp2_with fail
              go_ret
              exact ⟨ret_bool (by rw [HF.out]; rfl), HB.out⟩
            | false =>
              go_wp2_with fail
              refine (HNB.out _).mono ?_
              rintro e w2 ⟨rfl, hb2⟩
              have HB2 := Lib.hid (HB.out.trans (hb2.mono HB.out.size))
              clear HB
              have HB := HB2
              clear HB2
              have HROW2 := Lib.hid ((hb2.block w.heap.size (by omega)).trans HROW.out)
              clear HROW
              have HROW := HROW2
              clear HROW2
              obtain ⟨r0, r1, r2, r3, r4, r5, r6, r7, r8, r9, r10, r11, r12, r13, r14⟩ := cells15 HROW.out
              have hz2 := hb2.size
              clear hb2
              cases qnb with
              | false =>
                go_wp2_with fail
                go_ret
                exact ⟨ret_bool (by rw [HF.out]; rfl), HB.out⟩
              | true =>
                go_wp2_with fail
                refine (HNA.out _).mono ?_
                rintro e w2 ⟨rfl, hb2⟩
                have HB2 := Lib.hid (HB.out.trans (hb2.mono HB.out.size))
                clear HB
                have HB := HB2
                clear HB2
                have HROW2 := Lib.hid ((hb2.block w.heap.size (by omega)).trans HROW.out)
                clear HROW
                have HROW := HROW2
                clear HROW2
                obtain ⟨r0, r1, r2, r3, r4, r5, r6, r7, r8, r9, r10, r11, r12, r13, r14⟩ := cells15 HROW.out
                have hz2 := hb2.size
                clear hb2
                go_wp2_with fail
                go_ret
                exact ⟨ret_bool (by rw [HF.out]; rfl), HB.out⟩
          | false =>
            rw [g7] at HF
            go_wp2_with fail
            refine (HNU.out _).mono ?_
            rintro e w2 ⟨rfl, rfl⟩
            cases qu with
            | false =>
              go_wp2_with fail
              go_ret
              exact ⟨ret_bool (by rw [HF.out]; rfl), HB.out⟩
            | true =>
              cases cut with
              | true =>
                go_wp2_with fail
                go_ret
                exact ⟨ret_bool (by rw [HF.out]; rfl), HB.out⟩
              | false =>
                go_wp2_with fail
                refine (HNB.out _).mono ?_
                rintro e w2 ⟨rfl, hb2⟩
                have HB2 := Lib.hid (HB.out.trans (hb2.mono HB.out.size))
                clear HB
                have HB := HB2
                clear HB2
                have HROW2 := Lib.hid ((hb2.block w.heap.size (by omega)).trans HROW.out)
                clear HROW
                have HROW := HROW2
                clear HROW2
                obtain ⟨r0, r1, r2, r3, r4, r5, r6, r7, r8, r9, r10, r11, r12, r13, r14⟩ := cells15 HROW.out
                have hz2 := hb2.size
                clear hb2
                cases qnb with
                | false =>
                  go_wp2_with fail
                  go_ret
                  exact ⟨ret_bool (by rw [HF.out]; rfl), HB.out⟩
                | true =>
                  go_wp2_with fail
                  refine (HNA.out _).mono ?_
                  rintro e w2 ⟨rfl, hb2⟩
                  have HB2 := Lib.hid (HB.out.trans (hb2.mono HB.out.size))
                  clear HB
                  have HB := HB2
                  clear HB2
                  have HROW2 := Lib.hid ((hb2.block w.heap.size (by omega)).trans HROW.out)
                  clear HROW
                  have HROW := HROW2
                  clear HROW2
                  obtain ⟨r0, r1, r2, r3, r4, r5, r6, r7, r8, r9, r10, r11, r12, r13, r14⟩ := cells15 HROW.out
                  have hz2 := hb2.size
                  clear hb2
                  go_wp2_with fail
                  go_ret
                  exact ⟨ret_bool (by rw [HF.out]; rfl), HB.out⟩


      · rw [if_neg h3] at hF
        have k3 : (x.kind == 3) = false := by rw [beqd]; exact decide_eq_false (by omega)
        have HF := Lib.hid hF
        clear hF h1 h2 h3 HRB HRA HNM HNB HNA HLT HNU
        go_enter Tryz.func14, Tryz.ntmps14
        go_wp2_with fail
        go_ret
        exact ⟨ret_bool HF.out.symm, HB.out⟩
end Go.Proofs.YtmohefgdpddldaaGreatDoor
namespace Go.Proofs.YtmohefgdpddldaaGreatDoor
open Go.RowKit
open Y (Nd It noName)
open K (numsOf threeB twoB behindT betweenT brkB rngT txt kidsT partT anyB decT fracL numT lineT itemsT rightB noneB numOk mayB nameB)

set_option maxHeartbeats 8000000 in
theorem prule_any {x : It} {w : World} {B b : Nat} {L : List Int} {Ab Aa : Option Addr} {nb cb na ca : Nat} (h : Pn w B b L) (hT : TbB B w) (hBw : B ≤ w.heap.size) (hrb : RdN w (· < B) Ab nb cb x.before.kids) (hra' : RdN w (· < B) Aa na ca x.after.kids) (hn0 : 0 ≤ x.number) (hn1 : x.number ≤ 999999) (hbb : anyB x.before = true) (hra : anyB x.after = true)
    (hlen : L.length + (numT x.number ++ [32] ++ txt x.before ++ (if x.cut = true then [32, 195, 183, 32] else [32, 195, 151, 32]) ++ txt x.after).length ≤ 140737488355328) :
    Calls Tryz.prog 64 #[.pointer (some ⟨b, 0, none⟩), .agg #[.int .i64 x.kind, .string x.name, .int .i64 x.number, .bool x.cut, .int .i64 x.before.kind, .string x.before.name, .int .i64 x.before.low, .int .i64 x.before.high, .slice Ab nb cb, .int .i64 x.after.kind, .string x.after.name, .int .i64 x.after.low, .int .i64 x.after.high, .slice Aa na ca, .int .i64 x.pos]] w (PutV B b L (numT x.number ++ [32] ++ txt x.before ++ (if x.cut = true then [32, 195, 183, 32] else [32, 195, 151, 32]) ++ txt x.after) (.tuple #[]) w) := by
  have HB0 := kbelow_push w (.cells #[.int .i64 x.kind, .string x.name, .int .i64 x.number, .bool x.cut, .int .i64 x.before.kind, .string x.before.name, .int .i64 x.before.low, .int .i64 x.before.high, .slice Ab nb cb, .int .i64 x.after.kind, .string x.after.name, .int .i64 x.after.low, .int .i64 x.after.high, .slice Aa na ca, .int .i64 x.pos] 35)
  have HROW := Lib.hid (heap_alloc_new w (.cells #[.int .i64 x.kind, .string x.name, .int .i64 x.number, .bool x.cut, .int .i64 x.before.kind, .string x.before.name, .int .i64 x.before.low, .int .i64 x.before.high, .slice Ab nb cb, .int .i64 x.after.kind, .string x.after.name, .int .i64 x.after.low, .int .i64 x.after.high, .slice Aa na ca, .int .i64 x.pos] 35))
  have HP := Lib.hid ((Pen.refl h).below hBw HB0)
  have hz : (w.alloc (.cells #[.int .i64 x.kind, .string x.name, .int .i64 x.number, .bool x.cut, .int .i64 x.before.kind, .string x.before.name, .int .i64 x.before.low, .int .i64 x.before.high, .slice Ab nb cb, .int .i64 x.after.kind, .string x.after.name, .int .i64 x.after.low, .int .i64 x.after.high, .slice Aa na ca, .int .i64 x.pos] 35)).heap.size = w.heap.size + 1 := by simp
  have HT := Lib.hid hT
  have HBR : Hid (Below B w (w.alloc (.cells #[.int .i64 x.kind, .string x.name, .int .i64 x.number, .bool x.cut, .int .i64 x.before.kind, .string x.before.name, .int .i64 x.before.low, .int .i64 x.before.high, .slice Ab nb cb, .int .i64 x.after.kind, .string x.after.name, .int .i64 x.after.low, .int .i64 x.after.high, .slice Aa na ca, .int .i64 x.pos] 35))) := HB0.mono hBw
  have HFbefore : Hid (∀ (w' : World) (L' : List Int), anyB x.before = true → Pn w' B b L' → TbB B w' → B ≤ w'.heap.size → Below B w w' → L'.length + (txt x.before).length ≤ 140737488355328 → Calls Tryz.prog 24 #[.pointer (some ⟨b, 0, none⟩), .agg #[.int .i64 x.before.kind, .string x.before.name, .int .i64 x.before.low, .int .i64 x.before.high, .slice Ab nb cb]] w' (PutV B b L' (txt x.before) (.tuple #[]) w')) := fun w' L' h0 h1 h2 h3 h4 h5 => pform_any h0 h1 h2 h3 (hrb.keep (fun _ h => h) (fun p hp => h4.cell (p := p) hp)) h5
  have HFafter : Hid (∀ (w' : World) (L' : List Int), anyB x.after = true → Pn w' B b L' → TbB B w' → B ≤ w'.heap.size → Below B w w' → L'.length + (txt x.after).length ≤ 140737488355328 → Calls Tryz.prog 24 #[.pointer (some ⟨b, 0, none⟩), .agg #[.int .i64 x.after.kind, .string x.after.name, .int .i64 x.after.low, .int .i64 x.after.high, .slice Aa na ca]] w' (PutV B b L' (txt x.after) (.tuple #[]) w')) := fun w' L' h0 h1 h2 h3 h4 h5 => pform_any h0 h1 h2 h3 (hra'.keep (fun _ h => h) (fun p hp => h4.cell (p := p) hp)) h5
  have HLN := Lib.hid hlen
  have HNN : Hid (numsOf (strOfNums (numT x.number)) = numT x.number) := K.numsOf_strOf (numT_byt _)
  have HNS : Hid ((strOfNums (numT x.number)).size = (numT x.number).length) := strOfNums_size _
  obtain ⟨TX, hTX⟩ : ∃ TX : List Int, TX = numT x.number ++ [32] ++ txt x.before ++ (if x.cut = true then [32, 195, 183, 32] else [32, 195, 151, 32]) ++ txt x.after := ⟨_, rfl⟩
  rw [← hTX]
  have HTX := Lib.hid hTX
  clear h hT hrb hra' HB0 hlen hTX
  generalize x.cut = cut at *
  go_enter Tryz.func64, Tryz.ntmps64
  go_wp2_with fail
  generalize w.alloc (.cells #[.int .i64 x.kind, .string x.name, .int .i64 x.number, .bool cut, .int .i64 x.before.kind, .string x.before.name, .int .i64 x.before.low, .int .i64 x.before.high, .slice Ab nb cb, .int .i64 x.after.kind, .string x.after.name, .int .i64 x.after.low, .int .i64 x.after.high, .slice Aa na ca, .int .i64 x.pos] 35) = W2 at *
  have HNU : Hid (Calls Tryz.prog 65 #[.int .i64 x.number] W2.drew _) := number_any ((HT.out.on ((HP.out.2.1).trans (kbelow_drewN (Below.refl _ _) 1))) _ (Below.refl _ _)).2 hn0 hn1
  have HK0 : Hid (W2.drew.cell? ⟨w.heap.size, 2, none⟩ = some (.int .i64 x.number)) := (cells15 HROW.out).2.2.1
  have hlx : w.heap.size < W2.heap.size := (Array.getElem?_eq_some_iff.1 HROW.out).1
  go_region_held_law (fun w' => w'.cell? ⟨w.heap.size, 2, none⟩ = some (.int .i64 x.number)) (first | exact HK0.out | exact HK1.out | exact HK2.out) (first | (go_at_call 65; refine HNU.out.mono ?_; rintro e w5 ⟨rfl, hb5⟩; have HP5 := Lib.hid (HP.out.drew.below (Nat.le_trans hBw HP.out.size) hb5); have HROW5 := Lib.hid ((hb5.block w.heap.size hlx).trans (show W2.drew.heap[w.heap.size]? = _ from HROW.out)); have HBR5 : Hid (Below B w w5) := HBR.out.trans ((kbelow_drewN (Below.refl _ _) 1).trans (hb5.mono (Nat.le_trans hBw HP.out.size))); have HK1 := Lib.hid (cells15 HROW5.out).2.2.1; clear hb5) | (go_at_call 52; refine (wtext_any HP5.out.1 (strOfNums (numT x.number)) (by rw [HNS.out]; have := HLN.out; simp only [List.length_append, List.length_cons, List.length_nil] at this ⊢; omega) (Nat.le_trans hBw HP5.out.size)).mono ?_; rintro e w6 hp; have HPX := Lib.hid hp; have HK2 := Lib.hid (cells15 (hp.2.2.2.2 _ _ HROW5.out rfl)).2.2.1; obtain ⟨rfl, q1, q2, q3⟩ := hp; clear q1 q2 q3))
  have hp := HPX.out
  have HPn := Lib.hid (HP5.out.put hp)
  have HROWn := Lib.hid (hp.2.2.2.2 _ _ HROW5.out rfl)
  have HBRn := Lib.hid (HBR5.out.trans hp.2.2.1)
  clear HP HROW HBR HPX hp HK0 HK1 HK2 HNU HP5 HROW5 HBR5
  have HP := HPn
  have HROW := HROWn
  have HBR := HBRn
  clear HPn HROWn HBRn
  rw [HNN.out] at HP
  obtain ⟨r0, r1, r2, r3, r4, r5, r6, r7, r8, r9, r10, r11, r12, r13, r14⟩ := cells15 HROW.out
  have hslen : (if cut = true then [32, 195, 183, 32] else [32, 195, 151, 32] : List Int).length = 4 := by split <;> rfl
  simp only [List.length_append, hslen, List.length_cons, List.length_nil] at HLN
  have HC := Lib.hid (wbyte_any HP.out.1 32 (by have := HLN.out; simp only [List.length_append] at this ⊢; omega) (Nat.le_trans hBw HP.out.size))
  go_wp2_with fail
  refine HC.out.mono ?_
  rintro e w3 hp
  have HPn := Lib.hid (HP.out.put hp)
  have hkp := hp.2.2.2
  have HBRn := Lib.hid (HBR.out.trans hp.2.2.1)
  obtain ⟨rfl, q1, q2, q3⟩ := hp
  clear HP HC q1 q2 q3
  have HP := HPn
  clear HPn
  have HROWn := Lib.hid (hkp.2 _ _ HROW.out rfl)
  clear HROW
  have HROW := HROWn
  clear HROWn
  obtain ⟨r0, r1, r2, r3, r4, r5, r6, r7, r8, r9, r10, r11, r12, r13, r14⟩ := cells15 HROW.out
  clear hkp HBR
  have HBR := HBRn
  clear HBRn
  have HC := Lib.hid (HFbefore.out _ _ hbb HP.out.1 (HT.out.on HP.out.2.1) (Nat.le_trans hBw HP.out.size) HBR.out (by have := HLN.out; simp only [List.length_append, List.length_cons, List.length_nil] at this ⊢; omega))
  go_wp2_with fail
  refine HC.out.mono ?_
  rintro e w3 hp
  have HPn := Lib.hid (HP.out.put hp)
  have hkp := hp.2.2.2
  have HBRn := Lib.hid (HBR.out.trans hp.2.2.1)
  obtain ⟨rfl, q1, q2, q3⟩ := hp
  clear HP HC q1 q2 q3
  have HP := HPn
  clear HPn
  have HROWn := Lib.hid (hkp.2 _ _ HROW.out rfl)
  clear HROW
  have HROW := HROWn
  clear HROWn
  obtain ⟨r0, r1, r2, r3, r4, r5, r6, r7, r8, r9, r10, r11, r12, r13, r14⟩ := cells15 HROW.out
  clear hkp HBR
  have HBR := HBRn
  clear HBRn
  cases cut with
  | true =>
    simp only [if_true] at HTX
    have HC := Lib.hid (wtext_any HP.out.1 ⟨#[32, 195, 183, 32]⟩ (by have := HLN.out; simp only [List.length_append, List.length_cons, List.length_nil] at this ⊢; show _ + 4 ≤ _; omega) (Nat.le_trans hBw HP.out.size))
    go_wp2_with fail
    refine HC.out.mono ?_
    rintro e w3 hp
    have HPn := Lib.hid (HP.out.put hp)
    have hkp := hp.2.2.2
    have HBRn := Lib.hid (HBR.out.trans hp.2.2.1)
    obtain ⟨rfl, q1, q2, q3⟩ := hp
    clear HP HC q1 q2 q3
    have HP := HPn
    clear HPn
    have HROWn := Lib.hid (hkp.2 _ _ HROW.out rfl)
    clear HROW
    have HROW := HROWn
    clear HROWn
    obtain ⟨r0, r1, r2, r3, r4, r5, r6, r7, r8, r9, r10, r11, r12, r13, r14⟩ := cells15 HROW.out
    clear hkp HBR
    have HBR := HBRn
    clear HBRn
    have HC := Lib.hid (HFafter.out _ _ hra HP.out.1 (HT.out.on HP.out.2.1) (Nat.le_trans hBw HP.out.size) HBR.out (by have := HLN.out; rw [show numsOf ⟨#[32, 195, 183, 32]⟩ = [32, 195, 183, 32] from rfl]; simp only [List.length_append, List.length_cons, List.length_nil] at this ⊢; omega))
    go_wp2_with fail
    refine HC.out.mono ?_
    rintro e w3 hp
    have HPn := Lib.hid (HP.out.put hp)
    have hkp := hp.2.2.2
    have HBRn := Lib.hid (HBR.out.trans hp.2.2.1)
    obtain ⟨rfl, q1, q2, q3⟩ := hp
    clear HP HC q1 q2 q3
    have HP := HPn
    clear HPn
    have HROWn := Lib.hid (hkp.2 _ _ HROW.out rfl)
    clear HROW
    have HROW := HROWn
    clear HROWn
    obtain ⟨r0, r1, r2, r3, r4, r5, r6, r7, r8, r9, r10, r11, r12, r13, r14⟩ := cells15 HROW.out
    clear hkp HBR
    have HBR := HBRn
    clear HBRn
    have HE := Lib.hid (HP.out.out (L := L) (M := TX) (by rw [HTX.out, show numsOf ⟨#[32, 195, 183, 32]⟩ = [32, 195, 183, 32] from rfl]; simp))
    clear HP
    go_wp2_with fail
    exact bodyPost_ret (v := .tuple #[]) (by simp [results, Tryz.results64, go_sem]) rfl HE.out
  | false =>
    simp only [Bool.false_eq_true, if_false] at HTX
    have HC := Lib.hid (wtext_any HP.out.1 ⟨#[32, 195, 151, 32]⟩ (by have := HLN.out; simp only [List.length_append, List.length_cons, List.length_nil] at this ⊢; show _ + 4 ≤ _; omega) (Nat.le_trans hBw HP.out.size))
    go_wp2_with fail
    refine HC.out.mono ?_
    rintro e w3 hp
    have HPn := Lib.hid (HP.out.put hp)
    have hkp := hp.2.2.2
    have HBRn := Lib.hid (HBR.out.trans hp.2.2.1)
    obtain ⟨rfl, q1, q2, q3⟩ := hp
    clear HP HC q1 q2 q3
    have HP := HPn
    clear HPn
    have HROWn := Lib.hid (hkp.2 _ _ HROW.out rfl)
    clear HROW
    have HROW := HROWn
    clear HROWn
    obtain ⟨r0, r1, r2, r3, r4, r5, r6, r7, r8, r9, r10, r11, r12, r13, r14⟩ := cells15 HROW.out
    clear hkp HBR
    have HBR := HBRn
    clear HBRn
    have HC := Lib.hid (HFafter.out _ _ hra HP.out.1 (HT.out.on HP.out.2.1) (Nat.le_trans hBw HP.out.size) HBR.out (by have := HLN.out; rw [show numsOf ⟨#[32, 195, 151, 32]⟩ = [32, 195, 151, 32] from rfl]; simp only [List.length_append, List.length_cons, List.length_nil] at this ⊢; omega))
    go_wp2_with fail
    refine HC.out.mono ?_
    rintro e w3 hp
    have HPn := Lib.hid (HP.out.put hp)
    have hkp := hp.2.2.2
    have HBRn := Lib.hid (HBR.out.trans hp.2.2.1)
    obtain ⟨rfl, q1, q2, q3⟩ := hp
    clear HP HC q1 q2 q3
    have HP := HPn
    clear HPn
    have HROWn := Lib.hid (hkp.2 _ _ HROW.out rfl)
    clear HROW
    have HROW := HROWn
    clear HROWn
    obtain ⟨r0, r1, r2, r3, r4, r5, r6, r7, r8, r9, r10, r11, r12, r13, r14⟩ := cells15 HROW.out
    clear hkp HBR
    have HBR := HBRn
    clear HBRn
    have HE := Lib.hid (HP.out.out (L := L) (M := TX) (by rw [HTX.out, show numsOf ⟨#[32, 195, 151, 32]⟩ = [32, 195, 151, 32] from rfl]; simp))
    clear HP
    go_wp2_with fail
    exact bodyPost_ret (v := .tuple #[]) (by simp [results, Tryz.results64, go_sem]) rfl HE.out
end Go.Proofs.YtmohefgdpddldaaGreatDoor
namespace Go.Proofs.YtmohefgdpddldaaGreatDoor
open Go.RowKit
open Y (Nd It noName)
open K (numsOf threeB twoB behindT betweenT brkB rngT txt kidsT partT anyB decT fracL numT lineT itemsT rightB noneB numOk mayB nameB)

set_option maxHeartbeats 8000000 in
theorem pitem_any {x : It} (hm : mayB x = true) {w : World} {B b : Nat} {L : List Int} {Ab Aa : Option Addr} {nb cb na ca : Nat} (h : Pn w B b L) (hT : TbB B w) (hBw : B ≤ w.heap.size) (hrb : RdN w (· < B) Ab nb cb x.before.kids) (hra' : RdN w (· < B) Aa na ca x.after.kids)
    (hlen : L.length + (lineT x).length ≤ 140737488355328) :
    Calls Tryz.prog 28 #[.pointer (some ⟨b, 0, none⟩), .agg #[.int .i64 x.kind, .string x.name, .int .i64 x.number, .bool x.cut, .int .i64 x.before.kind, .string x.before.name, .int .i64 x.before.low, .int .i64 x.before.high, .slice Ab nb cb, .int .i64 x.after.kind, .string x.after.name, .int .i64 x.after.low, .int .i64 x.after.high, .slice Aa na ca, .int .i64 x.pos]] w (PutV B b L (lineT x) (.tuple #[]) w) := by
  have HB0 := kbelow_push w (.cells #[.int .i64 x.kind, .string x.name, .int .i64 x.number, .bool x.cut, .int .i64 x.before.kind, .string x.before.name, .int .i64 x.before.low, .int .i64 x.before.high, .slice Ab nb cb, .int .i64 x.after.kind, .string x.after.name, .int .i64 x.after.low, .int .i64 x.after.high, .slice Aa na ca, .int .i64 x.pos] 35)
  have HROW := Lib.hid (heap_alloc_new w (.cells #[.int .i64 x.kind, .string x.name, .int .i64 x.number, .bool x.cut, .int .i64 x.before.kind, .string x.before.name, .int .i64 x.before.low, .int .i64 x.before.high, .slice Ab nb cb, .int .i64 x.after.kind, .string x.after.name, .int .i64 x.after.low, .int .i64 x.after.high, .slice Aa na ca, .int .i64 x.pos] 35))
  have HP := Lib.hid ((Pen.refl h).below hBw HB0)
  have hz : (w.alloc (.cells #[.int .i64 x.kind, .string x.name, .int .i64 x.number, .bool x.cut, .int .i64 x.before.kind, .string x.before.name, .int .i64 x.before.low, .int .i64 x.before.high, .slice Ab nb cb, .int .i64 x.after.kind, .string x.after.name, .int .i64 x.after.low, .int .i64 x.after.high, .slice Aa na ca, .int .i64 x.pos] 35)).heap.size = w.heap.size + 1 := by simp
  have HT := Lib.hid hT
  have HBR : Hid (Below B w (w.alloc (.cells #[.int .i64 x.kind, .string x.name, .int .i64 x.number, .bool x.cut, .int .i64 x.before.kind, .string x.before.name, .int .i64 x.before.low, .int .i64 x.before.high, .slice Ab nb cb, .int .i64 x.after.kind, .string x.after.name, .int .i64 x.after.low, .int .i64 x.after.high, .slice Aa na ca, .int .i64 x.pos] 35))) := HB0.mono hBw
  have HFbefore : Hid (∀ (w' : World) (L' : List Int), anyB x.before = true → Pn w' B b L' → TbB B w' → B ≤ w'.heap.size → Below B w w' → L'.length + (txt x.before).length ≤ 140737488355328 → Calls Tryz.prog 24 #[.pointer (some ⟨b, 0, none⟩), .agg #[.int .i64 x.before.kind, .string x.before.name, .int .i64 x.before.low, .int .i64 x.before.high, .slice Ab nb cb]] w' (PutV B b L' (txt x.before) (.tuple #[]) w')) := fun w' L' h0 h1 h2 h3 h4 h5 => pform_any h0 h1 h2 h3 (hrb.keep (fun _ h => h) (fun p hp => h4.cell (p := p) hp)) h5
  have HRU : Hid (∀ (w' : World), 0 ≤ x.number → x.number ≤ 999999 → anyB x.before = true → anyB x.after = true → Pn w' B b L → TbB B w' → B ≤ w'.heap.size → Below B w w' → L.length + (numT x.number ++ [32] ++ txt x.before ++ (if x.cut = true then [32, 195, 183, 32] else [32, 195, 151, 32]) ++ txt x.after).length ≤ 140737488355328 → Calls Tryz.prog 64 #[.pointer (some ⟨b, 0, none⟩), .agg #[.int .i64 x.kind, .string x.name, .int .i64 x.number, .bool x.cut, .int .i64 x.before.kind, .string x.before.name, .int .i64 x.before.low, .int .i64 x.before.high, .slice Ab nb cb, .int .i64 x.after.kind, .string x.after.name, .int .i64 x.after.low, .int .i64 x.after.high, .slice Aa na ca, .int .i64 x.pos]] w' (PutV B b L _ (.tuple #[]) w')) := fun w' q0 q1 q2 q3 h1 h2 h3 h4 h5 => prule_any h1 h2 h3 (hrb.keep (fun _ h => h) (fun p hp => h4.cell (p := p) hp)) (hra'.keep (fun _ h => h) (fun p hp => h4.cell (p := p) hp)) q0 q1 q2 q3 h5
  have hM := may_eq x
  rw [hm] at hM
  obtain ⟨TX, hTX⟩ : ∃ TX : List Int, TX = lineT x := ⟨_, rfl⟩
  rw [← hTX]
  unfold K.lineT at hTX hlen
  clear hrb hra' HB0 h hT
  by_cases h1 : x.kind = 1
  · rw [if_pos h1] at hM hTX hlen
    have k1 : (x.kind == 1) = true := by rw [beqd]; exact decide_eq_true (by omega)
    replace hM := hM.symm
    rw [Bool.and_eq_true, Bool.and_eq_true, Bool.and_eq_true, Bool.and_eq_true] at hM
    have hbb := right_anyB hM.1.2
    have HLN := Lib.hid hlen
    have HTX := Lib.hid hTX
    have hnl := K.numsOf_len x.name
    have HNL := Lib.hid hnl
    clear hM hTX hlen h1 HRU hnl hm
    have HC := Lib.hid (pname_any HP.out.1 x.name (by have := HLN.out; have h2 := HNL.out; simp only [List.length_append, List.length_cons, List.length_nil] at this ⊢; omega) (Nat.le_trans hBw HP.out.size))
    go_enter Tryz.func28, Tryz.ntmps28
    go_wp2_with fail
    generalize w.alloc (.cells #[.int .i64 x.kind, .string x.name, .int .i64 x.number, .bool x.cut, .int .i64 x.before.kind, .string x.before.name, .int .i64 x.before.low, .int .i64 x.before.high, .slice Ab nb cb, .int .i64 x.after.kind, .string x.after.name, .int .i64 x.after.low, .int .i64 x.after.high, .slice Aa na ca, .int .i64 x.pos] 35) = W2 at *
    refine HC.out.mono ?_
    rintro e w3 hp
    have HPn := Lib.hid (HP.out.put hp)
    have hkp := hp.2.2.2
    have HBRn := Lib.hid (HBR.out.trans hp.2.2.1)
    obtain ⟨rfl, q1, q2, q3⟩ := hp
    clear HP HC q1 q2 q3
    have HP := HPn
    clear HPn
    have HROWn := Lib.hid (hkp.2 _ _ HROW.out rfl)
    clear HROW
    have HROW := HROWn
    clear HROWn
    obtain ⟨r0, r1, r2, r3, r4, r5, r6, r7, r8, r9, r10, r11, r12, r13, r14⟩ := cells15 HROW.out
    clear hkp HBR
    have HBR := HBRn
    clear HBRn
    have HC := Lib.hid (wtext_any HP.out.1 ⟨#[32, 61, 32]⟩ (by have := HLN.out; simp only [List.length_append, List.length_cons, List.length_nil] at this ⊢; show _ + 3 ≤ _; omega) (Nat.le_trans hBw HP.out.size))
    go_wp2_with fail
    refine HC.out.mono ?_
    rintro e w3 hp
    have HPn := Lib.hid (HP.out.put hp)
    have hkp := hp.2.2.2
    have HBRn := Lib.hid (HBR.out.trans hp.2.2.1)
    obtain ⟨rfl, q1, q2, q3⟩ := hp
    clear HP HC q1 q2 q3
    have HP := HPn
    clear HPn
    have HROWn := Lib.hid (hkp.2 _ _ HROW.out rfl)
    clear HROW
    have HROW := HROWn
    clear HROWn
    obtain ⟨r0, r1, r2, r3, r4, r5, r6, r7, r8, r9, r10, r11, r12, r13, r14⟩ := cells15 HROW.out
    clear hkp HBR
    have HBR := HBRn
    clear HBRn
    have HC := Lib.hid (HFbefore.out _ _ hbb HP.out.1 (HT.out.on HP.out.2.1) (Nat.le_trans hBw HP.out.size) HBR.out (by have := HLN.out; rw [show numsOf ⟨#[32, 61, 32]⟩ = [32, 61, 32] from rfl]; simp only [List.length_append, List.length_cons, List.length_nil] at this ⊢; omega))
    go_wp2_with fail
    refine HC.out.mono ?_
    rintro e w3 hp
    have HPn := Lib.hid (HP.out.put hp)
    have hkp := hp.2.2.2
    have HBRn := Lib.hid (HBR.out.trans hp.2.2.1)
    obtain ⟨rfl, q1, q2, q3⟩ := hp
    clear HP HC q1 q2 q3
    have HP := HPn
    clear HPn
    have HROWn := Lib.hid (hkp.2 _ _ HROW.out rfl)
    clear HROW
    have HROW := HROWn
    clear HROWn
    obtain ⟨r0, r1, r2, r3, r4, r5, r6, r7, r8, r9, r10, r11, r12, r13, r14⟩ := cells15 HROW.out
    clear hkp HBR
    have HBR := HBRn
    clear HBRn
    have HE := Lib.hid (HP.out.out (L := L) (M := TX) (by rw [HTX.out, show numsOf ⟨#[32, 61, 32]⟩ = [32, 61, 32] from rfl]; simp))
    clear HP
    go_wp2_with fail
    exact bodyPost_ret (v := .tuple #[]) (by simp [results, Tryz.results28, go_sem]) rfl HE.out
  · rw [if_neg h1] at hM hTX hlen
    have k1 : (x.kind == 1) = false := by rw [beqd]; exact decide_eq_false (by omega)
    clear h1
    by_cases h2 : x.kind = 2
    · rw [if_pos h2] at hM hTX hlen
      have k2 : (x.kind == 2) = true := by rw [beqd]; exact decide_eq_true (by omega)
      replace hM := hM.symm
      rw [Bool.and_eq_true, Bool.and_eq_true, Bool.and_eq_true] at hM
      have ho := hM.1.1.2
      unfold K.numOk at ho
      rw [Bool.and_eq_true, decide_eq_true_eq, decide_eq_true_eq] at ho
      have HC := Lib.hid (HRU.out _ ho.1 ho.2 (right_anyB hM.1.2) (right_anyB hM.2) HP.out.1 (HT.out.on HP.out.2.1) (Nat.le_trans hBw HP.out.size) HBR.out hlen)
      rw [← hTX] at HC
      clear hM ho hlen h2 hTX HRU HFbefore hm
      go_enter Tryz.func28, Tryz.ntmps28
      go_wp2_with fail
      generalize w.alloc (.cells #[.int .i64 x.kind, .string x.name, .int .i64 x.number, .bool x.cut, .int .i64 x.before.kind, .string x.before.name, .int .i64 x.before.low, .int .i64 x.before.high, .slice Ab nb cb, .int .i64 x.after.kind, .string x.after.name, .int .i64 x.after.low, .int .i64 x.after.high, .slice Aa na ca, .int .i64 x.pos] 35) = W2 at *
      refine HC.out.mono ?_
      rintro e w3 hp
      have HPn := Lib.hid (HP.out.put hp)
      have hkp := hp.2.2.2
      have HBRn := Lib.hid (HBR.out.trans hp.2.2.1)
      obtain ⟨rfl, q1, q2, q3⟩ := hp
      clear HP HC q1 q2 q3
      have HP := HPn
      clear HPn
      have HROWn := Lib.hid (hkp.2 _ _ HROW.out rfl)
      clear HROW
      have HROW := HROWn
      clear HROWn
      obtain ⟨r0, r1, r2, r3, r4, r5, r6, r7, r8, r9, r10, r11, r12, r13, r14⟩ := cells15 HROW.out
      clear hkp HBR
      have HBR := HBRn
      clear HBRn
      have HE := Lib.hid (HP.out.out (L := L) (M := TX) rfl)
      clear HP
      go_wp2_with fail
      exact bodyPost_ret (v := .tuple #[]) (by simp [results, Tryz.results28, go_sem]) rfl HE.out
    · rw [if_neg h2] at hM hTX hlen
      have k2 : (x.kind == 2) = false := by rw [beqd]; exact decide_eq_false (by omega)
      clear h2
      by_cases h3 : x.kind = 3
      · rw [if_pos h3] at hM
        have k3 : (x.kind == 3) = true := by rw [beqd]; exact decide_eq_true (by omega)
        replace hM := hM.symm
        rw [Bool.and_eq_true, Bool.and_eq_true, Bool.and_eq_true, Bool.and_eq_true] at hM
        have ho : x.number = -1 ∨ 0 ≤ x.number ∧ x.number ≤ 999999 := by
          have h1 := hM.1.1.1.2
          unfold K.numOk at h1
          rw [Bool.or_eq_true, Bool.and_eq_true, decide_eq_true_eq, decide_eq_true_eq, beqd, decide_eq_true_eq] at h1
          exact h1
        have HLN := Lib.hid hlen
        have HTX := Lib.hid hTX
        have HNL := Lib.hid (K.numsOf_len x.name)
        have hal : K.allowT = [35, 97, 108, 108, 111, 119, 32] := rfl
        rw [hal] at HLN HTX
        clear hM hTX hlen h3 HRU HFbefore hm hal
        have HC := Lib.hid (wtext_any HP.out.1 ⟨#[35, 97, 108, 108, 111, 119, 32]⟩ (by have := HLN.out; simp only [List.length_append, List.length_cons, List.length_nil] at this ⊢; show _ + 7 ≤ _; omega) (Nat.le_trans hBw HP.out.size))
        go_enter Tryz.func28, Tryz.ntmps28
        go_wp2_with fail
        generalize w.alloc (.cells #[.int .i64 x.kind, .string x.name, .int .i64 x.number, .bool x.cut, .int .i64 x.before.kind, .string x.before.name, .int .i64 x.before.low, .int .i64 x.before.high, .slice Ab nb cb, .int .i64 x.after.kind, .string x.after.name, .int .i64 x.after.low, .int .i64 x.after.high, .slice Aa na ca, .int .i64 x.pos] 35) = W2 at *
        refine HC.out.mono ?_
        rintro e W3 hp
        have HPn := Lib.hid (HP.out.put hp)
        have hkp := hp.2.2.2
        have HBRn := Lib.hid (HBR.out.trans hp.2.2.1)
        obtain ⟨rfl, q1, q2, q3⟩ := hp
        clear HP HC q1 q2 q3
        have HP := HPn
        clear HPn
        have HROWn := Lib.hid (hkp.2 _ _ HROW.out rfl)
        clear HROW
        have HROW := HROWn
        clear HROWn
        obtain ⟨r0, r1, r2, r3, r4, r5, r6, r7, r8, r9, r10, r11, r12, r13, r14⟩ := cells15 HROW.out
        clear hkp HBR
        have HBR := HBRn
        clear HBRn
        rw [show numsOf ⟨#[35, 97, 108, 108, 111, 119, 32]⟩ = [35, 97, 108, 108, 111, 119, 32] from rfl] at HP
        go_wp2_with fail
        have HK0 : Hid (W3.drew.cell? ⟨w.heap.size, 1, none⟩ = some (.string x.name)) := (cells15 HROW.out).2.1
        have HWS : Hid (Calls _ _ _ W3.drew _) := wtext_any (w := W3.drew) (B := B) (b := b) (L := L ++ [35, 97, 108, 108, 111, 119, 32]) HP.out.1 x.name (by have := HLN.out; have h2 := HNL.out; simp only [List.length_append, List.length_cons, List.length_nil] at this ⊢; omega) (Nat.le_trans hBw HP.out.size)
        go_region_held_law (fun w' => w'.cell? ⟨w.heap.size, 1, none⟩ = some (.string x.name)) (first | exact HK0.out | exact HK1.out) ((go_at_call 52; refine HWS.out.mono ?_; rintro e w5 hp; have HPX := Lib.hid hp; have HK1 := Lib.hid (cells15 (hp.2.2.2.2 _ _ (show W3.drew.heap[w.heap.size]? = _ from HROW.out) rfl)).2.1; obtain ⟨rfl, q1, q2, q3⟩ := hp; clear q1 q2 q3))
        have hp := HPX.out
        have HPn := Lib.hid (HP.out.drew.put hp)
        have HROWn := Lib.hid (hp.2.2.2.2 _ _ (show W3.drew.heap[w.heap.size]? = _ from HROW.out) rfl)
        have HBRn : Hid (Below B w w5) := (HBR.out.trans (kbelow_drewN (Below.refl _ _) 1)).trans hp.2.2.1
        clear HP HROW HBR HPX hp HK0 HK1 HWS
        have HP := HPn
        have HROW := HROWn
        have HBR := HBRn
        clear HPn HROWn HBRn
        obtain ⟨r0, r1, r2, r3, r4, r5, r6, r7, r8, r9, r10, r11, r12, r13, r14⟩ := cells15 HROW.out
        by_cases hn : x.number = -1
        · have g1 : (x.number != -1) = false := by simpa using hn
          rw [if_pos hn] at HTX
          have HE := Lib.hid (HP.out.out (L := L) (M := TX) (by rw [HTX.out]; simp))
          clear HP hn ho
          go_wp2_with fail
          exact bodyPost_ret (v := .tuple #[]) (by simp [results, Tryz.results28, go_sem]) rfl HE.out
        · have g1 : (x.number != -1) = true := by rw [bne_iff_ne]; exact hn
          rw [if_neg hn] at HTX HLN
          obtain ⟨hn0, hn1⟩ := ho.resolve_left hn
          have HNN : Hid (numsOf (strOfNums (numT x.number)) = numT x.number) := K.numsOf_strOf (numT_byt _)
          have HNS : Hid ((strOfNums (numT x.number)).size = (numT x.number).length) := strOfNums_size _
          have HC := Lib.hid (wbyte_any HP.out.1 32 (by have := HLN.out; simp only [List.length_append, List.length_cons, List.length_nil] at this ⊢; omega) (Nat.le_trans hBw HP.out.size))
          clear hn ho
          go_wp2_with fail
          refine HC.out.mono ?_
          rintro e W2 hp
          have HPn := Lib.hid (HP.out.put hp)
          have hkp := hp.2.2.2
          have HBRn := Lib.hid (HBR.out.trans hp.2.2.1)
          obtain ⟨rfl, q1, q2, q3⟩ := hp
          clear HP HC q1 q2 q3
          have HP := HPn
          clear HPn
          have HROWn := Lib.hid (hkp.2 _ _ HROW.out rfl)
          clear HROW
          have HROW := HROWn
          clear HROWn
          obtain ⟨r0, r1, r2, r3, r4, r5, r6, r7, r8, r9, r10, r11, r12, r13, r14⟩ := cells15 HROW.out
          clear hkp HBR
          have HBR := HBRn
          clear HBRn
          go_wp2_with fail
          have HNU : Hid (Calls Tryz.prog 65 #[.int .i64 x.number] W2.drew _) := number_any ((HT.out.on ((HP.out.2.1).trans (kbelow_drewN (Below.refl _ _) 1))) _ (Below.refl _ _)).2 hn0 hn1
          have HK0 : Hid (W2.drew.cell? ⟨w.heap.size, 2, none⟩ = some (.int .i64 x.number)) := (cells15 HROW.out).2.2.1
          have hlx : w.heap.size < W2.heap.size := (Array.getElem?_eq_some_iff.1 HROW.out).1
          go_region_held_law (fun w' => w'.cell? ⟨w.heap.size, 2, none⟩ = some (.int .i64 x.number)) (first | exact HK0.out | exact HK1.out | exact HK2.out) (first | (go_at_call 65; refine HNU.out.mono ?_; rintro e w5 ⟨rfl, hb5⟩; have HP5 := Lib.hid (HP.out.drew.below (Nat.le_trans hBw HP.out.size) hb5); have HROW5 := Lib.hid ((hb5.block w.heap.size hlx).trans (show W2.drew.heap[w.heap.size]? = _ from HROW.out)); have HBR5 : Hid (Below B w w5) := HBR.out.trans ((kbelow_drewN (Below.refl _ _) 1).trans (hb5.mono (Nat.le_trans hBw HP.out.size))); have HK1 := Lib.hid (cells15 HROW5.out).2.2.1; clear hb5) | (go_at_call 52; refine (wtext_any HP5.out.1 (strOfNums (numT x.number)) (by rw [HNS.out]; have := HLN.out; simp only [List.length_append, List.length_cons, List.length_nil] at this ⊢; omega) (Nat.le_trans hBw HP5.out.size)).mono ?_; rintro e w6 hp; have HPX := Lib.hid hp; have HK2 := Lib.hid (cells15 (hp.2.2.2.2 _ _ HROW5.out rfl)).2.2.1; obtain ⟨rfl, q1, q2, q3⟩ := hp; clear q1 q2 q3))
          have hp := HPX.out
          have HPn := Lib.hid (HP5.out.put hp)
          have HROWn := Lib.hid (hp.2.2.2.2 _ _ HROW5.out rfl)
          have HBRn := Lib.hid (HBR5.out.trans hp.2.2.1)
          clear HP HROW HBR HPX hp HK0 HK1 HK2 HNU HP5 HROW5 HBR5
          have HP := HPn
          have HROW := HROWn
          have HBR := HBRn
          clear HPn HROWn HBRn
          rw [HNN.out] at HP
          obtain ⟨r0, r1, r2, r3, r4, r5, r6, r7, r8, r9, r10, r11, r12, r13, r14⟩ := cells15 HROW.out
          have HE := Lib.hid (HP.out.out (L := L) (M := TX) (by rw [HTX.out]; simp))
          clear HP
          go_wp2_with fail
          exact bodyPost_ret (v := .tuple #[]) (by simp [results, Tryz.results28, go_sem]) rfl HE.out
      · rw [if_neg h3] at hM; cases hM
end Go.Proofs.YtmohefgdpddldaaGreatDoor
namespace Go.Proofs.YtmohefgdpddldaaGreatDoor
open Go.RowKit
open Y (Nd It noName)
open K (numsOf threeB twoB behindT betweenT brkB rngT txt kidsT partT anyB decT fracL numT lineT itemsT rightB noneB numOk mayB nameB)

theorem itemsT_len : ∀ (l : List It), l.all mayB = true → (itemsT l).length ≤ 30101 * l.length
  | [], _ => by simp [K.itemsT]
  | x :: t, h => by
    rw [List.all_cons, Bool.and_eq_true] at h
    have h1 := (line_ok h.1).2
    have h2 := itemsT_len t h.2
    show (lineT x ++ [10] ++ itemsT t).length ≤ _
    simp only [List.length_append, List.length_cons, List.length_nil]
    omega
theorem itemsT_byt : ∀ (l : List It), l.all mayB = true → BytL (itemsT l)
  | [], _ => fun x hx => by simp [K.itemsT] at hx
  | x :: t, h => by
    rw [List.all_cons, Bool.and_eq_true] at h
    show BytL (lineT x ++ [10] ++ itemsT t)
    exact bytL_app (bytL_app (line_ok h.1).1 (bytL_of (by decide))) (itemsT_byt t h.2)
theorem itemsT_next {l : List It} {j : Nat} {x : It} (h : l[j]? = some x) : itemsT (l.take (j + 1)) = itemsT (l.take j) ++ lineT x ++ [10] := by
  rw [List.take_add_one, h, K.itemsT_app]
  simp [K.itemsT]
theorem all_take {l : List It} (h : l.all mayB = true) (j : Nat) : (l.take j).all mayB = true := List.all_eq_true.2 fun x hx => List.all_eq_true.1 h x (List.mem_of_mem_take hx)
theorem TbB.up {w w2 : World} (h : TbB w.heap.size w) (hb : Below w.heap.size w w2) : TbB w2.heap.size w2 := fun w' k => h w' (hb.trans (k.mono hb.size))
/-- A text and an error are handed back. -/
def TxtQ (B : Nat) (r : List Int × Int) (w : World) (e : Ending) (w' : World) : Prop := e = .returned (.tuple #[.string (strOfNums r.1), .int .i64 r.2]) ∧ Below B w w'
set_option maxHeartbeats 2000000 in
theorem ptext_any {B b : Nat} {L : List Int} {w : World} (h : Pn w B b L) (hL : BytL L) (hBw : B ≤ w.heap.size) (hl : L.length ≤ 1000000000) :
    Calls Tryz.prog 25 #[.pointer (some ⟨b, 0, none⟩)] w (TxtQ B (K.longR L) w) := by
  have HLN := Lib.hid (plen_any h)
  have HST := Lib.hid (pstr_any h hL hBw)
  have HB : Hid (Below B w w) := Below.refl _ _
  clear h
  by_cases h3 : L.length ≤ 3000
  · have HF : Hid (K.longR L = (L, 0)) := by show _ = _; unfold K.longR; rw [if_pos h3]
    have g1 : ¬ (3000 : Int) < (L.length : Int) := by omega
    clear h3 hL
    go_enter Tryz.func25, Tryz.ntmps25
    go_wp2_with fail
    refine HLN.out.mono ?_
    rintro e w2 ⟨rfl, rfl⟩
    go_wp2_with fail
    refine HST.out.mono ?_
    rintro e w3 ⟨rfl, hb⟩
    have HE : Hid (TxtQ B (K.longR L) w (.returned (.tuple #[.string (strOfNums L), .int .i64 0])) w3) := ⟨by rw [HF.out], hb⟩
    clear hb HST HLN
    go_wp2_with fail
    go_ret2
    exact HE.out
  · have HF : Hid (K.longR L = ([], 2)) := by show _ = _; unfold K.longR; rw [if_neg h3]
    have g1 : (3000 : Int) < (L.length : Int) := by omega
    have HE : Hid (TxtQ B (K.longR L) w (.returned (.tuple #[.string ⟨#[]⟩, .int .i64 2])) w) := ⟨by rw [HF.out]; rfl, HB.out⟩
    clear h3 hL HST
    go_enter Tryz.func25, Tryz.ntmps25
    go_wp2_with fail
    refine HLN.out.mono ?_
    rintro e w2 ⟨rfl, rfl⟩
    go_wp2_with fail
    go_ret2
    exact HE.out
set_option maxHeartbeats 4000000 in
theorem iform_any {x : Nd} {w : World} {A : Option Addr} {n c : Nat} (ha : RdN w (Lt w) A n c x.kids) (hT : TbB w.heap.size w) :
    Calls Tryz.prog 10 #[.agg #[.int .i64 x.kind, .string x.name, .int .i64 x.low, .int .i64 x.high, .slice A n c]] w (TxtQ w.heap.size (K.formR x) w) := by
  have HP := Lib.hid (kbelow_push w (.cells #[.int .i64 x.kind, .string x.name, .int .i64 x.low, .int .i64 x.high, .slice A n c] 24))
  have HROW := Lib.hid (heap_alloc_new w (.cells #[.int .i64 x.kind, .string x.name, .int .i64 x.low, .int .i64 x.high, .slice A n c] 24))
  have hz : (w.alloc (.cells #[.int .i64 x.kind, .string x.name, .int .i64 x.low, .int .i64 x.high, .slice A n c] 24)).heap.size = w.heap.size + 1 := by simp
  have HRI := Lib.hid (right_any (ha.on HP.out))
  have HA := Lib.hid ha
  have HT := Lib.hid hT
  clear ha hT
  cases hr : rightB x with
  | false =>
    rw [hr] at HRI
    have HF : Hid (K.formR x = ([], 1)) := by show _ = _; unfold K.formR; rw [if_neg (by rw [hr]; decide)]
    clear hr
    go_enter Tryz.func10, Tryz.ntmps10
    go_wp2_with fail
    refine HRI.out.mono ?_
    rintro e w2 ⟨rfl, hb⟩
    have HE : Hid (TxtQ w.heap.size (K.formR x) w (.returned (.tuple #[.string ⟨#[]⟩, .int .i64 1])) w2) := ⟨by rw [HF.out]; rfl, HP.out.trans (hb.mono HP.out.size)⟩
    clear hb
    go_wp2_with fail
    go_ret2
    exact HE.out
  | true =>
    rw [hr] at HRI
    have HF : Hid (K.formR x = K.longR (txt x)) := by show _ = _; unfold K.formR; rw [if_pos hr]
    have HAN := Lib.hid (right_anyB hr)
    have htl := right_len hr
    have HBY := Lib.hid (txt_byt _ _ (Nat.le_refl _) (right_anyB hr))
    clear hr
    go_enter Tryz.func10, Tryz.ntmps10
    go_wp2_with fail
    refine HRI.out.mono ?_
    rintro e w2 ⟨rfl, hb⟩
    have HB2 := Lib.hid (HP.out.trans (hb.mono HP.out.size))
    have HROW2 := Lib.hid ((hb.block w.heap.size (by omega)).trans HROW.out)
    have hz2 := hb.size
    obtain ⟨r0, r1, r2, r3, r4⟩ := cells5 HROW2.out
    have HP3 := Lib.hid (pn_fresh w2)
    have HB3 := Lib.hid (kbelow_push w2 (.cells #[.pointer none, .slice none 0 0] 53))
    have HA3 : Hid (RdN (w2.alloc (.cells #[.pointer none, .slice none 0 0] 53)) (· < w2.heap.size) A n c x.kids) := (HA.out.on HB2.out).keep (fun _ h => h) (fun p hp => HB3.out.cell (p := p) hp)
    have HT3 : Hid (TbB w2.heap.size (w2.alloc (.cells #[.pointer none, .slice none 0 0] 53))) := (HT.out.up HB2.out).on HB3.out
    have HC := Lib.hid (pform_any HAN.out HP3.out HT3.out (by simp) HA3.out (by simp; omega))
    have HPB : Hid (Pen w2.heap.size w2.heap.size [] (w2.alloc (.cells #[.pointer none, .slice none 0 0] 53)) (w2.alloc (.cells #[.pointer none, .slice none 0 0] 53))) := Pen.refl HP3.out
    have hz3 : (w2.alloc (.cells #[.pointer none, .slice none 0 0] 53)).heap.size = w2.heap.size + 1 := by simp
    have hlt : w.heap.size < w2.heap.size := by omega
    clear hb HP HROW HRI HA HT HA3 HT3 HP3 hz hz2
    go_wp2_with fail
    generalize w2.alloc (.cells #[.pointer none, .slice none 0 0] 53) = W3 at *
    refine HC.out.mono ?_
    rintro e w4 hp
    have HP4 := Lib.hid (HPB.out.put hp)
    obtain ⟨rfl, q1, q2, q3⟩ := hp
    have hs4 := HP4.out.size
    have HTX := Lib.hid (ptext_any HP4.out.1 (by rw [List.nil_append]; exact HBY.out) (by omega) (by simp; omega))
    rw [List.nil_append] at HTX
    clear q1 q2 q3 HC HPB
    go_wp2_with fail
    refine HTX.out.mono ?_
    rintro e w5 ⟨rfl, hb5⟩
    have HE : Hid (TxtQ w.heap.size (K.formR x) w (.returned (.tuple #[.string (strOfNums (K.longR (txt x)).1), .int .i64 (K.longR (txt x)).2])) w5) := ⟨by rw [HF.out], HB2.out.trans ((HB3.out.trans (HP4.out.2.1.trans hb5)).mono HB2.out.size)⟩
    clear hb5 HTX HP4 HF
    generalize K.longR (txt x) = rr at *
    go_wp2_with fail
    go_ret2
    exact HE.out
end Go.Proofs.YtmohefgdpddldaaGreatDoor
namespace Go.Proofs.YtmohefgdpddldaaGreatDoor
open Go.RowKit
open Y (Nd It noName)
open K (numsOf threeB twoB behindT betweenT brkB rngT txt kidsT partT anyB decT fracL numT lineT itemsT rightB noneB numOk mayB nameB)

set_option maxHeartbeats 8000000 in
theorem iitems_any {l : List It} {w : World} {A : Option Addr} {n c : Nat} (ha : RdI6 w (Lt w) A n c l) (hs : ∀ x ∈ l, x.name.size ≤ 140737488355328) (hT : TbB w.heap.size w) :
    Calls Tryz.prog 12 #[.slice A n c] w (TxtQ w.heap.size (K.itemsR l) w) := by
  have hn := ha.small
  have hlen := ha.len
  have HA := Lib.hid ha
  have HT := Lib.hid hT
  have HAL := Lib.hid (allI_any 14 #[] mayB ha (enters_of Tryz.func14 (by kernel_rfl) rfl) fun W x Ab nb cb Aa na ca hx _ hr hr2 => may_any (hs x hx) hr hr2)
  have HB : Hid (Below w.heap.size w w) := Below.refl _ _
  clear ha hT hs
  by_cases h100 : n ≤ 100
  · have g1 : ¬ (100 : Int) < (n : Int) := by omega
    cases hall : l.all mayB with
    | false =>
      rw [hall] at HAL
      have HF : Hid (K.itemsR l = ([], 1)) := by show _ = _; unfold K.itemsR K.okL; rw [hall, Bool.and_false, if_neg (by decide)]
      clear hall HA HT
      go_enter Tryz.func12, Tryz.ntmps12
      go_wp2_with fail
      refine HAL.out.mono ?_
      rintro e w2 ⟨rfl, hb⟩
      have HE : Hid (TxtQ w.heap.size (K.itemsR l) w (.returned (.tuple #[.string ⟨#[]⟩, .int .i64 1])) w2) := ⟨by rw [HF.out]; rfl, hb⟩
      clear hb
      go_wp2_with fail
      go_ret2
      exact HE.out
    | true =>
      rw [hall] at HAL
      have HF : Hid (K.itemsR l = K.longR (itemsT l)) := by show _ = _; unfold K.itemsR K.okL; rw [hall, hlen, decide_eq_true h100]; rfl
      have HALL := Lib.hid hall
      have HLN := Lib.hid hlen
      clear hall hlen
      go_enter Tryz.func12, Tryz.ntmps12
      go_wp2_with fail
      refine HAL.out.mono ?_
      rintro e w2 ⟨rfl, hb⟩
      have HB2 := Lib.hid hb
      have HP3 := Lib.hid (pn_fresh w2)
      have HB3 := Lib.hid (kbelow_push w2 (.cells #[.pointer none, .slice none 0 0] 53))
      have HA3 : Hid (RdI6 (w2.alloc (.cells #[.pointer none, .slice none 0 0] 53)) (· < w2.heap.size) A n c l) := (HA.out.on HB2.out).keep (fun _ h => h) (fun p hp => HB3.out.cell (p := p) hp)
      have HT3 : Hid (TbB w2.heap.size (w2.alloc (.cells #[.pointer none, .slice none 0 0] 53))) := (HT.out.up HB2.out).on HB3.out
      have HPB : Hid (Pen w2.heap.size w2.heap.size [] (w2.alloc (.cells #[.pointer none, .slice none 0 0] 53)) (w2.alloc (.cells #[.pointer none, .slice none 0 0] 53))) := Pen.refl HP3.out
      have hz3 : (w2.alloc (.cells #[.pointer none, .slice none 0 0] 53)).heap.size = w2.heap.size + 1 := by simp
      clear hb HA HT HP3 HAL HB
      go_wp2_with fail
      generalize w2.alloc (.cells #[.pointer none, .slice none 0 0] 53) = W3 at *
      go_loopw [17] (fun iv wx => ∃ j : Nat, j ≤ n ∧ iv = .int .i64 j ∧ Hid (Pen w2.heap.size w2.heap.size (itemsT (l.take j)) W3 wx)) (fun iv _ => n - (intOf iv).toNat)
      case atStart => exact ⟨0, by omega, rfl, HPB.out⟩
      case round =>
        obtain ⟨j, hj, rfl, HP⟩ := hrel
        have hws := HP.out.size
        have hTl := itemsT_len (l.take j) (all_take HALL.out j)
        have hTl2 : (l.take j).length ≤ 100 := by rw [List.length_take]; omega
        have hBw : w2.heap.size ≤ wr.heap.size := by omega
        by_cases hlt : j < n
        · obtain ⟨b1, o1, x, Ab, Aa, nb, cb, na, ca, hA1, hb1, hx, hr1, hr2, hc1⟩ := (HA3.out.keep (S' := (· < w2.heap.size)) (fun _ h => h) (fun p hp => HP.out.2.1.cell (p := p) hp)).got hlt
          subst hA1
          obtain ⟨s0, s1, s2, s3, s4, s5, s6, s7, s8, s9, s10, s11, s12, s13, s14⟩ := it_cells hc1
          have hj0 : (0 : Int) ≤ (j : Int) := by omega
          have hj1 : (j : Int) < (n : Int) := by omega
          have HNX := Lib.hid (itemsT_next hx)
          have hmx := List.all_eq_true.1 HALL.out x (List.mem_of_getElem? hx)
          have hll := (line_ok hmx).2
          have HBY := Lib.hid (kbelow_push wr (.cells #[.int .i64 x.kind, .string x.name, .int .i64 x.number, .bool x.cut, .int .i64 x.before.kind, .string x.before.name, .int .i64 x.before.low, .int .i64 x.before.high, .slice Ab nb cb, .int .i64 x.after.kind, .string x.after.name, .int .i64 x.after.low, .int .i64 x.after.high, .slice Aa na ca, .int .i64 x.pos] 35))
          have HPN := Lib.hid (HP.out.below hBw HBY.out)
          have HBR : Hid (Below w2.heap.size wr (wr.alloc (.cells #[.int .i64 x.kind, .string x.name, .int .i64 x.number, .bool x.cut, .int .i64 x.before.kind, .string x.before.name, .int .i64 x.before.low, .int .i64 x.before.high, .slice Ab nb cb, .int .i64 x.after.kind, .string x.after.name, .int .i64 x.after.low, .int .i64 x.after.high, .slice Aa na ca, .int .i64 x.pos] 35))) := HBY.out.mono hBw
          have HC := Lib.hid (pitem_any hmx HPN.out.1 (HT3.out.on HPN.out.2.1) (Nat.le_trans hBw HBY.out.size) (hr1.keep (fun _ h => h) (fun p hp => HBR.out.cell (p := p) hp)) (hr2.keep (fun _ h => h) (fun p hp => HBR.out.cell (p := p) hp)) (by omega))
          have hb1' : b1 < wr.heap.size := by have h : b1 < w2.heap.size := hb1; omega
          have hTl3 : (itemsT (l.take j) ++ lineT x).length ≤ 10000000 := by rw [List.length_append]; omega
          clear hx hr1 hr2 hc1 hb1 hmx hll HP hTl hTl2 HA3
          generalize itemsT (l.take j) = T at *
          generalize lineT x = LX at *
          go_wp2_with fail
          generalize wr.alloc (.cells #[.int .i64 x.kind, .string x.name, .int .i64 x.number, .bool x.cut, .int .i64 x.before.kind, .string x.before.name, .int .i64 x.before.low, .int .i64 x.before.high, .slice Ab nb cb, .int .i64 x.after.kind, .string x.after.name, .int .i64 x.after.low, .int .i64 x.after.high, .slice Aa na ca, .int .i64 x.pos] 35) = W4 at *
          refine HC.out.mono ?_
          rintro e w5 hp
          have HP5 := Lib.hid (HPN.out.put hp)
          obtain ⟨rfl, q1, q2, q3⟩ := hp
          clear q1 q2 q3 HC HPN
          have HC := Lib.hid (wbyte_any HP5.out.1 10 (by omega) (by have := HP5.out.size; omega))
          go_wp2_with fail
          refine HC.out.mono ?_
          rintro e w6 hp
          have HP6 := Lib.hid (HP5.out.put hp)
          obtain ⟨rfl, q1, q2, q3⟩ := hp
          clear q1 q2 q3 HC HP5
          go_wp2_with fail
          go_roundw
          case rel => exact ⟨j + 1, by omega, by go_num, (by have h1 := HP6.out; show Pen _ _ _ _ _; rw [HNX.out]; exact h1)⟩
          case measure => simp [intOf]; omega
        · obtain rfl : j = n := by omega
          have HPE : Hid (Pen w2.heap.size w2.heap.size (itemsT l) W3 wr) := by
            have h1 := HP.out
            rw [List.take_of_length_le (by have := HLN.out; omega)] at h1
            exact h1
          have hTE : (itemsT l).length ≤ 10000000 := by have h1 := itemsT_len l HALL.out; have h2 := HLN.out; omega
          have HTX := Lib.hid (ptext_any HPE.out.1 (itemsT_byt l HALL.out) hBw (by omega))
          clear HP hTl hTl2 HA3
          go_wp2_with fail
          refine HTX.out.mono ?_
          rintro e w5 ⟨rfl, hb5⟩
          have HE : Hid (TxtQ w.heap.size (K.itemsR l) w (.returned (.tuple #[.string (strOfNums (K.longR (itemsT l)).1), .int .i64 (K.longR (itemsT l)).2])) w5) := ⟨by rw [HF.out], HB2.out.trans ((HB3.out.trans (HPE.out.2.1.trans hb5)).mono HB2.out.size)⟩
          clear hb5 HTX HPE HF
          generalize K.longR (itemsT l) = rr at *
          go_wp2_with fail
          go_ret2
          exact HE.out
  · have g1 : (100 : Int) < (n : Int) := by omega
    have HE : Hid (TxtQ w.heap.size (K.itemsR l) w (.returned (.tuple #[.string ⟨#[]⟩, .int .i64 1])) w) := ⟨by unfold K.itemsR K.okL; rw [hlen, decide_eq_false h100, Bool.false_and, if_neg (by decide)]; rfl, HB.out⟩
    clear h100 HA HT HAL hlen
    go_enter Tryz.func12, Tryz.ntmps12
    go_wp2_with fail
    go_ret2
    exact HE.out
end Go.Proofs.YtmohefgdpddldaaGreatDoor
namespace Go.Proofs.YtmohefgdpddldaaGreatDoor
open Go.RowKit
open E (okb encB flat offs DecIs Upto)
open W (Tk lexS)
open Y (Nd It Ps)

def lexL (l : List Int) : List Tk := match lexS l 0 0 [] with | .ok ts => ts | .bad _ _ => []
/-- A text that is decoded and read has these items alone. -/
theorem items_one {Bs cs ats : List Int} {x : Int} {N M : Nat} {r : List It × Int × Int} {ts : List Tk} (hd : DecIs Bs cs ats x 0) (hl : lexS cs 0 0 [] = .ok ts) (h : ItemsIs Bs N M r) : r = allS Bs.length N M (placed cs ts) := by
  have hone : ∀ {us : List Tok} {y er : Int}, TokIs Bs us y er → us = placed cs ts ∧ er = 0 := by
    intro us y er ht
    cases ht with
    | dec cs' ats' _ _ h he => obtain ⟨_, _, _, e⟩ := h.one hd; exact absurd e he
    | bad cs' ats' _ h k _ hl' => obtain ⟨e, _⟩ := h.one hd; subst e; rw [hl] at hl'; cases hl'
    | ok cs' ats' _ h ts' hl' => obtain ⟨e, _⟩ := h.one hd; subst e; rw [hl] at hl'; injection hl' with e; subst e; exact ⟨rfl, rfl⟩
  cases h with
  | bad x er h he => exact absurd (hone h).2 he
  | ok us y h => rw [(hone h).1]
end Go.Proofs.YtmohefgdpddldaaGreatDoor
namespace Go.Proofs.YtmohefgdpddldaaGreatDoor
open Go.RowKit
open Y (Nd It Ps)

end Go.Proofs.YtmohefgdpddldaaGreatDoor
namespace Go.Proofs.YtmohefgdpddldaaGreatDoor
open Go.RowKit
open W (Tk)

/-- The lexer at character p, o sets open, the tokens ts read; wr, er: what is wrong. -/
structure Rdx (X : Cx) (b : Nat) (w : World) (p o : Nat) (tv : Value) (ts : List Tk) (wr er : Int) : Prop where
  ok : X.Ok
  size : b < w.heap.size
  chars : RdK .i64 w b X.Ac X.nc X.cc X.L
  places : RdK .i64 w b X.Ap X.np X.cp X.P
  le : p ≤ X.nc
  blk : w.heap[b]? = some (.cells #[.slice X.Ac X.nc X.cc, .slice X.Ap X.np X.cp, .int .i64 p, .int .i64 o, tv, .int .i64 wr, .int .i64 er] 72 (0, 0))
  row : OwnT w (b + 1) tv (ts.map X.put)
section
variable {X : Cx} {b : Nat} {w w' : World} {p o : Nat} {tv : Value} {ts : List Tk} {wr er : Int}
theorem Rdx.drewN (h : Rdx X b w p o tv ts wr er) (q : Nat) : Rdx X b (w.drewN q) p o tv ts wr er := ⟨h.ok, h.size, h.chars.drewN q, h.places.drewN q, h.le, h.blk, h.row⟩
theorem Rdx.below (h : Rdx X b w p o tv ts wr er) (hb : Below w.heap.size w w') : Rdx X b w' p o tv ts wr er := by
  have hk : ∀ q : Addr, q.block < b → w'.cell? q = w.cell? q := fun q hq => hb.cell (by have := h.size; omega)
  exact ⟨h.ok, Nat.lt_of_lt_of_le h.size hb.size, h.chars.keep hk, h.places.keep hk, h.le, (hb.block b h.size).trans h.blk, h.row.below hb⟩
theorem Rdx.cells (h : Rdx X b w p o tv ts wr er) : w.cell? ⟨b, 0, none⟩ = some (.slice X.Ac X.nc X.cc) ∧ w.cell? ⟨b, 1, none⟩ = some (.slice X.Ap X.np X.cp) ∧ w.cell? ⟨b, 2, none⟩ = some (.int .i64 p) ∧ w.cell? ⟨b, 3, none⟩ = some (.int .i64 o) ∧ w.cell? ⟨b, 4, none⟩ = some tv ∧ w.cell? ⟨b, 5, none⟩ = some (.int .i64 wr) ∧ w.cell? ⟨b, 6, none⟩ = some (.int .i64 er) := by
  refine ⟨?_, ?_, ?_, ?_, ?_, ?_, ?_⟩ <;> (rw [cell_of_row _ _ _ _ _ _ h.blk]; rfl)
theorem Rdx.fr (h : Rdx X b w p o tv ts wr er) (j : Nat) : w.frozen? ⟨b, j, none⟩ = false := frozen_of_row _ _ _ _ _ h.blk
theorem Rdx.nc (h : Rdx X b w p o tv ts wr er) : X.L.length = X.nc ∧ X.nc ≤ 3000 ∧ X.np = X.nc + 1 := by
  have h1 := h.chars.len
  have h2 := W.flat_len h.ok.ok
  have h3 := h.ok.few
  rw [h.ok.flat] at h3
  have h4 := h.places.len
  rw [h.ok.pl, List.length_append, E.offs_len] at h4
  simp at h4
  exact ⟨h1, by omega, by omega⟩
theorem Rdx.place (h : Rdx X b w p o tv ts wr er) {i : Nat} (hi : i ≤ X.nc) : ∃ b2 off, X.Ap = some ⟨b2, off, none⟩ ∧ b2 < b ∧ w.cell? ⟨b2, off + i, none⟩ = some (.int .i64 (plc X.L i : Nat)) := by
  obtain ⟨n1, _, n3⟩ := h.nc
  obtain ⟨b2, off, e, hb, hc⟩ := h.places.at_ (by omega)
  exact ⟨b2, off, e, hb, hc _ _ (h.ok.at_ (by omega))⟩
theorem Rdx.pbd (h : Rdx X b w p o tv ts wr er) (i : Nat) : plc X.L i ≤ 3000 := by
  have h1 := plc_le X.L i
  have h3 := h.ok.few
  rw [h.ok.flat] at h3
  omega
theorem Rdx.far (w : World) (b j : Nat) (v : Value) : ∀ a : Addr, a.block < b → (w.setCell ⟨b, j, none⟩ v).cell? a = w.cell? a := fun a ha => World.cell?_of_block (w := w) (Below.heap_setCell _ _ _ _ (by show a.block ≠ b; omega))
theorem Rdx.at_ (h : Rdx X b w p o tv ts wr er) {q : Nat} (hq : q ≤ X.nc) : Rdx X b (w.setCell ⟨b, 2, none⟩ (.int .i64 q)) q o tv ts wr er := by
  refine ⟨h.ok, by simp; exact h.size, h.chars.keep (Rdx.far _ _ _ _), h.places.keep (Rdx.far _ _ _ _), hq, ?_, h.row.set (by omega) _⟩
  rw [heap_setCell_same _ _ _ _ _ _ h.blk]; rfl
theorem Rdx.open_ (h : Rdx X b w p o tv ts wr er) (o' : Nat) : Rdx X b (w.setCell ⟨b, 3, none⟩ (.int .i64 o')) p o' tv ts wr er := by
  refine ⟨h.ok, by simp; exact h.size, h.chars.keep (Rdx.far _ _ _ _), h.places.keep (Rdx.far _ _ _ _), h.le, ?_, h.row.set (by omega) _⟩
  rw [heap_setCell_same _ _ _ _ _ _ h.blk]; rfl
theorem Rdx.err (h : Rdx X b w p o tv ts wr er) (x y : Int) : Rdx X b ((w.setCell ⟨b, 5, none⟩ (.int .i64 x)).setCell ⟨b, 6, none⟩ (.int .i64 y)) p o tv ts x y := by
  refine ⟨h.ok, by simp; exact h.size, (h.chars.keep (Rdx.far _ _ _ _)).keep (Rdx.far _ _ _ _), (h.places.keep (Rdx.far _ _ _ _)).keep (Rdx.far _ _ _ _), h.le, ?_, (h.row.set (by omega) _).set (by omega) _⟩
  rw [heap_setCell_same _ _ _ _ _ _ (heap_setCell_same _ _ _ _ _ _ h.blk)]; rfl
/-- What fail leaves: the first fault stays. -/
def FailP (X : Cx) (b : Nat) (w : World) (p o : Nat) (tv : Value) (ts : List Tk) (wr er : Int) (i : Nat) (x : Int) (e : Ending) (w' : World) : Prop :=
  e = .returned (.tuple #[]) ∧ Rdx X b w' p o tv ts (if er = 0 then (plc X.L i : Nat) else wr) (if er = 0 then x else er) ∧ Below b w w'
set_option maxHeartbeats 1000000 in
theorem dfail_any (h : Rdx X b w p o tv ts wr er) {i : Nat} (hi : i ≤ X.nc) (x : Int) :
    Calls Tryz.prog 46 #[.pointer (some ⟨b, 0, none⟩), .int .i64 i, .int .i64 x] w (FailP X b w p o tv ts wr er i x) := by
  obtain ⟨c0, c1, c2, c3, c4, c5, c6⟩ := h.cells
  obtain ⟨b2, off, hA, hb2, hc⟩ := h.place hi
  obtain ⟨n1, n2, n3⟩ := h.nc
  have f5 := h.fr 5
  have f6 := h.fr 6
  rw [hA] at c1
  have hnp : (i : Int) < (X.np : Int) := by omega
  have hi0 : (0 : Int) ≤ (i : Int) := by omega
  have HH := Lib.hid h
  by_cases h0 : er = 0
  · subst h0
    have HE : Hid (FailP X b w p o tv ts wr 0 i x (.returned (.tuple #[])) ((w.setCell ⟨b, 5, none⟩ (.int .i64 (plc X.L i : Nat))).setCell ⟨b, 6, none⟩ (.int .i64 x))) :=
      ⟨rfl, by rw [if_pos rfl, if_pos rfl]; exact HH.out.err _ x, ((Below.refl b w).setCell (p := ⟨b, 5, none⟩) (Nat.le_refl _) _).setCell (p := ⟨b, 6, none⟩) (Nat.le_refl _) _⟩
    clear h hA n1 n3
    go_enter Tryz.func46, Tryz.ntmps46
    go_wp2_with fail
    exact bodyPost_ret (v := .tuple #[]) (by simp [results, Tryz.results46, go_sem]) rfl HE.out
  · have HE : Hid (FailP X b w p o tv ts wr er i x (.returned (.tuple #[])) w) := ⟨rfl, by rw [if_neg h0, if_neg h0]; exact HH.out, Below.refl _ _⟩
    have g0 : (er == 0) = false := by simpa using h0
    clear h hA n1 n3 h0
    go_enter Tryz.func46, Tryz.ntmps46
    go_wp2_with fail
    exact bodyPost_ret (v := .tuple #[]) (by simp [results, Tryz.results46, go_sem]) rfl HE.out
set_option maxHeartbeats 1000000 in
theorem dis_any (h : Rdx X b w p o tv ts wr er) (i : Nat) (hi : i ≤ 100000) (x : Int) :
    Calls Tryz.prog 85 #[.pointer (some ⟨b, 0, none⟩), .int .i64 i, .int .i64 x] w fun e w' => e = .returned (.bool (decide (X.L[i]? = some x))) ∧ w = w' := by
  obtain ⟨c0, c1, c2, c3, c4, c5, c6⟩ := h.cells
  obtain ⟨n1, n2, n3⟩ := h.nc
  have hi0 : (0 : Int) ≤ (i : Int) := by omega
  rcases Nat.lt_or_ge i X.nc with hlt | hge
  · obtain ⟨b2, off, y, hA, hb2, hy, hc⟩ := h.chars.got hlt
    rw [hA] at c0
    have HX : Hid (decide (X.L[i]? = some x) = (y == x)) := by show _ = _; rw [hy, Bool.eq_iff_iff]; simp
    have hi1 : (i : Int) < (X.nc : Int) := by omega
    clear h hy hA n1 n3
    go_enter Tryz.func85, Tryz.ntmps85
    go_wp2_with fail
    go_ret
    exact ⟨ret_bool HX.out.symm, rfl⟩
  · have HX : Hid (decide (X.L[i]? = some x) = false) := by show _ = _; rw [List.getElem?_eq_none (by omega)]; rfl
    have hi1 : ¬ (i : Int) < (X.nc : Int) := by omega
    clear h n1 n3
    go_enter Tryz.func85, Tryz.ntmps85
    go_wp2_with fail
    go_ret
    exact ⟨ret_bool HX.out.symm, rfl⟩
end
end Go.Proofs.YtmohefgdpddldaaGreatDoor
namespace Go.Proofs.YtmohefgdpddldaaGreatDoor
open Go.RowKit
open W (Tk)

/-- The cells that put loads. -/
def HeldU (b N : Nat) (tv : Value) (k : Int) (s : ByteArray) (lo hi pl : Int) (w : World) : Prop :=
  w.cell? ⟨b, 4, none⟩ = some tv ∧ w.cell? ⟨N, 0, none⟩ = some (.int .i64 k) ∧ w.cell? ⟨N, 1, none⟩ = some (.string s) ∧ w.cell? ⟨N, 2, none⟩ = some (.int .i64 lo) ∧ w.cell? ⟨N, 3, none⟩ = some (.int .i64 hi) ∧ w.cell? ⟨N, 4, none⟩ = some (.int .i64 pl)
theorem HeldU.keep {b N : Nat} {tv : Value} {k lo hi pl : Int} {s : ByteArray} {w w' : World} (h : HeldU b N tv k s lo hi pl w) (hb : w'.heap[b]? = w.heap[b]?) (hN : w'.heap[N]? = w.heap[N]?) : HeldU b N tv k s lo hi pl w' := by
  obtain ⟨h0, h1, h2, h3, h4, h5⟩ := h
  exact ⟨(World.cell?_of_block (a := ⟨b, 4, none⟩) hb).trans h0, (World.cell?_of_block (a := ⟨N, 0, none⟩) hN).trans h1, (World.cell?_of_block (a := ⟨N, 1, none⟩) hN).trans h2, (World.cell?_of_block (a := ⟨N, 2, none⟩) hN).trans h3, (World.cell?_of_block (a := ⟨N, 3, none⟩) hN).trans h4, (World.cell?_of_block (a := ⟨N, 4, none⟩) hN).trans h5⟩
section
variable {X : Cx} {b : Nat} {w : World} {p o : Nat} {tv : Value} {ts : List Tk} {wr er : Int}
theorem Rdx.grow {W W' : World} {v' : Value} {t : Tk} (h : Rdx X b W p o tv ts wr er) (hg : W.grownBy W' tv.ownBlock) (ho : OwnT W' (b + 1) v' ((ts ++ [t]).map X.put)) : Rdx X b (W'.setCell ⟨b, 4, none⟩ v') p o v' (ts ++ [t]) wr er ∧ Below b W (W'.setCell ⟨b, 4, none⟩ v') := by
  have hsz := h.size
  have hrow : ∀ i, i < b + 1 → W'.heap[i]? = W.heap[i]? := fun i hi => hg.block i (by omega) (fun e => by have := (h.row.block i e.symm).1; omega)
  have hk : ∀ a : Addr, a.block < b → (W'.setCell ⟨b, 4, none⟩ v').cell? a = W.cell? a := fun a ha =>
    World.cell?_of_block (w := W) ((Below.heap_setCell _ _ _ _ (by show a.block ≠ b; omega)).trans (hrow _ (by omega)))
  have hb : W'.heap[b]? = _ := (hrow b (by omega)).trans h.blk
  refine ⟨⟨h.ok, by have := hg.size; simp; omega, h.chars.keep hk, h.places.keep hk, h.le, ?_, ho.set (by omega) _⟩, ⟨hg.os, hg.tape, hg.output, by have := hg.size; simp; omega, fun i hi => (Below.heap_setCell _ _ _ _ (by show i ≠ b; omega)).trans (hrow i (by omega))⟩⟩
  rw [heap_setCell_same _ _ _ _ _ _ hb]; rfl
/-- What put leaves. -/
def DPutP (X : Cx) (b : Nat) (w : World) (p o : Nat) (ts : List Tk) (wr er : Int) (e : Ending) (w' : World) : Prop := e = .returned (.tuple #[]) ∧ (∃ tv, Rdx X b w' p o tv ts wr er) ∧ Below b w w'
set_option maxHeartbeats 2000000 in
theorem dput_any (h : Rdx X b w p o tv ts wr er) (k lo hi pos0 : Int) (x : List Int) {i : Nat} (hi' : i ≤ X.nc) (hts : ts.length ≤ 3000) :
    Calls Tryz.prog 82 #[.pointer (some ⟨b, 0, none⟩), tokV k (strOfNums x) lo hi pos0, .int .i64 i] w (DPutP X b w p o (ts ++ [⟨k, x, lo, hi, i⟩]) wr er) := by
  have HH := Lib.hid h
  obtain ⟨n1, n2, n3⟩ := h.nc
  have hsz := h.size
  generalize hs : strOfNums x = s
  have HS := Lib.hid hs
  clear h hs
  unfold tokV
  have HB1 := Lib.hid (kbelow_push w (.cells #[.int .i64 k, .string s, .int .i64 lo, .int .i64 hi, .int .i64 pos0] 94))
  have hN := heap_alloc_new w (.cells #[.int .i64 k, .string s, .int .i64 lo, .int .i64 hi, .int .i64 pos0] 94)
  have HR1 := Lib.hid (HH.out.below HB1.out)
  have hz : (w.alloc (.cells #[.int .i64 k, .string s, .int .i64 lo, .int .i64 hi, .int .i64 pos0] 94)).heap.size = w.heap.size + 1 := by simp
  obtain ⟨c0, c1, c2, c3, c4, c5, c6⟩ := HR1.out.cells
  obtain ⟨b2, off, hA, hb2, hc⟩ := HR1.out.place hi'
  rw [hA] at c1
  have f4 : (w.alloc (.cells #[.int .i64 k, .string s, .int .i64 lo, .int .i64 hi, .int .i64 pos0] 94)).frozen? ⟨w.heap.size, 4, none⟩ = false := frozen_of_row _ _ _ _ _ hN
  have k4 : (w.alloc (.cells #[.int .i64 k, .string s, .int .i64 lo, .int .i64 hi, .int .i64 pos0] 94)).cell? ⟨w.heap.size, 4, none⟩ = some (.int .i64 pos0) := by rw [cell_of_row _ _ _ _ _ _ hN]; rfl
  have hnp : (i : Int) < (X.np : Int) := by omega
  have hp0 : (0 : Int) ≤ (i : Int) := by omega
  have hpb := HR1.out.pbd i
  generalize hpl : plc X.L i = pl at *
  have HPL := Lib.hid hpl
  have HN0 := Lib.hid hN
  clear hA hpl n3 n1 hN
  go_enter Tryz.func82, Tryz.ntmps82
  go_wp2_with fail
  clear c0 c1 c2 c3 c4 c5 c6 hc f4 k4 hnp hp0 HR1 HB1 hz HN0
  have HB2 := Lib.hid (kbelow_push w (.cells #[.int .i64 k, .string s, .int .i64 lo, .int .i64 hi, .int .i64 pl] 94))
  have hN2 := heap_alloc_new w (.cells #[.int .i64 k, .string s, .int .i64 lo, .int .i64 hi, .int .i64 pl] 94)
  have hz2 : (w.alloc (.cells #[.int .i64 k, .string s, .int .i64 lo, .int .i64 hi, .int .i64 pl] 94)).heap.size = w.heap.size + 1 := by simp
  generalize hW2 : w.alloc (.cells #[.int .i64 k, .string s, .int .i64 lo, .int .i64 hi, .int .i64 pl] 94) = W2 at *
  generalize hNN : w.heap.size = N at *
  have HNN := Lib.hid hNN
  clear hW2 hNN
  have hR2 := HH.out.below (by rw [HNN.out]; exact HB2.out)
  have c4 := hR2.cells.2.2.2.2.1
  have k0 : W2.cell? ⟨N, 0, none⟩ = some (.int .i64 k) := by rw [cell_of_row _ _ _ _ _ _ hN2]; rfl
  have k1 : W2.cell? ⟨N, 1, none⟩ = some (.string s) := by rw [cell_of_row _ _ _ _ _ _ hN2]; rfl
  have k2 : W2.cell? ⟨N, 2, none⟩ = some (.int .i64 lo) := by rw [cell_of_row _ _ _ _ _ _ hN2]; rfl
  have k3 : W2.cell? ⟨N, 3, none⟩ = some (.int .i64 hi) := by rw [cell_of_row _ _ _ _ _ _ hN2]; rfl
  have k4 : W2.cell? ⟨N, 4, none⟩ = some (.int .i64 pl) := by rw [cell_of_row _ _ _ _ _ _ hN2]; rfl
  have HR2 := Lib.hid hR2
  have hz2' := hz2
  clear hN2 hR2 hz2
  obtain ⟨i0, hi0, hz0, hz1, hz2⟩ := info_k info_tok
  have SS : HeldU b N tv k s lo hi pl W2.drew := ⟨c4, k0, k1, k2, k3, k4⟩
  have HSS := Lib.hid SS
  refine region_plain (HeldU b N tv k s lo hi pl) 10 11 (by kernel_rfl) rfl ?_
  refine Z_takeW 0 (v := .pointer (some ⟨b, 0, none⟩)) rfl (by kernel_rfl) (by kernel_rfl) (by kernel_rfl) (by kernel_rfl) (fun _ _ _ h => h) SS rfl (fun w' hS => ?_) ?_
  · obtain ⟨s0, s1, s2, s3, s4, s5⟩ := hS; go_simp
  refine Z_takeW 1 (v := .pointer (some ⟨b, 0, none⟩)) rfl (by kernel_rfl) (by kernel_rfl) (by kernel_rfl) (by kernel_rfl) (fun _ _ _ h => h) SS rfl (fun w' hS => ?_) ?_
  · obtain ⟨s0, s1, s2, s3, s4, s5⟩ := hS; go_simp
  refine Z_takeW 2 (v := .pointer (some ⟨b, 0, none⟩)) rfl (by kernel_rfl) (by kernel_rfl) (by kernel_rfl) (by kernel_rfl) (fun _ _ _ h => h) SS rfl (fun w' hS => ?_) ?_
  · obtain ⟨s0, s1, s2, s3, s4, s5⟩ := hS; go_simp
  refine Z_takeW 3 (v := .pointer (some ⟨b, 4, none⟩)) rfl (by kernel_rfl) (by kernel_rfl) (by kernel_rfl) (by kernel_rfl) (fun _ _ _ h => h) SS rfl (fun w' hS => ?_) ?_
  · obtain ⟨s0, s1, s2, s3, s4, s5⟩ := hS; go_simp
  refine Z_takeW 4 (v := tv) rfl (by kernel_rfl) (by kernel_rfl) (by kernel_rfl) (by kernel_rfl) (fun _ _ _ h => h) SS rfl (fun w' hS => ?_) ?_
  · obtain ⟨s0, s1, s2, s3, s4, s5⟩ := hS; go_simp
  refine Z_takeW 5 (v := .agg #[.int .i64 k, .string s, .int .i64 lo, .int .i64 hi, .int .i64 pl]) rfl (by kernel_rfl) (by kernel_rfl) (by kernel_rfl) (by kernel_rfl) (fun _ _ _ h => h) SS rfl (fun w' hS => ?_) ?_
  · obtain ⟨s0, s1, s2, s3, s4, s5⟩ := hS; go_simp
  refine Z_one 6 rfl (by kernel_rfl) rfl ?_
  go_simp
  generalize hW3 : (W2.alloc (.cells #[.int .i64 k, .string s, .int .i64 lo, .int .i64 hi, .int .i64 pl] 94)).drew = W3
  have hB3 : Below W2.heap.size W2 W3 := by rw [← hW3]; exact (kbelow_push W2 _).drew
  have hN3 : W3.heap[N + 1]? = some (.cells #[.int .i64 k, .string s, .int .i64 lo, .int .i64 hi, .int .i64 pl] 94 (0, 0)) := by
    rw [← hW3, ← hz2']; exact heap_alloc_new W2 _
  have HR3 := Lib.hid (HR2.out.below hB3)
  have HS3 : Hid (HeldU b N tv k s lo hi pl W3) := HSS.out.keep (hB3.block b (by omega)) (hB3.block N (by omega))
  have HB3 := Lib.hid (HB2.out.trans (hB3.mono (by omega)))
  clear hW3
  refine ⟨HS3.out, ?_⟩
  refine Z_one 7 rfl (by kernel_rfl) rfl ?_
  refine app_wp (.tmp 18) (.tmp 20) 38 rfl (b + 1) 94 i0 _ 5 48 Tryz.underlying38 hi0 hz0 hz1 hz2 rfl (by decide) tv (ts.map X.put).length (cellsP (ts.map X.put)) rfl HR3.out.row ⟨N + 1, 0, none⟩ 1 1 (Tok.cells ⟨k, x, lo, hi, pl⟩) (by rw [← hz2']; rfl) rfl ?_ ?_ (by rw [List.length_map]; unfold maxLen; omega) (by rw [List.length_map]; omega) (by have := HR3.out.size; omega) ?_
  · intro j u hu
    rw [kadd_none, cell_of_row _ _ _ _ _ _ hN3, Nat.zero_add]
    simp only [Tok.cells, HS.out] at hu
    simpa using hu
  · exact fun u hu => cellsP_one [(⟨k, x, lo, hi, pl⟩ : Tok)] u (by simpa [cellsP] using hu)
  intro v' w4 hown hgr _
  have ho4 : OwnT w4 (b + 1) v' ((ts ++ [(⟨k, x, lo, hi, i⟩ : Tk)]).map X.put) := by
    unfold OwnT
    have e : (ts ++ [(⟨k, x, lo, hi, i⟩ : Tk)]).map X.put = ts.map X.put ++ [⟨k, x, lo, hi, pl⟩] := by rw [List.map_append, ← HPL.out]; rfl
    rw [e, cellsP_app, List.length_append, show cellsP [(⟨k, x, lo, hi, pl⟩ : Tok)] = Tok.cells ⟨k, x, lo, hi, pl⟩ by simp [cellsP]]
    exact hown
  obtain ⟨A4, c4', hv4, _⟩ := ho4.rd
  subst hv4
  have hlen4 : ((ts ++ [(⟨k, x, lo, hi, i⟩ : Tk)]).map X.put).length = ts.length + 1 := by simp
  rw [hlen4] at ho4
  have HG := Lib.hid (HR3.out.grow hgr ho4)
  have hrow : ∀ j, j < b + 1 → w4.heap[j]? = W3.heap[j]? := fun j hj => hgr.block j (by have := HR3.out.size; omega) (fun e => by have := (HR3.out.row.block j e.symm).1; omega)
  have hb4 := (hrow b (by omega)).trans HR3.out.blk
  have c54 : w4.cell? ⟨b, 4, none⟩ = some tv := by rw [cell_of_row _ _ _ _ _ _ hb4]; rfl
  have f54 : w4.frozen? ⟨b, 4, none⟩ = false := frozen_of_row _ _ _ _ _ hb4
  have hN4 : w4.heap[N]? = W3.heap[N]? := hgr.block N (by have := hB3.size; omega) (fun e => by have := (HH.out.row.block N e.symm).2; have := HNN.out; omega)
  have HS4 : Hid (HeldU b N tv k s lo hi pl w4) := HS3.out.keep (hrow b (by omega)) hN4
  clear hown hgr ho4 hrow hb4 hN3 hN4
  refine ⟨fun _ => HS4.out, ?_⟩
  refine Z_one 8 rfl (by kernel_rfl) rfl ?_
  go_simp
  refine ⟨HS4.out, ?_⟩
  refine Z_one 9 rfl (by kernel_rfl) rfl ?_
  go_simp
  refine ⟨HS4.out, ?_⟩
  refine Z_one 10 rfl (by kernel_rfl) rfl ?_
  go_simp
  refine Z_done (by kernel_rfl) ?_
  unfold OnlyN
  simp only []
  have HE : Hid (DPutP X b w p o (ts ++ [⟨k, x, lo, hi, i⟩]) wr er (.returned (.tuple #[])) (w4.setCell ⟨b, 4, none⟩ (.slice A4 (ts.length + 1) c4'))) := ⟨rfl, ⟨_, HG.out.1⟩, (HB3.out.mono (by omega)).trans HG.out.2⟩
  go_wp2_with fail
  exact bodyPost_ret (v := .tuple #[]) (by simp [results, Tryz.results82, go_sem]) rfl HE.out
end
end Go.Proofs.YtmohefgdpddldaaGreatDoor
namespace Go.Proofs.YtmohefgdpddldaaGreatDoor
open Go.RowKit
open W (Tk St dgB ltB opn)

theorem dletter_any (c : Int) (w : World) : Calls Tryz.prog 73 #[.int .i64 c] w fun e w' => e = .returned (.bool (ltB c)) ∧ w = w' := by
  go_enter Tryz.func73, Tryz.ntmps73
  go_wp2
  all_goals
    go_ret
    refine ⟨ret_bool ?_, rfl⟩
    rw [Bool.eq_iff_iff]
    simp [ltB]
    try omega
theorem ddigit_any (c : Int) (w : World) : Calls Tryz.prog 87 #[.int .i64 c] w fun e w' => e = .returned (.bool (dgB c)) ∧ w = w' := by
  go_enter Tryz.func87, Tryz.ntmps87
  go_wp2
  all_goals
    go_ret
    refine ⟨ret_bool ?_, rfl⟩
    rw [Bool.eq_iff_iff]
    simp [dgB]
    try omega
/-- What a method of the document's lexer leaves that reads a token. -/
def StepD (X : Cx) (b : Nat) (w : World) (p o : Nat) (ts : List Tk) (wr : Int) (r : St) (e : Ending) (w' : World) : Prop :=
  e = .returned (.tuple #[]) ∧ Below b w w' ∧ match r with
  | .tok k x lo hi m => ∃ tv, Rdx X b w' (p + m + 1) (opn k o) tv (ts ++ [⟨k, x, lo, hi, p⟩]) wr 0
  | .skip m => ∃ tv, Rdx X b w' (p + m + 1) o tv ts wr 0
  | .bad k er => ∃ p' o' tv ts', Rdx X b w' p' o' tv ts' (plc X.L (p + k) : Nat) er
end Go.Proofs.YtmohefgdpddldaaGreatDoor
namespace Go.Proofs.YtmohefgdpddldaaGreatDoor
namespace W

theorem valN_nil : ∀ (k : Nat) (n : Int), valN [] k (n * 10) = valN [] k n * 10
  | 0, n => rfl
  | k + 1, n => by rw [valN, valN, valN_nil k (n * 10)]
theorem valN_snoc : ∀ (l : List Int) (c n : Int), valN (l ++ [c]) (l.length + 1) n = valN l l.length n * 10 + (c - 48)
  | [], c, n => rfl
  | d :: t, c, n => by rw [List.cons_append, List.length_cons, valN, valN]; exact valN_snoc t c _
theorem valN_more : ∀ (l : List Int) (k : Nat) (n : Int), l.length ≤ k → valN l (k + 1) n = valN l k n * 10
  | [], k, n, _ => by rw [valN]; exact valN_nil k n
  | c :: t, 0, n, h => by simp at h
  | c :: t, k + 1, n, h => by rw [valN, valN]; exact valN_more t k _ (by simpa using h)
/-- What the first k digits are worth, as long as it is small. -/
def Dg (l : List Int) (k : Nat) (v : Int) : Prop := 0 ≤ v ∧ v ≤ 100000 ∧ (k = 0 → v = 0) ∧ (k ≤ 1 → v ≤ 9) ∧ (k ≤ 2 → v ≤ 99) ∧ (k ≤ 3 → v = valN (l.take k) k 0)
theorem Dg.zero (l : List Int) : Dg l 0 0 := ⟨by decide, by decide, fun _ => rfl, fun _ => by decide, fun _ => by decide, fun _ => rfl⟩
theorem Dg.step {l : List Int} {k : Nat} {v c : Int} (h : Dg l k v) (hc : l[k]? = some c) (hd : dgB c = true) : Dg l (k + 1) (min 100000 (v * 10 + c - 48)) := by
  obtain ⟨h0, h1, h2, h3, h4, h5⟩ := h
  unfold dgB at hd
  rw [decide_eq_true_eq] at hd
  refine ⟨by omega, by omega, fun h => by omega, fun h => by have := h2 (by omega); omega, fun h => by have := h3 (by omega); omega, fun h => ?_⟩
  have hk : (l.take k).length = k := by rw [List.length_take]; have := (List.getElem?_eq_some_iff.1 hc).1; omega
  have e := valN_snoc (l.take k) c 0
  rw [hk] at e
  rw [List.take_add_one, hc]
  show _ = valN (l.take k ++ [c]) (k + 1) 0
  rw [e, ← h5 (by omega)]
  have := h4 (by omega)
  omega
theorem many_mono {p q : Int → Bool} (h : ∀ c, p c = true → q c = true) : ∀ (l : List Int), many p l ≤ many q l
  | [] => Nat.le_refl _
  | c :: t => by
    cases hp : p c with
    | true => rw [many_cons hp, many_cons (h c hp)]; have := many_mono h t; omega
    | false => rw [many_stop hp]; exact Nat.zero_le _
/-- A number, of what its digits are worth. -/
theorem num_is {d : List Int} {m p : Nat} {v r : Int} (hm : many dgB d = m) (h1 : 1 ≤ m) (h0 : ¬ (1 < m ∧ d[0]? = some 48)) (hp : partN d = p) (hv : m ≤ 3 → v = valN (d.take m) m 0) (hr : p ≤ 3 → r = valN ((d.drop (m + 1)).take p) 3 0) :
    numB d = if 3 < m ∨ 3 < p then (0, 0, 2) else (v * 1000 + r, if 0 < p then m + 1 + p else m, 0) := by
  unfold numB
  rw [hm, hp, if_neg (by rintro (h | h); omega; exact h0 h)]
  by_cases hl : 3 < m ∨ 3 < p
  · rw [if_pos hl, if_pos hl]
  · rw [if_neg hl, if_neg hl, hv (by omega), hr (by omega)]
theorem num_nought {d : List Int} {m : Nat} (hm : many dgB d = m) (h0 : 1 < m ∧ d[0]? = some 48) : numB d = (0, 0, 4) := by
  unfold numB
  rw [hm, if_pos (.inr h0)]
theorem num_none {d : List Int} (hm : many dgB d = 0) : numB d = (0, 0, 4) := by
  unfold numB
  rw [hm, if_pos (.inl rfl)]
theorem part_none {d : List Int} {m : Nat} (hm : many dgB d = m) (h : d[m]? ≠ some 46 ∨ many dgB (d.drop (m + 1)) = 0) : partN d = 0 := by
  unfold partN
  rw [hm]
  split
  · rcases h with h | h
    · contradiction
    · exact h
  · rfl
theorem part_is {d : List Int} {m : Nat} (hm : many dgB d = m) (h : d[m]? = some 46) : partN d = many dgB (d.drop (m + 1)) := by
  unfold partN
  rw [hm, if_pos h]
/-- What a note allows, by its small letters. -/
theorem allow_is {l : List Int} {k : Nat} (hk : many smB l = k) :
    allowB l = if lettersB (l.take k) = true ∧ (k = l.length ∨ l[k]? = some 32 ∧ (numB (l.drop (k + 1))).2.2 = 0 ∧ (numB (l.drop (k + 1))).2.1 = (l.drop (k + 1)).length) then some (l.take k, if k = l.length then -1 else (numB (l.drop (k + 1))).1) else none := by
  have hmono : many smB l ≤ many noBl l := many_mono (fun c h => by
    unfold smB at h; rw [decide_eq_true_eq] at h
    unfold noBl; rw [decide_eq_true_eq]; omega) l
  rw [hk] at hmono
  have htw : l.takeWhile noBl = l.take (many noBl l) := (take_many noBl l).symm
  have hle := many_le noBl l
  unfold allowB
  rw [htw]
  rcases Nat.lt_or_ge k (many noBl l) with hlt | hge
  · have hlen : k < l.length := by omega
    have hg : l[k]? = some (l[k]'hlen) := List.getElem?_eq_getElem hlen
    have h1 : smB (l[k]'hlen) = false := many_end (p := smB) (l := l) (by rw [hk]; exact hg)
    have h2 : noBl (l[k]'hlen) = true := many_all hlt hg
    have h3 : ¬ lettersB (l.take (many noBl l)) = true := fun h => by
      unfold lettersB at h
      rw [Bool.and_eq_true, Bool.and_eq_true] at h
      have := List.all_eq_true.1 h.1.1 (l[k]'hlen) (List.mem_of_getElem? (by rw [List.getElem?_take_of_lt hlt]; exact hg))
      rw [h1] at this
      cases this
    rw [if_neg h3, if_neg]
    rintro ⟨_, h | h⟩
    · omega
    · rw [hg] at h
      have := Option.some.inj h.1
      unfold noBl at h2
      rw [decide_eq_true_eq] at h2
      omega
  · have e : many noBl l = k := by omega
    rw [e]
    by_cases hl : lettersB (l.take k) = true
    · rw [if_pos hl]
      by_cases hn : k = l.length
      · rw [if_pos hn, if_pos ⟨hl, .inl hn⟩, if_pos hn]
      · have hlen : k < l.length := by omega
        have hg : l[k]? = some (l[k]'hlen) := List.getElem?_eq_getElem hlen
        have h1 : noBl (l[k]'hlen) = false := many_end (p := noBl) (l := l) (by rw [e]; exact hg)
        have h32 : l[k]? = some 32 := by
          unfold noBl at h1
          rw [decide_eq_false_iff_not] at h1
          rw [hg]
          exact congrArg some (by omega)
        rw [if_neg hn, if_neg hn]
        by_cases h2 : (numB (l.drop (k + 1))).2.2 = 0 ∧ (numB (l.drop (k + 1))).2.1 = (l.drop (k + 1)).length
        · rw [if_pos h2, if_pos ⟨hl, .inr ⟨h32, h2⟩⟩]
        · rw [if_neg h2, if_neg]
          rintro ⟨_, h | h⟩
          · exact hn h
          · exact h2 h.2
    · rw [if_neg hl, if_neg (fun h => hl h.1)]
end W
end Go.Proofs.YtmohefgdpddldaaGreatDoor
namespace Go.Proofs.YtmohefgdpddldaaGreatDoor
open Go.RowKit
open W (Tk St dgB ltB opn many numB partN valN Dg)

/-- Characters, as a text of bytes. -/
theorem dtext_any {w : World} {B : Nat} {A : Option Addr} {n c : Nat} {L : List Int} (h : RdK .i64 w B A n c L) (hB : B ≤ w.heap.size) (hn : n ≤ 4000) (hs : ∀ x ∈ L, 0 ≤ x ∧ x < 128) :
    Calls Tryz.prog 109 #[.slice A n c] w fun e w' => e = .returned (.string (strOfNums L)) ∧ Below w.heap.size w w' := by
  have HH := Lib.hid h
  have HS := Lib.hid hs
  have HL := Lib.hid h.len
  clear h hs
  go_enter Tryz.func109, Tryz.ntmps109
  go_wp2_with fail
  go_loopw [3, 4] (fun sv iv wx => ∃ i : Nat, i ≤ n ∧ sv = .string (strOfNums (L.take i)) ∧ iv = .int .i64 i ∧ Hid (Below w.heap.size w wx)) (fun _ iv _ => n - (intOf iv).toNat)
  case atStart => exact ⟨0, by omega, by rw [List.take_zero]; rfl, rfl, Below.refl _ _⟩
  case round =>
    obtain ⟨i, hi, rfl, rfl, HB⟩ := hrel
    by_cases hlt : i < n
    · have HR := Lib.hid (HH.out.keep (fun p hp => HB.out.cell (p := p) (by omega)))
      obtain ⟨b, off, x, rfl, hbl, hx, hc⟩ := HR.out.got hlt
      have hx0 := (HS.out x (List.mem_of_getElem? hx)).1
      have hx1 := (HS.out x (List.mem_of_getElem? hx)).2
      have q1 : (convert 41 9 (.slice (some ⟨wr.heap.size, 0, none⟩) 1 1)).run Tryz.prog (wr.alloc (.cells #[.int .u8 x] 5)) = .ok (.string (strOfNums [x])) (wr.alloc (.cells #[.int .u8 x] 5)) :=
        conv_any (rd_lit_k wr wr.heap.size rfl .u8 [x] 5 _ rfl (by simp)) _ 5 _ Tryz.underlying41 Tryz.underlying5 Tryz.underlying9
      have hlt4 : (L.take i).length = i := by rw [List.length_take, HL.out]; omega
      have q2 := run_str_add (P := Tryz.prog) (L.take i) [x] (wr.alloc (.cells #[.int .u8 x] 5)) (by rw [hlt4]; simp; omega)
      have HT : Hid (L.take (i + 1) = L.take i ++ [x]) := by show _ = _; rw [List.take_add_one, hx]; rfl
      have HB2 := Lib.hid (HB.out.trans ((kbelow_push wr (.cells #[.int .u8 x] 5)).mono HB.out.size))
      clear hx HR HB hlt4
      go_wp2_with fail
      go_roundw
      case rel => exact ⟨i + 1, by omega, by rw [HT.out], by go_num, HB2.out⟩
      case measure => simp [intOf]; omega
    · obtain rfl : i = n := by omega
      have HE : Hid (L.take i = L) := List.take_of_length_le (by rw [HL.out]; exact Nat.le_refl _)
      go_wp2_with fail
      go_ret
      exact ⟨congrArg (fun s => Ending.returned (.string (strOfNums s))) HE.out, HB.out⟩
theorem dascii_any {w : World} {B : Nat} {A : Option Addr} {n c : Nat} {L : List Int} (h : RdK .i64 w B A n c L) (hn : n ≤ 4000) :
    Calls Tryz.prog 111 #[.slice A n c] w fun e w' => e = .returned (.bool (L.all fun x => decide (x < 128))) ∧ w = w' := by
  have HH := Lib.hid h
  have HL := Lib.hid h.len
  clear h
  go_enter Tryz.func111, Tryz.ntmps111
  go_wp2_with fail
  go_loopw [3] (fun iv wx => ∃ i : Nat, i ≤ n ∧ iv = .int .i64 i ∧ w = wx ∧ Hid (∀ j y, j < i → L[j]? = some y → y < 128)) (fun iv _ => n - (intOf iv).toNat)
  case atStart => exact ⟨0, by omega, rfl, by trivial, fun j y hj => by omega⟩
  case round =>
    obtain ⟨i, hi, rfl, rfl, HA⟩ := hrel
    by_cases hlt : i < n
    · obtain ⟨b, off, x, rfl, hbl, hx, hc⟩ := HH.out.got hlt
      have HX := Lib.hid hx
      clear hx
      by_cases h1 : 128 ≤ x
      · have HF : Hid ((L.all fun x => decide (x < 128)) = false) := by
          show _ = _
          rw [← Bool.not_eq_true]
          intro h
          have := List.all_eq_true.1 h x (List.mem_of_getElem? HX.out)
          rw [decide_eq_true_eq] at this
          omega
        go_wp2_with fail
        go_ret
        exact ⟨ret_bool HF.out.symm, rfl⟩
      · have HA2 : Hid (∀ j y, j < i + 1 → L[j]? = some y → y < 128) := fun j y hj hy => by
          rcases Nat.lt_or_ge j i with h2 | h2
          · exact HA.out j y h2 hy
          · obtain rfl : j = i := by omega
            rw [HX.out] at hy; injection hy with hy; omega
        clear HA
        go_wp2_with fail
        go_roundw
        case rel => exact ⟨i + 1, by omega, by go_num, by trivial, HA2.out⟩
        case measure => simp [intOf]; omega
    · obtain rfl : i = n := by omega
      have HF : Hid ((L.all fun x => decide (x < 128)) = true) := by
        show _ = _
        rw [List.all_eq_true]
        intro x hx
        obtain ⟨j, hj, e⟩ := List.getElem_of_mem hx
        rw [decide_eq_true_eq]
        exact HA.out j x (by rw [← HL.out]; exact hj) (by rw [List.getElem?_eq_getElem hj, e])
      go_wp2_with fail
      go_ret
      exact ⟨ret_bool HF.out.symm, rfl⟩
/-- What number answers. -/
def DNumP (w : World) (n f : Nat) (r : Int × Nat × Int) (e : Ending) (w' : World) : Prop :=
  w = w' ∧ ∃ (x : Int) (t : Nat), e = .returned (.tuple #[.int .i64 x, .int .i64 t, .int .i64 r.2.2]) ∧ t ≤ n ∧ (r.2.2 = 0 → x = r.1 ∧ t = f + r.2.1)
/-- The run of digits that a loop has gone through. -/
def Run (L : List Int) (f t : Nat) : Prop := ∀ j y, f ≤ j → j < t → L[j]? = some y → dgB y = true
theorem Run.zero (L : List Int) (f : Nat) : Run L f f := fun j y h1 h2 => by omega
theorem Run.step {L : List Int} {f t : Nat} {x : Int} (h : Run L f t) (hx : L[t]? = some x) (hd : dgB x = true) : Run L f (t + 1) := fun j y h1 h2 hy => by
  rcases Nat.lt_or_ge j t with h3 | h3
  · exact h j y h1 h3 hy
  · obtain rfl : j = t := by omega
    rw [hx] at hy; injection hy with hy; subst hy; exact hd
theorem Run.many {L : List Int} {f t : Nat} (h : Run L f t) (hft : f ≤ t) (ht : t ≤ L.length) (he : ∀ x, L[t]? = some x → dgB x = false) : many dgB (L.drop f) = t - f := by
  refine W.many_at (fun j y hj hy => h (f + j) y (by omega) (by omega) (by rwa [List.getElem?_drop] at hy)) (by rw [List.length_drop]; omega) fun x hx => he x ?_
  rw [List.getElem?_drop] at hx
  rwa [show f + (t - f) = t by omega] at hx
theorem dnum_end {w : World} {n f : Nat} {r : Int × Nat × Int} {L : List Int} {t p t' : Nat} {v rr : Int} (hr : numB (L.drop f) = r) (hm : many dgB (L.drop f) = t - f) (h1 : f + 1 ≤ t) (hn : ¬ (1 < t - f ∧ (L.drop f)[0]? = some 48)) (hp : partN (L.drop f) = p) (hv : Dg (L.drop f) (t - f) v)
    (hrr : p ≤ 3 → rr = valN ((L.drop (t + 1)).take p) 3 0) (ht' : t' = if 0 < p then t + 1 + p else t) (htn : t' ≤ n) :
    (3 < t - f ∨ 3 < p → DNumP w n f r (.returned (.tuple #[.int .i64 0, .int .i64 t', .int .i64 2])) w) ∧ (¬ (3 < t - f ∨ 3 < p) → DNumP w n f r (.returned (.tuple #[.int .i64 (v * 1000 + rr), .int .i64 t', .int .i64 0])) w) := by
  have hdd : (L.drop f).drop (t - f + 1) = L.drop (t + 1) := by rw [List.drop_drop, show f + (t - f + 1) = t + 1 by omega]
  have e := W.num_is hm (by omega) hn hp (fun h => hv.2.2.2.2.2 h) (r := rr) (fun h => by rw [hdd]; exact hrr h)
  rw [hr] at e
  constructor
  · intro hl
    rw [if_pos hl] at e
    subst e
    exact ⟨rfl, 0, t', rfl, htn, fun h => by cases h⟩
  · intro hl
    rw [if_neg hl] at e
    subst e
    refine ⟨rfl, _, t', rfl, htn, fun _ => ⟨rfl, ?_⟩⟩
    rw [ht']
    show (if 0 < p then t + 1 + p else t) = f + (if 0 < p then t - f + 1 + p else t - f)
    split <;> omega
theorem part_dot {L : List Int} {f t p : Nat} (hft : f ≤ t) (hm : many dgB (L.drop f) = t - f) (h46 : L[t]? = some 46) (hp : many dgB (L.drop (t + 1)) = p) : partN (L.drop f) = p := by
  have := W.part_is hm (by rw [List.getElem?_drop, show f + (t - f) = t by omega]; exact h46)
  rw [this, List.drop_drop, show f + (t - f + 1) = t + 1 by omega, hp]
theorem part_no {L : List Int} {f t : Nat} (hft : f ≤ t) (hm : many dgB (L.drop f) = t - f) (h : L[t]? ≠ some 46 ∨ many dgB (L.drop (t + 1)) = 0) : partN (L.drop f) = 0 := by
  refine W.part_none hm ?_
  rw [List.getElem?_drop, show f + (t - f) = t by omega, List.drop_drop, show f + (t - f + 1) = t + 1 by omega]
  exact h
theorem digit_bd {x : Int} (h : dgB x = true) : 48 ≤ x ∧ x ≤ 57 := by unfold W.dgB at h; exact of_decide_eq_true h
set_option maxHeartbeats 4000000 in
theorem dnumber_any {w : World} {B : Nat} {A : Option Addr} {n c : Nat} {L : List Int} (h : RdK .i64 w B A n c L) (hn : n ≤ 4000) {f : Nat} {c0 : Int} (hf : L[f]? = some c0) (hd0 : dgB c0 = true) :
    Calls Tryz.prog 88 #[.slice A n c, .int .i64 f] w (DNumP w n f (numB (L.drop f))) := by
  have HH := Lib.hid h
  have HL := Lib.hid h.len
  have hfn : f < n := by have := (List.getElem?_eq_some_iff.1 hf).1; have := h.len; omega
  have HF := Lib.hid hf
  have HD0 := Lib.hid hd0
  obtain ⟨bA, oA, y0, hA, hbA, hy0, hc0⟩ := h.got hfn
  subst hA
  obtain rfl : c0 = y0 := by rw [hf] at hy0; exact Option.some.inj hy0
  generalize hr : numB (L.drop f) = r
  have HR := Lib.hid hr
  clear h hf hd0 hy0 hr
  go_enter Tryz.func88, Tryz.ntmps88
  go_wp2_with fail
  go_loopw [7, 8] (fun tv nv wx => ∃ (t : Nat) (v : Int), f ≤ t ∧ t ≤ n ∧ tv = .int .i64 t ∧ nv = .int .i64 v ∧ 0 ≤ v ∧ v ≤ 100000 ∧ w = wx ∧ Hid (Dg (L.drop f) (t - f) v) ∧ Hid (Run L f t)) (fun tv _ _ => n - (intOf tv).toNat)
  case atStart => exact ⟨f, 0, by omega, by omega, rfl, rfl, by omega, by omega, by trivial, by rw [Nat.sub_self]; exact Dg.zero _, Run.zero _ _⟩
  case round =>
    obtain ⟨t, v, hft, htn, rfl, rfl, hv0, hv1, rfl, HG, HU⟩ := hrel
    by_cases hlt : t < n
    · obtain ⟨b1, o1, x, hA, hbl, hx, hc⟩ := HH.out.got hlt
      injection hA with hA; injection hA with e1 e2 _; subst e1 e2
      have HX := Lib.hid hx
      clear hx hbl
      cases hd : dgB x with
      | true =>
        obtain ⟨hx0, hx1⟩ := digit_bd hd
        have HG2 : Hid (Dg (L.drop f) (t + 1 - f) (min 100000 (v * 10 + x - 48))) := by
          have := HG.out.step (c := x) (by rw [List.getElem?_drop, show f + (t - f) = t by omega]; exact HX.out) hd
          rwa [show t - f + 1 = t + 1 - f by omega] at this
        have HU2 := Lib.hid (HU.out.step HX.out hd)
        have hm0 : 0 ≤ (min 100000 (v * 10 + x - 48)) := by omega
        have hm1 : (min 100000 (v * 10 + x - 48)) ≤ 100000 := by omega
        have HC := ddigit_any x w
        rw [hd] at HC
        clear HG HU hd
        go_wp2_with fail
        refine HC.mono ?_
        rintro e w1 ⟨rfl, rfl⟩
        clear HC
        go_wp2_with fail
        go_roundw
        case rel => exact ⟨t + 1, _, by omega, by omega, by go_num, rfl, hm0, hm1, by trivial, HG2.out, HU2.out⟩
        case measure => simp [intOf]; omega
      | false =>
        have HM : Hid (many dgB (L.drop f) = t - f) := HU.out.many hft (by rw [HL.out]; exact htn) (fun y hy => by rw [HX.out] at hy; injection hy with hy; subst hy; exact hd)
        have HC := ddigit_any x w
        rw [hd] at HC
        go_wp2_with fail
        refine HC.mono ?_
        rintro e w1 ⟨rfl, rfl⟩
        clear HC hd
        as_aux_lemma =>
        have h1t : f + 1 ≤ t := by
          rcases Nat.lt_or_ge f t with h | h
          · exact h
          · have e : f = t := by omega
            have h2 := HM.out
            rw [e, Nat.sub_self] at h2
            have h3 := W.many_cons HD0.out (L.drop (f + 1))
            have h4 : L.drop f = c0 :: L.drop (f + 1) := by
              obtain ⟨h5, h6⟩ := List.getElem?_eq_some_iff.1 HF.out
              rw [List.drop_eq_getElem_cons h5, h6]
            rw [← h4, e, h2] at h3
            omega
        by_cases hz : c0 = 48 ∧ f + 1 < t
        · obtain ⟨hz1, hz2⟩ := hz
          have HE : Hid (DNumP w n f r (.returned (.tuple #[.int .i64 0, .int .i64 t, .int .i64 4])) w) := by
            have := W.num_nought HM.out ⟨by omega, by rw [List.getElem?_drop, Nat.add_zero, HF.out, hz1]⟩
            rw [← HR.out, this]
            exact ⟨rfl, 0, t, rfl, htn, fun h => by cases h⟩
          subst hz1
          clear HG HU HM
          go_wp2_with fail
          exact bodyPost_ret (v := .tuple #[.int .i64 0, .int .i64 t, .int .i64 4]) (by simp [results, Tryz.results88, go_sem]) rfl HE.out
        · have HN : Hid (¬ (1 < t - f ∧ (L.drop f)[0]? = some 48)) := fun h => hz ⟨by have := h.2; rw [List.getElem?_drop, Nat.add_zero, HF.out] at this; exact Option.some.inj this, by omega⟩
          have hgo : (c0 == 48) = false ∨ (c0 == 48) = true ∧ ¬ (f + 1 < t) := by
            by_cases h : c0 = 48
            · exact .inr ⟨by simp [h], fun h2 => hz ⟨h, h2⟩⟩
            · exact .inl (by simp [h])
          clear hz
          go_upto_region 6 with fail
          go_cut [46] (fun v wx => v = .bool false ∧ w = wx)
          case first =>
            rcases hgo with g | ⟨g, g2⟩
            · go_wp2_with fail
              go_meet
              exact ⟨rfl, rfl⟩
            · go_wp2_with fail
              go_meet
              exact ⟨by rw [show decide ((f : Int) + 1 < (t : Int)) = false by simp; omega], rfl⟩
          case rest =>
            obtain ⟨rfl, rfl⟩ := hcut
            clear hgo
            try clear hc
            clear hc0
            by_cases hk3 : 3 < t - f
            · have hk3i : (3 : Int) < (t : Int) - (f : Int) := by omega
              by_cases ht1 : t + 1 < n
              · obtain ⟨b1, o1, x, hA, hbl, hx, hcx⟩ := HH.out.got (j := t) (by omega)
                injection hA with hA; injection hA with e1 e2 _; subst e1 e2
                obtain ⟨b1, o1, y, hA, hbl', hy, hcy⟩ := HH.out.got ht1
                injection hA with hA; injection hA with e1 e2 _; subst e1 e2
                have HX := Lib.hid hx
                have HY := Lib.hid hy
                clear hx hy hbl hbl'
                by_cases h46 : x = 46
                · subst h46
                  cases hd : dgB y with
                  | true =>
                    have HDY := Lib.hid hd
                    obtain ⟨hy0, hy1⟩ := digit_bd hd
                    have HC := ddigit_any y w
                    rw [hd] at HC
                    clear hd
                    go_wp2_with fail
                    refine HC.mono ?_
                    rintro e w1 ⟨rfl, rfl⟩
                    clear HC
                    go_wp2_with fail
                    go_loopw [7, 10] (fun tv nv wx => ∃ (t2 : Nat) (R : Int), t + 1 ≤ t2 ∧ t2 ≤ n ∧ tv = .int .i64 t2 ∧ nv = .int .i64 R ∧ 0 ≤ R ∧ R ≤ 100000 ∧ w = wx ∧ Hid (Dg (L.drop (t + 1)) (t2 - (t + 1)) R) ∧ Hid (Run L (t + 1) t2)) (fun tv _ _ => n - (intOf tv).toNat)
                    case atStart => exact ⟨t + 1, 0, by omega, by omega, by go_num, rfl, by omega, by omega, by trivial, by rw [Nat.sub_self]; exact Dg.zero _, Run.zero _ _⟩
                    case round =>
                      obtain ⟨t2, R, htt2, htn2, rfl, rfl, hR0, hR1, rfl, HG2, HU2⟩ := hrel
                      clear hcx hcy
                      by_cases hlt2 : t2 < n
                      · obtain ⟨b1, o1, z, hA, hbl, hz, hcz⟩ := HH.out.got hlt2
                        injection hA with hA; injection hA with e1 e2 _; subst e1 e2
                        have HZ := Lib.hid hz
                        clear hz hbl
                        cases hd : dgB z with
                        | true =>
                          obtain ⟨hz0, hz1⟩ := digit_bd hd
                          have HG3 : Hid (Dg (L.drop (t + 1)) (t2 + 1 - (t + 1)) (min 100000 (R * 10 + z - 48))) := by
                            have := HG2.out.step (c := z) (by rw [List.getElem?_drop, show t + 1 + (t2 - (t + 1)) = t2 by omega]; exact HZ.out) hd
                            rwa [show t2 - (t + 1) + 1 = t2 + 1 - (t + 1) by omega] at this
                          have HU3 := Lib.hid (HU2.out.step HZ.out hd)
                          have hm0 : 0 ≤ (min 100000 (R * 10 + z - 48)) := by omega
                          have hm1 : (min 100000 (R * 10 + z - 48)) ≤ 100000 := by omega
                          have HC := ddigit_any z w
                          rw [hd] at HC
                          clear HG2 HU2 hd
                          go_wp2_with fail
                          refine HC.mono ?_
                          rintro e w1 ⟨rfl, rfl⟩
                          clear HC
                          go_wp2_with fail
                          go_roundw
                          case rel => exact ⟨t2 + 1, _, by omega, by omega, by go_num, rfl, hm0, hm1, by trivial, HG3.out, HU3.out⟩
                          case measure => simp [intOf]; omega
                        | false =>
                          have HM2 : Hid (many dgB (L.drop (t + 1)) = t2 - (t + 1)) := HU2.out.many htt2 (by rw [HL.out]; exact htn2) (fun y hy => by rw [HZ.out] at hy; injection hy with hy; subst hy; exact hd)
                          have HC := ddigit_any z w
                          rw [hd] at HC
                          go_wp2_with fail
                          refine HC.mono ?_
                          rintro e w1 ⟨rfl, rfl⟩
                          clear HC hd
                          have hp1 : 1 ≤ t2 - (t + 1) := by
                            have h2 := HM2.out
                            have h3 := W.many_cons HDY.out (L.drop (t + 2))
                            have h4 : L.drop (t + 1) = y :: L.drop (t + 2) := by
                              obtain ⟨h5, h6⟩ := List.getElem?_eq_some_iff.1 HY.out
                              rw [List.drop_eq_getElem_cons h5, h6]
                            rw [← h4, h2] at h3
                            omega
                          obtain ⟨p, hp⟩ : ∃ p : Nat, p = t2 - (t + 1) := ⟨_, rfl⟩
                          have hpt : (t2 : Int) = (t : Int) + 1 + (p : Int) := by omega
                          have HPP : Hid (partN (L.drop f) = p) := part_dot hft HM.out HX.out (by rw [HM2.out, hp])
                          have hE : ∀ rr : Int, (p ≤ 3 → rr = valN ((L.drop (t + 1)).take p) 3 0) → _ := fun rr h => dnum_end (w := w) (n := n) (t' := t2) HR.out HM.out h1t HN.out HPP.out HG.out h (by rw [if_pos (by omega)]; omega) htn2
                          have HEL : Hid (3 < t - f ∨ 3 < p → DNumP w n f r (.returned (.tuple #[.int .i64 0, .int .i64 t2, .int .i64 2])) w) := fun h => (hE (valN ((L.drop (t + 1)).take p) 3 0) (fun _ => rfl)).1 h
                          have HEO : Hid (∀ R2 : Int, R2 = valN ((L.drop (t + 1)).take p) 3 0 → ¬ (3 < t - f ∨ 3 < p) → DNumP w n f r (.returned (.tuple #[.int .i64 (v * 1000 + R2), .int .i64 t2, .int .i64 0])) w) := fun R2 h hl => (hE R2 (fun _ => h)).2 hl
                          have HV : Hid (p ≤ 3 → R = valN ((L.drop (t + 1)).take p) p 0) := fun h => by rw [hp]; exact HG2.out.2.2.2.2.2 (by omega)
                          have hp1' : 1 ≤ p := by omega
                          have htt : (t2 : Int) - (t : Int) - 1 = (p : Int) := by omega
                          clear hE HPP HR HM HN HG HU HU2 HG2 HM2 HX HY HDY hp hp1 hpt
                          go_wp2_with fail
                          go_loopw [10, 12] (fun rv qv wx => ∃ (q : Nat) (R2 : Int), rv = .int .i64 R2 ∧ qv = .int .i64 q ∧ p ≤ q ∧ q ≤ p + 2 ∧ (p ≤ 3 → q ≤ 3) ∧ 0 ≤ R2 ∧ (q = p → R2 ≤ 100000) ∧ (q = p + 1 → R2 ≤ 1000000) ∧ R2 ≤ 10000000 ∧ w = wx ∧ Hid (p ≤ 3 → R2 = valN ((L.drop (t + 1)).take p) q 0)) (fun _ qv _ => 3 - (intOf qv).toNat)
                          case atStart => exact ⟨p, R, rfl, by go_num, by omega, by omega, fun h => h, by omega, fun _ => by omega, fun h => by omega, by omega, by trivial, fun h => HV.out h⟩
                          case round =>
                            obtain ⟨q, R2, rfl, rfl, hq0, hq1, hq2, hR0, hR1, hR2, hR3, rfl, HV3⟩ := hrel
                            by_cases hq3 : q < 3
                            · have HV4 : Hid (p ≤ 3 → R2 * 10 = valN ((L.drop (t + 1)).take p) (q + 1) 0) := fun h => by
                                rw [W.valN_more _ q 0 (by rw [List.length_take]; omega), ← HV3.out h]
                              have hb : R2 ≤ 1000000 := by omega
                              clear HV3
                              go_wp2_with fail
                              go_roundw
                              case rel => exact ⟨q + 1, R2 * 10, rfl, by go_num, by omega, by omega, fun h => by omega, by omega, fun h => by omega, fun h => by have := hR1 (by omega); omega, by omega, by trivial, HV4.out⟩
                              case measure => simp [intOf]; omega
                            · have hq3' : True := trivial
                              clear hq3'
                              have HE : Hid (DNumP w n f r (.returned (.tuple #[.int .i64 0, .int .i64 t2, .int .i64 2])) w) := HEL.out (.inl hk3)
                              clear HEL HEO HV3 HV
                              go_wp2_with fail
                              exact bodyPost_ret (v := .tuple #[.int .i64 0, .int .i64 t2, .int .i64 2]) (by simp [results, Tryz.results88, go_sem]) rfl HE.out
                      · have HM2 : Hid (many dgB (L.drop (t + 1)) = t2 - (t + 1)) := HU2.out.many htt2 (by rw [HL.out]; exact htn2) (fun y hy => by have h1 := (List.getElem?_eq_some_iff.1 hy).1; rw [HL.out] at h1; omega)
                        have hp1 : 1 ≤ t2 - (t + 1) := by
                          have h2 := HM2.out
                          have h3 := W.many_cons HDY.out (L.drop (t + 2))
                          have h4 : L.drop (t + 1) = y :: L.drop (t + 2) := by
                            obtain ⟨h5, h6⟩ := List.getElem?_eq_some_iff.1 HY.out
                            rw [List.drop_eq_getElem_cons h5, h6]
                          rw [← h4, h2] at h3
                          omega
                        obtain ⟨p, hp⟩ : ∃ p : Nat, p = t2 - (t + 1) := ⟨_, rfl⟩
                        have hpt : (t2 : Int) = (t : Int) + 1 + (p : Int) := by omega
                        have HPP : Hid (partN (L.drop f) = p) := part_dot hft HM.out HX.out (by rw [HM2.out, hp])
                        have hE : ∀ rr : Int, (p ≤ 3 → rr = valN ((L.drop (t + 1)).take p) 3 0) → _ := fun rr h => dnum_end (w := w) (n := n) (t' := t2) HR.out HM.out h1t HN.out HPP.out HG.out h (by rw [if_pos (by omega)]; omega) htn2
                        have HEL : Hid (3 < t - f ∨ 3 < p → DNumP w n f r (.returned (.tuple #[.int .i64 0, .int .i64 t2, .int .i64 2])) w) := fun h => (hE (valN ((L.drop (t + 1)).take p) 3 0) (fun _ => rfl)).1 h
                        have HEO : Hid (∀ R2 : Int, R2 = valN ((L.drop (t + 1)).take p) 3 0 → ¬ (3 < t - f ∨ 3 < p) → DNumP w n f r (.returned (.tuple #[.int .i64 (v * 1000 + R2), .int .i64 t2, .int .i64 0])) w) := fun R2 h hl => (hE R2 (fun _ => h)).2 hl
                        have HV : Hid (p ≤ 3 → R = valN ((L.drop (t + 1)).take p) p 0) := fun h => by rw [hp]; exact HG2.out.2.2.2.2.2 (by omega)
                        have hp1' : 1 ≤ p := by omega
                        have htt : (t2 : Int) - (t : Int) - 1 = (p : Int) := by omega
                        clear hE HPP HR HM HN HG HU HU2 HG2 HM2 HX HY HDY hp hp1 hpt
                        go_wp2_with fail
                        go_loopw [10, 12] (fun rv qv wx => ∃ (q : Nat) (R2 : Int), rv = .int .i64 R2 ∧ qv = .int .i64 q ∧ p ≤ q ∧ q ≤ p + 2 ∧ (p ≤ 3 → q ≤ 3) ∧ 0 ≤ R2 ∧ (q = p → R2 ≤ 100000) ∧ (q = p + 1 → R2 ≤ 1000000) ∧ R2 ≤ 10000000 ∧ w = wx ∧ Hid (p ≤ 3 → R2 = valN ((L.drop (t + 1)).take p) q 0)) (fun _ qv _ => 3 - (intOf qv).toNat)
                        case atStart => exact ⟨p, R, rfl, by go_num, by omega, by omega, fun h => h, by omega, fun _ => by omega, fun h => by omega, by omega, by trivial, fun h => HV.out h⟩
                        case round =>
                          obtain ⟨q, R2, rfl, rfl, hq0, hq1, hq2, hR0, hR1, hR2, hR3, rfl, HV3⟩ := hrel
                          by_cases hq3 : q < 3
                          · have HV4 : Hid (p ≤ 3 → R2 * 10 = valN ((L.drop (t + 1)).take p) (q + 1) 0) := fun h => by
                              rw [W.valN_more _ q 0 (by rw [List.length_take]; omega), ← HV3.out h]
                            have hb : R2 ≤ 1000000 := by omega
                            clear HV3
                            go_wp2_with fail
                            go_roundw
                            case rel => exact ⟨q + 1, R2 * 10, rfl, by go_num, by omega, by omega, fun h => by omega, by omega, fun h => by omega, fun h => by have := hR1 (by omega); omega, by omega, by trivial, HV4.out⟩
                            case measure => simp [intOf]; omega
                          · have hq3' : True := trivial
                            clear hq3'
                            have HE : Hid (DNumP w n f r (.returned (.tuple #[.int .i64 0, .int .i64 t2, .int .i64 2])) w) := HEL.out (.inl hk3)
                            clear HEL HEO HV3 HV
                            go_wp2_with fail
                            exact bodyPost_ret (v := .tuple #[.int .i64 0, .int .i64 t2, .int .i64 2]) (by simp [results, Tryz.results88, go_sem]) rfl HE.out
                  | false =>
                    have HC := ddigit_any y w
                    rw [hd] at HC
                    have HP : partN (L.drop f) = 0 := part_no hft HM.out (.inr (by have h4 : L.drop (t + 1) = y :: L.drop (t + 2) := (by obtain ⟨h5, h6⟩ := List.getElem?_eq_some_iff.1 HY.out; rw [List.drop_eq_getElem_cons h5, h6]); rw [h4]; exact W.many_stop hd _))
                    have HE : Hid (DNumP w n f r (.returned (.tuple #[.int .i64 0, .int .i64 t, .int .i64 2])) w) := (dnum_end (w := w) (n := n) HR.out HM.out h1t HN.out HP HG.out (p := 0) (rr := 0) (fun _ => rfl) rfl htn).1 (.inl hk3)
                    clear HP HG HU HM HN HR
                    go_wp2_with fail
                    refine HC.mono ?_
                    rintro e w1 ⟨rfl, rfl⟩
                    clear HC hd
                    go_wp2_with fail
                    exact bodyPost_ret (v := .tuple #[.int .i64 0, .int .i64 t, .int .i64 2]) (by simp [results, Tryz.results88, go_sem]) rfl HE.out
                · have g46 : (x == 46) = false := by simpa using h46
                  have HP : partN (L.drop f) = 0 := part_no hft HM.out (.inl (fun h => h46 (by rw [HX.out] at h; exact Option.some.inj h)))
                  have HE : Hid (DNumP w n f r (.returned (.tuple #[.int .i64 0, .int .i64 t, .int .i64 2])) w) := (dnum_end (w := w) (n := n) HR.out HM.out h1t HN.out HP HG.out (p := 0) (rr := 0) (fun _ => rfl) rfl htn).1 (.inl hk3)
                  clear HP HG HU HM HN HR
                  clear h46
                  go_wp2_with fail
                  exact bodyPost_ret (v := .tuple #[.int .i64 0, .int .i64 t, .int .i64 2]) (by simp [results, Tryz.results88, go_sem]) rfl HE.out
              · have hno : ∀ z, L[t]? = some z → L.length = t + 1 := fun z hz => by have := (List.getElem?_eq_some_iff.1 hz).1; rw [HL.out] at this ⊢; omega
                have HP : partN (L.drop f) = 0 := part_no hft HM.out (.inr (by rw [List.drop_eq_nil_of_le (by rw [HL.out]; omega)]; rfl))
                have HE : Hid (DNumP w n f r (.returned (.tuple #[.int .i64 0, .int .i64 t, .int .i64 2])) w) := (dnum_end (w := w) (n := n) HR.out HM.out h1t HN.out HP HG.out (p := 0) (rr := 0) (fun _ => rfl) rfl htn).1 (.inl hk3)
                clear HP HG HU HM HN HR
                clear hno
                go_wp2_with fail
                exact bodyPost_ret (v := .tuple #[.int .i64 0, .int .i64 t, .int .i64 2]) (by simp [results, Tryz.results88, go_sem]) rfl HE.out
            · have hk3i : ¬ (3 : Int) < (t : Int) - (f : Int) := by omega
              by_cases ht1 : t + 1 < n
              · obtain ⟨b1, o1, x, hA, hbl, hx, hcx⟩ := HH.out.got (j := t) (by omega)
                injection hA with hA; injection hA with e1 e2 _; subst e1 e2
                obtain ⟨b1, o1, y, hA, hbl', hy, hcy⟩ := HH.out.got ht1
                injection hA with hA; injection hA with e1 e2 _; subst e1 e2
                have HX := Lib.hid hx
                have HY := Lib.hid hy
                clear hx hy hbl hbl'
                by_cases h46 : x = 46
                · subst h46
                  cases hd : dgB y with
                  | true =>
                    have HDY := Lib.hid hd
                    obtain ⟨hy0, hy1⟩ := digit_bd hd
                    have HC := ddigit_any y w
                    rw [hd] at HC
                    clear hd
                    go_wp2_with fail
                    refine HC.mono ?_
                    rintro e w1 ⟨rfl, rfl⟩
                    clear HC
                    go_wp2_with fail
                    go_loopw [7, 10] (fun tv nv wx => ∃ (t2 : Nat) (R : Int), t + 1 ≤ t2 ∧ t2 ≤ n ∧ tv = .int .i64 t2 ∧ nv = .int .i64 R ∧ 0 ≤ R ∧ R ≤ 100000 ∧ w = wx ∧ Hid (Dg (L.drop (t + 1)) (t2 - (t + 1)) R) ∧ Hid (Run L (t + 1) t2)) (fun tv _ _ => n - (intOf tv).toNat)
                    case atStart => exact ⟨t + 1, 0, by omega, by omega, by go_num, rfl, by omega, by omega, by trivial, by rw [Nat.sub_self]; exact Dg.zero _, Run.zero _ _⟩
                    case round =>
                      obtain ⟨t2, R, htt2, htn2, rfl, rfl, hR0, hR1, rfl, HG2, HU2⟩ := hrel
                      clear hcx hcy
                      by_cases hlt2 : t2 < n
                      · obtain ⟨b1, o1, z, hA, hbl, hz, hcz⟩ := HH.out.got hlt2
                        injection hA with hA; injection hA with e1 e2 _; subst e1 e2
                        have HZ := Lib.hid hz
                        clear hz hbl
                        cases hd : dgB z with
                        | true =>
                          obtain ⟨hz0, hz1⟩ := digit_bd hd
                          have HG3 : Hid (Dg (L.drop (t + 1)) (t2 + 1 - (t + 1)) (min 100000 (R * 10 + z - 48))) := by
                            have := HG2.out.step (c := z) (by rw [List.getElem?_drop, show t + 1 + (t2 - (t + 1)) = t2 by omega]; exact HZ.out) hd
                            rwa [show t2 - (t + 1) + 1 = t2 + 1 - (t + 1) by omega] at this
                          have HU3 := Lib.hid (HU2.out.step HZ.out hd)
                          have hm0 : 0 ≤ (min 100000 (R * 10 + z - 48)) := by omega
                          have hm1 : (min 100000 (R * 10 + z - 48)) ≤ 100000 := by omega
                          have HC := ddigit_any z w
                          rw [hd] at HC
                          clear HG2 HU2 hd
                          go_wp2_with fail
                          refine HC.mono ?_
                          rintro e w1 ⟨rfl, rfl⟩
                          clear HC
                          go_wp2_with fail
                          go_roundw
                          case rel => exact ⟨t2 + 1, _, by omega, by omega, by go_num, rfl, hm0, hm1, by trivial, HG3.out, HU3.out⟩
                          case measure => simp [intOf]; omega
                        | false =>
                          have HM2 : Hid (many dgB (L.drop (t + 1)) = t2 - (t + 1)) := HU2.out.many htt2 (by rw [HL.out]; exact htn2) (fun y hy => by rw [HZ.out] at hy; injection hy with hy; subst hy; exact hd)
                          have HC := ddigit_any z w
                          rw [hd] at HC
                          go_wp2_with fail
                          refine HC.mono ?_
                          rintro e w1 ⟨rfl, rfl⟩
                          clear HC hd
                          have hp1 : 1 ≤ t2 - (t + 1) := by
                            have h2 := HM2.out
                            have h3 := W.many_cons HDY.out (L.drop (t + 2))
                            have h4 : L.drop (t + 1) = y :: L.drop (t + 2) := by
                              obtain ⟨h5, h6⟩ := List.getElem?_eq_some_iff.1 HY.out
                              rw [List.drop_eq_getElem_cons h5, h6]
                            rw [← h4, h2] at h3
                            omega
                          obtain ⟨p, hp⟩ : ∃ p : Nat, p = t2 - (t + 1) := ⟨_, rfl⟩
                          have hpt : (t2 : Int) = (t : Int) + 1 + (p : Int) := by omega
                          have HPP : Hid (partN (L.drop f) = p) := part_dot hft HM.out HX.out (by rw [HM2.out, hp])
                          have hE : ∀ rr : Int, (p ≤ 3 → rr = valN ((L.drop (t + 1)).take p) 3 0) → _ := fun rr h => dnum_end (w := w) (n := n) (t' := t2) HR.out HM.out h1t HN.out HPP.out HG.out h (by rw [if_pos (by omega)]; omega) htn2
                          have HEL : Hid (3 < t - f ∨ 3 < p → DNumP w n f r (.returned (.tuple #[.int .i64 0, .int .i64 t2, .int .i64 2])) w) := fun h => (hE (valN ((L.drop (t + 1)).take p) 3 0) (fun _ => rfl)).1 h
                          have HEO : Hid (∀ R2 : Int, R2 = valN ((L.drop (t + 1)).take p) 3 0 → ¬ (3 < t - f ∨ 3 < p) → DNumP w n f r (.returned (.tuple #[.int .i64 (v * 1000 + R2), .int .i64 t2, .int .i64 0])) w) := fun R2 h hl => (hE R2 (fun _ => h)).2 hl
                          have HV : Hid (p ≤ 3 → R = valN ((L.drop (t + 1)).take p) p 0) := fun h => by rw [hp]; exact HG2.out.2.2.2.2.2 (by omega)
                          have hp1' : 1 ≤ p := by omega
                          have htt : (t2 : Int) - (t : Int) - 1 = (p : Int) := by omega
                          clear hE HPP HR HM HN HG HU HU2 HG2 HM2 HX HY HDY hp hp1 hpt
                          by_cases hp3 : 3 < p
                          · go_wp2_with fail
                            go_loopw [10, 12] (fun rv qv wx => ∃ (q : Nat) (R2 : Int), rv = .int .i64 R2 ∧ qv = .int .i64 q ∧ p ≤ q ∧ q ≤ p + 2 ∧ (p ≤ 3 → q ≤ 3) ∧ 0 ≤ R2 ∧ (q = p → R2 ≤ 100000) ∧ (q = p + 1 → R2 ≤ 1000000) ∧ R2 ≤ 10000000 ∧ w = wx ∧ Hid (p ≤ 3 → R2 = valN ((L.drop (t + 1)).take p) q 0)) (fun _ qv _ => 3 - (intOf qv).toNat)
                            case atStart => exact ⟨p, R, rfl, by go_num, by omega, by omega, fun h => h, by omega, fun _ => by omega, fun h => by omega, by omega, by trivial, fun h => HV.out h⟩
                            case round =>
                              obtain ⟨q, R2, rfl, rfl, hq0, hq1, hq2, hR0, hR1, hR2, hR3, rfl, HV3⟩ := hrel
                              by_cases hq3 : q < 3
                              · exact absurd hq3 (by omega)
                              · have hq3' : True := trivial
                                clear hq3'
                                have HE : Hid (DNumP w n f r (.returned (.tuple #[.int .i64 0, .int .i64 t2, .int .i64 2])) w) := HEL.out (.inr hp3)
                                clear HEL HEO HV3 HV
                                go_wp2_with fail
                                exact bodyPost_ret (v := .tuple #[.int .i64 0, .int .i64 t2, .int .i64 2]) (by simp [results, Tryz.results88, go_sem]) rfl HE.out
                          · go_wp2_with fail
                            go_loopw [10, 12] (fun rv qv wx => ∃ (q : Nat) (R2 : Int), rv = .int .i64 R2 ∧ qv = .int .i64 q ∧ p ≤ q ∧ q ≤ p + 2 ∧ (p ≤ 3 → q ≤ 3) ∧ 0 ≤ R2 ∧ (q = p → R2 ≤ 100000) ∧ (q = p + 1 → R2 ≤ 1000000) ∧ R2 ≤ 10000000 ∧ w = wx ∧ Hid (p ≤ 3 → R2 = valN ((L.drop (t + 1)).take p) q 0)) (fun _ qv _ => 3 - (intOf qv).toNat)
                            case atStart => exact ⟨p, R, rfl, by go_num, by omega, by omega, fun h => h, by omega, fun _ => by omega, fun h => by omega, by omega, by trivial, fun h => HV.out h⟩
                            case round =>
                              obtain ⟨q, R2, rfl, rfl, hq0, hq1, hq2, hR0, hR1, hR2, hR3, rfl, HV3⟩ := hrel
                              by_cases hq3 : q < 3
                              · have HV4 : Hid (p ≤ 3 → R2 * 10 = valN ((L.drop (t + 1)).take p) (q + 1) 0) := fun h => by
                                  rw [W.valN_more _ q 0 (by rw [List.length_take]; omega), ← HV3.out h]
                                have hb : R2 ≤ 1000000 := by omega
                                clear HV3
                                go_wp2_with fail
                                go_roundw
                                case rel => exact ⟨q + 1, R2 * 10, rfl, by go_num, by omega, by omega, fun h => by omega, by omega, fun h => by omega, fun h => by have := hR1 (by omega); omega, by omega, by trivial, HV4.out⟩
                                case measure => simp [intOf]; omega
                              · have hq3' : q = 3 := by omega
                                subst hq3'
                                have HE : Hid (DNumP w n f r (.returned (.tuple #[.int .i64 (v * 1000 + R2), .int .i64 t2, .int .i64 0])) w) := HEO.out R2 (by rw [HV3.out (by omega)]) (by omega)
                                clear HEL HEO HV3 HV
                                go_wp2_with fail
                                exact bodyPost_ret (v := .tuple #[.int .i64 (v * 1000 + R2), .int .i64 t2, .int .i64 0]) (by simp [results, Tryz.results88, go_sem]) rfl HE.out
                      · have HM2 : Hid (many dgB (L.drop (t + 1)) = t2 - (t + 1)) := HU2.out.many htt2 (by rw [HL.out]; exact htn2) (fun y hy => by have h1 := (List.getElem?_eq_some_iff.1 hy).1; rw [HL.out] at h1; omega)
                        have hp1 : 1 ≤ t2 - (t + 1) := by
                          have h2 := HM2.out
                          have h3 := W.many_cons HDY.out (L.drop (t + 2))
                          have h4 : L.drop (t + 1) = y :: L.drop (t + 2) := by
                            obtain ⟨h5, h6⟩ := List.getElem?_eq_some_iff.1 HY.out
                            rw [List.drop_eq_getElem_cons h5, h6]
                          rw [← h4, h2] at h3
                          omega
                        obtain ⟨p, hp⟩ : ∃ p : Nat, p = t2 - (t + 1) := ⟨_, rfl⟩
                        have hpt : (t2 : Int) = (t : Int) + 1 + (p : Int) := by omega
                        have HPP : Hid (partN (L.drop f) = p) := part_dot hft HM.out HX.out (by rw [HM2.out, hp])
                        have hE : ∀ rr : Int, (p ≤ 3 → rr = valN ((L.drop (t + 1)).take p) 3 0) → _ := fun rr h => dnum_end (w := w) (n := n) (t' := t2) HR.out HM.out h1t HN.out HPP.out HG.out h (by rw [if_pos (by omega)]; omega) htn2
                        have HEL : Hid (3 < t - f ∨ 3 < p → DNumP w n f r (.returned (.tuple #[.int .i64 0, .int .i64 t2, .int .i64 2])) w) := fun h => (hE (valN ((L.drop (t + 1)).take p) 3 0) (fun _ => rfl)).1 h
                        have HEO : Hid (∀ R2 : Int, R2 = valN ((L.drop (t + 1)).take p) 3 0 → ¬ (3 < t - f ∨ 3 < p) → DNumP w n f r (.returned (.tuple #[.int .i64 (v * 1000 + R2), .int .i64 t2, .int .i64 0])) w) := fun R2 h hl => (hE R2 (fun _ => h)).2 hl
                        have HV : Hid (p ≤ 3 → R = valN ((L.drop (t + 1)).take p) p 0) := fun h => by rw [hp]; exact HG2.out.2.2.2.2.2 (by omega)
                        have hp1' : 1 ≤ p := by omega
                        have htt : (t2 : Int) - (t : Int) - 1 = (p : Int) := by omega
                        clear hE HPP HR HM HN HG HU HU2 HG2 HM2 HX HY HDY hp hp1 hpt
                        by_cases hp3 : 3 < p
                        · go_wp2_with fail
                          go_loopw [10, 12] (fun rv qv wx => ∃ (q : Nat) (R2 : Int), rv = .int .i64 R2 ∧ qv = .int .i64 q ∧ p ≤ q ∧ q ≤ p + 2 ∧ (p ≤ 3 → q ≤ 3) ∧ 0 ≤ R2 ∧ (q = p → R2 ≤ 100000) ∧ (q = p + 1 → R2 ≤ 1000000) ∧ R2 ≤ 10000000 ∧ w = wx ∧ Hid (p ≤ 3 → R2 = valN ((L.drop (t + 1)).take p) q 0)) (fun _ qv _ => 3 - (intOf qv).toNat)
                          case atStart => exact ⟨p, R, rfl, by go_num, by omega, by omega, fun h => h, by omega, fun _ => by omega, fun h => by omega, by omega, by trivial, fun h => HV.out h⟩
                          case round =>
                            obtain ⟨q, R2, rfl, rfl, hq0, hq1, hq2, hR0, hR1, hR2, hR3, rfl, HV3⟩ := hrel
                            by_cases hq3 : q < 3
                            · exact absurd hq3 (by omega)
                            · have hq3' : True := trivial
                              clear hq3'
                              have HE : Hid (DNumP w n f r (.returned (.tuple #[.int .i64 0, .int .i64 t2, .int .i64 2])) w) := HEL.out (.inr hp3)
                              clear HEL HEO HV3 HV
                              go_wp2_with fail
                              exact bodyPost_ret (v := .tuple #[.int .i64 0, .int .i64 t2, .int .i64 2]) (by simp [results, Tryz.results88, go_sem]) rfl HE.out
                        · go_wp2_with fail
                          go_loopw [10, 12] (fun rv qv wx => ∃ (q : Nat) (R2 : Int), rv = .int .i64 R2 ∧ qv = .int .i64 q ∧ p ≤ q ∧ q ≤ p + 2 ∧ (p ≤ 3 → q ≤ 3) ∧ 0 ≤ R2 ∧ (q = p → R2 ≤ 100000) ∧ (q = p + 1 → R2 ≤ 1000000) ∧ R2 ≤ 10000000 ∧ w = wx ∧ Hid (p ≤ 3 → R2 = valN ((L.drop (t + 1)).take p) q 0)) (fun _ qv _ => 3 - (intOf qv).toNat)
                          case atStart => exact ⟨p, R, rfl, by go_num, by omega, by omega, fun h => h, by omega, fun _ => by omega, fun h => by omega, by omega, by trivial, fun h => HV.out h⟩
                          case round =>
                            obtain ⟨q, R2, rfl, rfl, hq0, hq1, hq2, hR0, hR1, hR2, hR3, rfl, HV3⟩ := hrel
                            by_cases hq3 : q < 3
                            · have HV4 : Hid (p ≤ 3 → R2 * 10 = valN ((L.drop (t + 1)).take p) (q + 1) 0) := fun h => by
                                rw [W.valN_more _ q 0 (by rw [List.length_take]; omega), ← HV3.out h]
                              have hb : R2 ≤ 1000000 := by omega
                              clear HV3
                              go_wp2_with fail
                              go_roundw
                              case rel => exact ⟨q + 1, R2 * 10, rfl, by go_num, by omega, by omega, fun h => by omega, by omega, fun h => by omega, fun h => by have := hR1 (by omega); omega, by omega, by trivial, HV4.out⟩
                              case measure => simp [intOf]; omega
                            · have hq3' : q = 3 := by omega
                              subst hq3'
                              have HE : Hid (DNumP w n f r (.returned (.tuple #[.int .i64 (v * 1000 + R2), .int .i64 t2, .int .i64 0])) w) := HEO.out R2 (by rw [HV3.out (by omega)]) (by omega)
                              clear HEL HEO HV3 HV
                              go_wp2_with fail
                              exact bodyPost_ret (v := .tuple #[.int .i64 (v * 1000 + R2), .int .i64 t2, .int .i64 0]) (by simp [results, Tryz.results88, go_sem]) rfl HE.out
                  | false =>
                    have HC := ddigit_any y w
                    rw [hd] at HC
                    have HP : partN (L.drop f) = 0 := part_no hft HM.out (.inr (by have h4 : L.drop (t + 1) = y :: L.drop (t + 2) := (by obtain ⟨h5, h6⟩ := List.getElem?_eq_some_iff.1 HY.out; rw [List.drop_eq_getElem_cons h5, h6]); rw [h4]; exact W.many_stop hd _))
                    have HE : Hid (DNumP w n f r (.returned (.tuple #[.int .i64 (v * 1000), .int .i64 t, .int .i64 0])) w) := by have h9 := (dnum_end (w := w) (n := n) HR.out HM.out h1t HN.out HP HG.out (p := 0) (rr := 0) (fun _ => rfl) rfl htn).2 (by omega); rw [Int.add_zero] at h9; exact h9
                    clear HP HG HU HM HN HR
                    go_wp2_with fail
                    refine HC.mono ?_
                    rintro e w1 ⟨rfl, rfl⟩
                    clear HC hd
                    go_wp2_with fail
                    exact bodyPost_ret (v := .tuple #[.int .i64 (v * 1000), .int .i64 t, .int .i64 0]) (by simp [results, Tryz.results88, go_sem]) rfl HE.out
                · have g46 : (x == 46) = false := by simpa using h46
                  have HP : partN (L.drop f) = 0 := part_no hft HM.out (.inl (fun h => h46 (by rw [HX.out] at h; exact Option.some.inj h)))
                  have HE : Hid (DNumP w n f r (.returned (.tuple #[.int .i64 (v * 1000), .int .i64 t, .int .i64 0])) w) := by have h9 := (dnum_end (w := w) (n := n) HR.out HM.out h1t HN.out HP HG.out (p := 0) (rr := 0) (fun _ => rfl) rfl htn).2 (by omega); rw [Int.add_zero] at h9; exact h9
                  clear HP HG HU HM HN HR
                  clear h46
                  go_wp2_with fail
                  exact bodyPost_ret (v := .tuple #[.int .i64 (v * 1000), .int .i64 t, .int .i64 0]) (by simp [results, Tryz.results88, go_sem]) rfl HE.out
              · have hno : ∀ z, L[t]? = some z → L.length = t + 1 := fun z hz => by have := (List.getElem?_eq_some_iff.1 hz).1; rw [HL.out] at this ⊢; omega
                have HP : partN (L.drop f) = 0 := part_no hft HM.out (.inr (by rw [List.drop_eq_nil_of_le (by rw [HL.out]; omega)]; rfl))
                have HE : Hid (DNumP w n f r (.returned (.tuple #[.int .i64 (v * 1000), .int .i64 t, .int .i64 0])) w) := by have h9 := (dnum_end (w := w) (n := n) HR.out HM.out h1t HN.out HP HG.out (p := 0) (rr := 0) (fun _ => rfl) rfl htn).2 (by omega); rw [Int.add_zero] at h9; exact h9
                clear HP HG HU HM HN HR
                clear hno
                go_wp2_with fail
                exact bodyPost_ret (v := .tuple #[.int .i64 (v * 1000), .int .i64 t, .int .i64 0]) (by simp [results, Tryz.results88, go_sem]) rfl HE.out
    · have HM : Hid (many dgB (L.drop f) = t - f) := HU.out.many hft (by rw [HL.out]; exact htn) (fun y hy => by have h1 := (List.getElem?_eq_some_iff.1 hy).1; rw [HL.out] at h1; omega)
      as_aux_lemma =>
      have h1t : f + 1 ≤ t := by
        rcases Nat.lt_or_ge f t with h | h
        · exact h
        · have e : f = t := by omega
          have h2 := HM.out
          rw [e, Nat.sub_self] at h2
          have h3 := W.many_cons HD0.out (L.drop (f + 1))
          have h4 : L.drop f = c0 :: L.drop (f + 1) := by
            obtain ⟨h5, h6⟩ := List.getElem?_eq_some_iff.1 HF.out
            rw [List.drop_eq_getElem_cons h5, h6]
          rw [← h4, e, h2] at h3
          omega
      by_cases hz : c0 = 48 ∧ f + 1 < t
      · obtain ⟨hz1, hz2⟩ := hz
        have HE : Hid (DNumP w n f r (.returned (.tuple #[.int .i64 0, .int .i64 t, .int .i64 4])) w) := by
          have := W.num_nought HM.out ⟨by omega, by rw [List.getElem?_drop, Nat.add_zero, HF.out, hz1]⟩
          rw [← HR.out, this]
          exact ⟨rfl, 0, t, rfl, htn, fun h => by cases h⟩
        subst hz1
        clear HG HU HM
        go_wp2_with fail
        exact bodyPost_ret (v := .tuple #[.int .i64 0, .int .i64 t, .int .i64 4]) (by simp [results, Tryz.results88, go_sem]) rfl HE.out
      · have HN : Hid (¬ (1 < t - f ∧ (L.drop f)[0]? = some 48)) := fun h => hz ⟨by have := h.2; rw [List.getElem?_drop, Nat.add_zero, HF.out] at this; exact Option.some.inj this, by omega⟩
        have hgo : (c0 == 48) = false ∨ (c0 == 48) = true ∧ ¬ (f + 1 < t) := by
          by_cases h : c0 = 48
          · exact .inr ⟨by simp [h], fun h2 => hz ⟨h, h2⟩⟩
          · exact .inl (by simp [h])
        clear hz
        go_upto_region 6 with fail
        go_cut [46] (fun v wx => v = .bool false ∧ w = wx)
        case first =>
          rcases hgo with g | ⟨g, g2⟩
          · go_wp2_with fail
            go_meet
            exact ⟨rfl, rfl⟩
          · go_wp2_with fail
            go_meet
            exact ⟨by rw [show decide ((f : Int) + 1 < (t : Int)) = false by simp; omega], rfl⟩
        case rest =>
          obtain ⟨rfl, rfl⟩ := hcut
          clear hgo
          try clear hc
          clear hc0
          by_cases hk3 : 3 < t - f
          · have hk3i : (3 : Int) < (t : Int) - (f : Int) := by omega
            by_cases ht1 : t + 1 < n
            · exact absurd hlt (by omega)
            · have hno : ∀ z, L[t]? = some z → L.length = t + 1 := fun z hz => by have := (List.getElem?_eq_some_iff.1 hz).1; rw [HL.out] at this ⊢; omega
              have HP : partN (L.drop f) = 0 := part_no hft HM.out (.inr (by rw [List.drop_eq_nil_of_le (by rw [HL.out]; omega)]; rfl))
              have HE : Hid (DNumP w n f r (.returned (.tuple #[.int .i64 0, .int .i64 t, .int .i64 2])) w) := (dnum_end (w := w) (n := n) HR.out HM.out h1t HN.out HP HG.out (p := 0) (rr := 0) (fun _ => rfl) rfl htn).1 (.inl hk3)
              clear HP HG HU HM HN HR
              clear hno
              go_wp2_with fail
              exact bodyPost_ret (v := .tuple #[.int .i64 0, .int .i64 t, .int .i64 2]) (by simp [results, Tryz.results88, go_sem]) rfl HE.out
          · have hk3i : ¬ (3 : Int) < (t : Int) - (f : Int) := by omega
            by_cases ht1 : t + 1 < n
            · exact absurd hlt (by omega)
            · have hno : ∀ z, L[t]? = some z → L.length = t + 1 := fun z hz => by have := (List.getElem?_eq_some_iff.1 hz).1; rw [HL.out] at this ⊢; omega
              have HP : partN (L.drop f) = 0 := part_no hft HM.out (.inr (by rw [List.drop_eq_nil_of_le (by rw [HL.out]; omega)]; rfl))
              have HE : Hid (DNumP w n f r (.returned (.tuple #[.int .i64 (v * 1000), .int .i64 t, .int .i64 0])) w) := by have h9 := (dnum_end (w := w) (n := n) HR.out HM.out h1t HN.out HP HG.out (p := 0) (rr := 0) (fun _ => rfl) rfl htn).2 (by omega); rw [Int.add_zero] at h9; exact h9
              clear HP HG HU HM HN HR
              clear hno
              go_wp2_with fail
              exact bodyPost_ret (v := .tuple #[.int .i64 (v * 1000), .int .i64 t, .int .i64 0]) (by simp [results, Tryz.results88, go_sem]) rfl HE.out
end Go.Proofs.YtmohefgdpddldaaGreatDoor
namespace Go.Proofs.YtmohefgdpddldaaGreatDoor
open Go.RowKit
open W (Tk St dgB ltB nmB opn many nameS)

theorem nm_is (c : Int) : nmB c = (ltB c || (dgB c || decide (c = 95))) := by
  rw [Bool.eq_iff_iff]
  unfold W.nmB
  rw [Bool.or_eq_true, Bool.or_eq_true, Bool.or_eq_true, Q.plain_iff, decide_eq_true_eq]
  unfold W.ltB W.dgB
  rw [decide_eq_true_eq, decide_eq_true_eq]
  omega
theorem nm_bd {c : Int} (h : nmB c = true) : 0 ≤ c ∧ c < 128 := by
  have h1 := W.low_nm c h
  unfold W.nmB at h
  rw [Bool.or_eq_true, Q.plain_iff, decide_eq_true_eq] at h
  omega
/-- What a loop over a name has gone through. -/
def NRun (L : List Int) (f t : Nat) : Prop := (∀ j y, f ≤ j → j < t → L[j]? = some y → nmB y = true) ∧ (f < t → ∃ y, L[f]? = some y ∧ ltB y = true)
theorem NRun.zero (L : List Int) (f : Nat) : NRun L f f := ⟨fun j y h1 h2 => by omega, fun h => by omega⟩
theorem NRun.step {L : List Int} {f t : Nat} {x : Int} (h : NRun L f t) (hx : L[t]? = some x) (hn : nmB x = true) (hl : f < t ∨ ltB x = true) (hft : f ≤ t) : NRun L f (t + 1) := by
  refine ⟨fun j y h1 h2 hy => ?_, fun _ => ?_⟩
  · rcases Nat.lt_or_ge j t with h3 | h3
    · exact h.1 j y h1 h3 hy
    · obtain rfl : j = t := by omega
      rw [hx] at hy; injection hy with hy; subst hy; exact hn
  · rcases Nat.lt_or_ge f t with h3 | h3
    · exact h.2 h3
    · obtain rfl : f = t := by omega
      rcases hl with hl | hl
      · omega
      · exact ⟨x, hx, hl⟩
theorem NRun.many {L : List Int} {f t : Nat} (h : NRun L f t) (hft : f ≤ t) (ht : t ≤ L.length) (he : ∀ x, L[t]? = some x → nmB x = false) : many nmB (L.drop f) = t - f := by
  refine W.many_at (fun j y hj hy => h.1 (f + j) y (by omega) (by omega) (by rwa [List.getElem?_drop] at hy)) (by rw [List.length_drop]; omega) fun x hx => he x ?_
  rw [List.getElem?_drop] at hx
  rwa [show f + (t - f) = t by omega] at hx
theorem head_at (L : List Int) (f : Nat) {y : Int} (h : L[f]? = some y) : (L.drop f).headD (-1) = y := by
  obtain ⟨h1, h2⟩ := List.getElem?_eq_some_iff.1 h
  rw [List.drop_eq_getElem_cons h1, h2]; rfl
theorem head_no (L : List Int) (f : Nat) (h : L.length ≤ f) : (L.drop f).headD (-1) = -1 := by rw [List.drop_eq_nil_of_le h]; rfl
/-- A name that begins with no letter. -/
theorem name_none {L : List Int} {f : Nat} (h : ∀ y, L[f]? = some y → ltB y = false) : nameS (L.drop f) = .bad 0 4 := by
  have : ltB ((L.drop f).headD (-1)) = false := by
    rcases Nat.lt_or_ge f L.length with h1 | h1
    · rw [head_at L f (List.getElem?_eq_getElem h1)]; exact h _ (List.getElem?_eq_getElem h1)
    · rw [head_no L f h1]; decide
  unfold W.nameS
  rw [if_neg (by rw [this]; decide)]
theorem name_some {L : List Int} {f t : Nat} (h : NRun L f t) (hft : f < t) (hm : many nmB (L.drop f) = t - f) : nameS (L.drop f) = if 16 < t - f then .bad 0 2 else .tok 1 ((L.drop f).take (t - f)) 0 0 (t - f) := by
  obtain ⟨y, hy, hl⟩ := h.2 hft
  unfold W.nameS
  rw [if_pos (by rw [head_at L f hy]; exact hl), hm, ← hm, W.take_many]
section
variable {X : Cx} {b : Nat} {w : World} {p o : Nat} {tv : Value} {ts : List Tk} {wr : Int}
theorem stepD_bad {w' : World} {k : Nat} {er : Int} {p' o' : Nat} {tv' : Value} {ts' : List Tk} (h : Rdx X b w' p' o' tv' ts' (plc X.L (p + k) : Nat) er) (hb : Below b w w') : StepD X b w p o ts wr (.bad k er) (.returned (.tuple #[])) w' := ⟨rfl, hb, p', o', tv', ts', h⟩
set_option maxHeartbeats 4000000 in
theorem dname_any (h : Rdx X b w p o tv ts wr 0) (hp : p < X.nc) (hts : ts.length ≤ 3000) :
    Calls Tryz.prog 83 #[.pointer (some ⟨b, 0, none⟩)] w (StepD X b w p o ts wr (nameS (X.L.drop (p + 1)))) := by
  have HH := Lib.hid h
  obtain ⟨n1, n2, n3⟩ := h.nc
  have HN1 := Lib.hid n1
  obtain ⟨c0, c1, c2, c3, c4, c5, c6⟩ := h.cells
  have f2 := h.fr 2
  obtain ⟨bA, oA, y0, hA, hbA, _, _⟩ := h.chars.got hp
  rw [hA] at c0
  have HA := Lib.hid hA
  have hcc : X.nc ≤ X.cc := h.chars.cap
  have hpp : (p : Int) < 3000 := by omega
  generalize hr : nameS (X.L.drop (p + 1)) = r
  have HR := Lib.hid hr
  clear h hA hr n1 n3
  go_enter Tryz.func83, Tryz.ntmps83
  go_wp2_with fail
  go_loopw [3] (fun tv2 wx => ∃ t : Nat, p + 1 ≤ t ∧ t ≤ X.nc ∧ tv2 = .int .i64 t ∧ w = wx ∧ Hid (NRun X.L (p + 1) t)) (fun tv2 _ => X.nc - (intOf tv2).toNat)
  case atStart => exact ⟨p + 1, by omega, by omega, by go_num, by trivial, NRun.zero _ _⟩
  case round =>
    obtain ⟨t, ht1, ht2, rfl, rfl, HU⟩ := hrel
    by_cases hlt : t < X.nc
    · obtain ⟨b1, o1, y, hA1, _, hy, hc⟩ := HH.out.chars.got hlt
      rw [HA.out] at hA1
      injection hA1 with hA1; injection hA1 with e1 e2 _; subst e1 e2
      have HY := Lib.hid hy
      have HCL := dletter_any y w
      clear hy
      cases hl : ltB y with
      | true =>
        rw [hl] at HCL
        have HU2 := Lib.hid (HU.out.step HY.out (by rw [nm_is, hl]; rfl) (.inr hl) ht1)
        clear HU HY hl
        go_wp2_with fail
        refine HCL.mono ?_
        rintro e w1 ⟨rfl, rfl⟩
        clear HCL
        go_wp2_with fail
        go_roundw
        case rel => exact ⟨t + 1, by omega, by omega, by go_num, by trivial, HU2.out⟩
        case measure => simp [intOf]; omega
      | false =>
        rw [hl] at HCL
        by_cases htp1 : t = p + 1
        · subst htp1
          go_wp2_with fail
          refine HCL.mono ?_
          rintro e w1 ⟨rfl, rfl⟩
          clear HCL
          as_aux_lemma =>
          have HNM : Hid (r = .bad 0 4) := by
            show _ = _
            rw [← HR.out]
            exact name_none (fun z hz => by rw [HY.out] at hz; injection hz with hz; subst hz; exact hl)
          clear HU HY hl
          go_wp2_with fail
          refine (dfail_any HH.out (i := p) (Nat.le_of_lt hp) 4).mono ?_
          rintro e w2 ⟨rfl, hR, hb2⟩
          rw [if_pos rfl, if_pos rfl] at hR
          have HR2 := Lib.hid hR
          have HB2 := Lib.hid hb2
          obtain ⟨k0, k1, k2, k3, k4, k5, k6⟩ := hR.cells
          have m2 := hR.fr 2
          have HE : Hid (StepD X b w p o ts wr r (.returned (.tuple #[])) (w2.setCell ⟨b, 2, none⟩ (.int .i64 ((p + 1 : Nat) : Int)))) := by
            show StepD _ _ _ _ _ _ _ _ _ _
            rw [HNM.out]
            exact stepD_bad (k := 0) (HR2.out.at_ (q := p + 1) (by omega)) (HB2.out.setCell (p := ⟨b, 2, none⟩) (Nat.le_refl _) _)
          clear hR hb2 HNM HR
          go_wp2_with fail
          exact bodyPost_ret (v := .tuple #[]) (by simp [results, Tryz.results83, go_sem]) rfl HE.out
        · have htg : ¬ (t : Int) ≤ (p : Int) + 1 := by omega
          go_wp2_with fail
          refine HCL.mono ?_
          rintro e w1 ⟨rfl, rfl⟩
          clear HCL
          have HCD := ddigit_any y w
          cases hd : dgB y with
          | true =>
            rw [hd] at HCD
            have HU2 := Lib.hid (HU.out.step HY.out (by rw [nm_is, hl, hd]; rfl) (.inl (by omega)) ht1)
            clear HU HY hl hd
            go_wp2_with fail
            refine HCD.mono ?_
            rintro e w1 ⟨rfl, rfl⟩
            clear HCD
            go_wp2_with fail
            go_roundw
            case rel => exact ⟨t + 1, by omega, by omega, by go_num, by trivial, HU2.out⟩
            case measure => simp [intOf]; omega
          | false =>
            rw [hd] at HCD
            by_cases h95 : y = 95
            · subst h95
              have HU2 := Lib.hid (HU.out.step HY.out (by decide) (.inl (by omega)) ht1)
              clear HU HY hl hd
              go_wp2_with fail
              refine HCD.mono ?_
              rintro e w1 ⟨rfl, rfl⟩
              clear HCD
              go_wp2_with fail
              go_roundw
              case rel => exact ⟨t + 1, by omega, by omega, by go_num, by trivial, HU2.out⟩
              case measure => simp [intOf]; omega
            · have g95 : (y == 95) = false := by simpa using h95
              go_wp2_with fail
              refine HCD.mono ?_
              rintro e w1 ⟨rfl, rfl⟩
              clear HCD
              as_aux_lemma =>
              have HM : Hid (many nmB (X.L.drop (p + 1)) = t - (p + 1)) := HU.out.many ht1 (by rw [HN1.out]; exact ht2) (fun z hz => by rw [HY.out] at hz; injection hz with hz; subst hz; rw [nm_is, hl, hd]; simp; exact h95)
              have hNM := name_some HU.out (by omega) HM.out
              rw [HR.out] at hNM
              have hne : ¬ (t : Int) = (p : Int) + 1 := by omega
              by_cases h16 : 16 < t - (p + 1)
              · rw [if_pos h16] at hNM
                have HNM := Lib.hid hNM
                have h16i : (16 : Int) < (t : Int) - (p : Int) - 1 := by omega
                clear HU hNM HM HR
                go_wp2_with fail
                refine (dfail_any HH.out (i := p) (Nat.le_of_lt hp) 2).mono ?_
                rintro e w2 ⟨rfl, hR, hb2⟩
                rw [if_pos rfl, if_pos rfl] at hR
                have HR2 := Lib.hid hR
                have HB2 := Lib.hid hb2
                obtain ⟨k0, k1, k2, k3, k4, k5, k6⟩ := hR.cells
                have m2 := hR.fr 2
                have HE : Hid (StepD X b w p o ts wr r (.returned (.tuple #[])) (w2.setCell ⟨b, 2, none⟩ (.int .i64 t))) := by
                  show StepD _ _ _ _ _ _ _ _ _ _
                  rw [HNM.out]
                  exact stepD_bad (k := 0) (HR2.out.at_ (q := t) ht2) (HB2.out.setCell (p := ⟨b, 2, none⟩) (Nat.le_refl _) _)
                clear hR hb2 HNM
                go_wp2_with fail
                exact bodyPost_ret (v := .tuple #[]) (by simp [results, Tryz.results83, go_sem]) rfl HE.out
              · rw [if_neg h16] at hNM
                have HNM := Lib.hid hNM
                have h16i : ¬ (16 : Int) < (t : Int) - (p : Int) - 1 := by omega
                have hR2 := HH.out.at_ (q := t) ht2
                have HR2 := Lib.hid hR2
                have HRK : Hid (RdK .i64 (w.setCell ⟨b, 2, none⟩ (.int .i64 t)) b (some ⟨bA, oA + (p + 1), none⟩) (t - (p + 1)) (X.cc - (p + 1)) ((X.L.drop (p + 1)).take (t - (p + 1)))) := by
                  have h1 := hR2.chars
                  rw [HA.out] at h1
                  exact (h1.drop (m := p + 1) (by omega)).take (by omega)
                have HLT : Hid (∀ x ∈ (X.L.drop (p + 1)).take (t - (p + 1)), 0 ≤ x ∧ x < 128) := fun x hx => by
                  obtain ⟨j, hj, e⟩ := List.getElem_of_mem hx
                  have h1 : ((X.L.drop (p + 1)).take (t - (p + 1)))[j]? = some x := by rw [List.getElem?_eq_getElem hj, e]
                  have h2 : j < t - (p + 1) := by rw [List.length_take] at hj; omega
                  rw [List.getElem?_take_of_lt h2, List.getElem?_drop] at h1
                  exact nm_bd (HU.out.1 _ x (by omega) (by omega) h1)
                have hcc2 : ¬ X.cc = p + 1 := by omega
                generalize (X.L.drop (p + 1)).take (t - (p + 1)) = xs at *
                have hsz : b ≤ (w.setCell ⟨b, 2, none⟩ (.int .i64 t)).heap.size := by have := HH.out.size; simp; omega
                have HC := Lib.hid (dtext_any HRK.out hsz (by omega) HLT.out)
                have HBW : Hid (Below b w (w.setCell ⟨b, 2, none⟩ (.int .i64 t))) := (Below.refl b w).setCell (p := ⟨b, 2, none⟩) (Nat.le_refl _) _
                have htp : ((t - (p + 1) : Nat) : Int) = (t : Int) - ((p : Int) + 1) := by omega
                clear HU hNM HM HR hR2 HRK HLT hsz
                go_wp2_with fail
                refine HC.out.mono ?_
                rintro e w2 ⟨rfl, hb2⟩
                have HRW := Lib.hid (HR2.out.below hb2)
                have HB2 := Lib.hid (HBW.out.trans (hb2.mono (by have := HR2.out.size; omega)))
                clear hb2 HC HR2 HBW
                go_wp2_with fail
                refine (dput_any HRW.out 1 0 0 0 xs (i := p) (Nat.le_of_lt hp) hts).mono ?_
                rintro e w3 ⟨rfl, ⟨tv3, hR3⟩, hb3⟩
                have HE : Hid (StepD X b w p o ts wr r (.returned (.tuple #[])) w3) := by
                  show StepD _ _ _ _ _ _ _ _ _ _
                  rw [HNM.out]
                  refine ⟨rfl, HB2.out.trans hb3, tv3, ?_⟩
                  rw [show p + (t - (p + 1)) + 1 = t by omega]
                  exact hR3
                clear hR3 hb3 HRW HNM
                go_wp2_with fail
                exact bodyPost_ret (v := .tuple #[]) (by simp [results, Tryz.results83, go_sem]) rfl HE.out
    · by_cases htp1 : t = p + 1
      · subst htp1
        as_aux_lemma =>
        have HNM : Hid (r = .bad 0 4) := by
          show _ = _
          rw [← HR.out]
          exact name_none (fun z hz => by have := (List.getElem?_eq_some_iff.1 hz).1; rw [HN1.out] at this; omega)
        clear HU
        go_wp2_with fail
        refine (dfail_any HH.out (i := p) (Nat.le_of_lt hp) 4).mono ?_
        rintro e w2 ⟨rfl, hR, hb2⟩
        rw [if_pos rfl, if_pos rfl] at hR
        have HR2 := Lib.hid hR
        have HB2 := Lib.hid hb2
        obtain ⟨k0, k1, k2, k3, k4, k5, k6⟩ := hR.cells
        have m2 := hR.fr 2
        have HE : Hid (StepD X b w p o ts wr r (.returned (.tuple #[])) (w2.setCell ⟨b, 2, none⟩ (.int .i64 ((p + 1 : Nat) : Int)))) := by
          show StepD _ _ _ _ _ _ _ _ _ _
          rw [HNM.out]
          exact stepD_bad (k := 0) (HR2.out.at_ (q := p + 1) (by omega)) (HB2.out.setCell (p := ⟨b, 2, none⟩) (Nat.le_refl _) _)
        clear hR hb2 HNM HR
        go_wp2_with fail
        exact bodyPost_ret (v := .tuple #[]) (by simp [results, Tryz.results83, go_sem]) rfl HE.out
      · as_aux_lemma =>
        have HM : Hid (many nmB (X.L.drop (p + 1)) = t - (p + 1)) := HU.out.many ht1 (by rw [HN1.out]; exact ht2) (fun z hz => by have := (List.getElem?_eq_some_iff.1 hz).1; rw [HN1.out] at this; omega)
        have hNM := name_some HU.out (by omega) HM.out
        rw [HR.out] at hNM
        have hne : ¬ (t : Int) = (p : Int) + 1 := by omega
        by_cases h16 : 16 < t - (p + 1)
        · rw [if_pos h16] at hNM
          have HNM := Lib.hid hNM
          have h16i : (16 : Int) < (t : Int) - (p : Int) - 1 := by omega
          clear HU hNM HM HR
          go_wp2_with fail
          refine (dfail_any HH.out (i := p) (Nat.le_of_lt hp) 2).mono ?_
          rintro e w2 ⟨rfl, hR, hb2⟩
          rw [if_pos rfl, if_pos rfl] at hR
          have HR2 := Lib.hid hR
          have HB2 := Lib.hid hb2
          obtain ⟨k0, k1, k2, k3, k4, k5, k6⟩ := hR.cells
          have m2 := hR.fr 2
          have HE : Hid (StepD X b w p o ts wr r (.returned (.tuple #[])) (w2.setCell ⟨b, 2, none⟩ (.int .i64 t))) := by
            show StepD _ _ _ _ _ _ _ _ _ _
            rw [HNM.out]
            exact stepD_bad (k := 0) (HR2.out.at_ (q := t) ht2) (HB2.out.setCell (p := ⟨b, 2, none⟩) (Nat.le_refl _) _)
          clear hR hb2 HNM
          go_wp2_with fail
          exact bodyPost_ret (v := .tuple #[]) (by simp [results, Tryz.results83, go_sem]) rfl HE.out
        · rw [if_neg h16] at hNM
          have HNM := Lib.hid hNM
          have h16i : ¬ (16 : Int) < (t : Int) - (p : Int) - 1 := by omega
          have hR2 := HH.out.at_ (q := t) ht2
          have HR2 := Lib.hid hR2
          have HRK : Hid (RdK .i64 (w.setCell ⟨b, 2, none⟩ (.int .i64 t)) b (some ⟨bA, oA + (p + 1), none⟩) (t - (p + 1)) (X.cc - (p + 1)) ((X.L.drop (p + 1)).take (t - (p + 1)))) := by
            have h1 := hR2.chars
            rw [HA.out] at h1
            exact (h1.drop (m := p + 1) (by omega)).take (by omega)
          have HLT : Hid (∀ x ∈ (X.L.drop (p + 1)).take (t - (p + 1)), 0 ≤ x ∧ x < 128) := fun x hx => by
            obtain ⟨j, hj, e⟩ := List.getElem_of_mem hx
            have h1 : ((X.L.drop (p + 1)).take (t - (p + 1)))[j]? = some x := by rw [List.getElem?_eq_getElem hj, e]
            have h2 : j < t - (p + 1) := by rw [List.length_take] at hj; omega
            rw [List.getElem?_take_of_lt h2, List.getElem?_drop] at h1
            exact nm_bd (HU.out.1 _ x (by omega) (by omega) h1)
          have hcc2 : ¬ X.cc = p + 1 := by omega
          generalize (X.L.drop (p + 1)).take (t - (p + 1)) = xs at *
          have hsz : b ≤ (w.setCell ⟨b, 2, none⟩ (.int .i64 t)).heap.size := by have := HH.out.size; simp; omega
          have HC := Lib.hid (dtext_any HRK.out hsz (by omega) HLT.out)
          have HBW : Hid (Below b w (w.setCell ⟨b, 2, none⟩ (.int .i64 t))) := (Below.refl b w).setCell (p := ⟨b, 2, none⟩) (Nat.le_refl _) _
          have htp : ((t - (p + 1) : Nat) : Int) = (t : Int) - ((p : Int) + 1) := by omega
          clear HU hNM HM HR hR2 HRK HLT hsz
          go_wp2_with fail
          refine HC.out.mono ?_
          rintro e w2 ⟨rfl, hb2⟩
          have HRW := Lib.hid (HR2.out.below hb2)
          have HB2 := Lib.hid (HBW.out.trans (hb2.mono (by have := HR2.out.size; omega)))
          clear hb2 HC HR2 HBW
          go_wp2_with fail
          refine (dput_any HRW.out 1 0 0 0 xs (i := p) (Nat.le_of_lt hp) hts).mono ?_
          rintro e w3 ⟨rfl, ⟨tv3, hR3⟩, hb3⟩
          have HE : Hid (StepD X b w p o ts wr r (.returned (.tuple #[])) w3) := by
            show StepD _ _ _ _ _ _ _ _ _ _
            rw [HNM.out]
            refine ⟨rfl, HB2.out.trans hb3, tv3, ?_⟩
            rw [show p + (t - (p + 1)) + 1 = t by omega]
            exact hR3
          clear hR3 hb3 HRW HNM
          go_wp2_with fail
          exact bodyPost_ret (v := .tuple #[]) (by simp [results, Tryz.results83, go_sem]) rfl HE.out
end
end Go.Proofs.YtmohefgdpddldaaGreatDoor
