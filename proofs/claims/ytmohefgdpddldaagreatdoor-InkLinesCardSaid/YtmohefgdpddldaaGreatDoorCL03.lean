/- The program's ink: names, and sets. The program's ink: what stands in a set. The program's ink: what stands outside of sets; how deep; Right. The program's ink: whether an item may be written. The pen: a rule's line. The pen: an item's line. The program's Form of layer 7. The program's Items of layer 7. bytes.Cut at a blank, bytes.CutPrefix; the token of an #allow. The token of an #allow. The reader of word. The reader of word: fail, char, skip. The reader of word: put. The reader of word: set, number. The reader of word: name. The reader of quote: one character taken; what stands behind \u{, behind \, and any. What stands behind \, any character, and the program's Read, which catches what is panicked with. The program's Read, which catches what is panicked with. The program's Read, whole. The reader of word: a character of a set, and a range of them. The reader of word: a range of characters. Plain facts on words: notes and what they allow, in bytes as in characters. Bytes that are written out as a text: the row that they lie in. What bytes begin with: the program's First, over the library's decoder. The characters of bytes: the program's Decode and the document's. The reader of word: a note. The reader of word: the next token, outside of sets and in one. The reader of word: the next token in a set. word.read catches what its reader panics with. word.read: all of a text. The program's word.Of. expr.Of. The three fixed texts: what they say. The fixed fact of layer 6 holds. What a text's tokens are like, and plain facts on what two parsers agree on. The document's parser of layer 6: its reader in memory; kind, fail, odd, several, begins. The document's parser of layer 6: fail, odd, several, begins. The document's parser of layer 6: part. -/
import Derived.Test.YtmohefgdpddldaaGreatDoorCL02
import Derived.Deep.RegionHeldLaw
import Derived.Test.YtmohefgdpddldaaGreatDoorCL01
import Derived.Recover
import Derived.Laws.Pointers
import Derived.StillTailTactics
import Derived.Laws.Rows
import Derived.Lib.SlBytesConst
import Derived.Shelf.Unicode.DecodeSlow
set_option maxRecDepth 100000
namespace Go.Proofs.YtmohefgdpddldaaGreatDoor
open Go.RowKit
open Y (Nd It noName)
open K (numsOf nameB twoB threeB aloneB endK pairB inS inF nosB deepB rightB noneB numOk mayB)

theorem ieqn (n : Nat) : ((n : Int) == 0) = decide (n = 0) := by rw [Bool.eq_iff_iff]; simp
/-- May the parts of a set stand in it, of forms of so many nodes? -/
def InSK (k : Nat) : Prop := ∀ (x : Nd), x.size ≤ k → ∀ (w : World) (A : Option Addr) (n c : Nat), RdN w (Lt w) A n c x.kids →
  Calls Tryz.prog 105 #[.agg #[.int .i64 x.kind, .string x.name, .int .i64 x.low, .int .i64 x.high, .slice A n c]] w (BooK w (inS x))
theorem allS_of {k : Nat} (ih : InSK k) {l : List Nd} (hk : Y.sizeL l ≤ k) {w : World} {A : Option Addr} {n c : Nat} (h : RdN w (Lt w) A n c l) :
    Calls Tryz.prog 76 #[.slice A n c, .func (.func 105) #[] #[]] w (BooK w (l.all inS)) :=
  allN_any 105 #[] inS h (enters_of Tryz.func105 (by kernel_rfl) rfl) fun W x A n c hx _ hr => ih x (by have := K.size_in hx; omega) W A n c hr
set_option maxHeartbeats 4000000 in
theorem nos_of {k : Nat} (ih : InSK k) {x : Nd} (hk : Y.sizeL x.kids ≤ k) {w : World} {A : Option Addr} {n c : Nat} (ha : RdN w (Lt w) A n c x.kids) :
    Calls Tryz.prog 78 #[.agg #[.int .i64 x.kind, .string x.name, .int .i64 x.low, .int .i64 x.high, .slice A n c]] w (BooK w (nosB x)) := by
  have HP := Lib.hid (kbelow_push w (.cells #[.int .i64 x.kind, .string x.name, .int .i64 x.low, .int .i64 x.high, .slice A n c] 24))
  have HA := Lib.hid (ha.on HP.out)
  have HROW := Lib.hid (heap_alloc_new w (.cells #[.int .i64 x.kind, .string x.name, .int .i64 x.low, .int .i64 x.high, .slice A n c] 24))
  have hz : (w.alloc (.cells #[.int .i64 x.kind, .string x.name, .int .i64 x.low, .int .i64 x.high, .slice A n c] 24)).heap.size = w.heap.size + 1 := by simp
  have hsm := ha.small
  have HB : Hid (Below w.heap.size w (w.alloc (.cells #[.int .i64 x.kind, .string x.name, .int .i64 x.low, .int .i64 x.high, .slice A n c] 24))) := HP.out
  have HC := Lib.hid (fun W => isName_any x.name W)
  have HAL := Lib.hid (allS_of ih hk HA.out)
  have hF : nosB x = if x.kind = 2 then nameB (numsOf x.name) && (x.low == 0) && (x.high == 0) && ((n : Int) == 0)
      else if x.kind = 4 then decide (x.name.size = 0) && ((x.low == 0) || (x.low == 1)) && (x.high == 0) && x.kids.all inS
      else false := by
    unfold K.nosB; rw [← K.inSL_all, ieqn, ← ha.len]; simp only [beqd]
  clear ha
  by_cases h2 : x.kind = 2
  · rw [if_pos h2] at hF
    have HF := Lib.hid hF
    have k2 : (x.kind == 2) = true := by simpa using h2
    clear hF h2 HA HAL
    generalize nameB (numsOf x.name) = q at *
    go_enter Tryz.func78, Tryz.ntmps78
    go_wp2_with fail
    generalize w.alloc (.cells #[.int .i64 x.kind, .string x.name, .int .i64 x.low, .int .i64 x.high, .slice A n c] 24) = W1 at *
    refine (HC.out _).mono ?_
    rintro e w2 ⟨rfl, hb2⟩
    have HB2 := Lib.hid (HB.out.trans (hb2.mono HB.out.size))
    clear HB
    have HB := HB2
    clear HB2
    have HROW2 := Lib.hid ((hb2.block w.heap.size (by omega)).trans HROW.out)
    clear HROW
    have HROW := HROW2
    clear HROW2
    obtain ⟨r0, r1, r2, r3, r4⟩ := cells5 HROW.out
    have hz2 := hb2.size
    clear hb2
    cases q with
    | false =>
      go_wp2_with fail
      go_ret
      exact ⟨ret_bool (by rw [HF.out]; rfl), HB.out⟩
    | true =>
      cases g1 : (x.low == 0) with
      | false =>
        rw [g1] at HF
        go_wp2_with fail
        go_ret
        exact ⟨ret_bool (by rw [HF.out]; rfl), HB.out⟩
      | true =>
        rw [g1] at HF
        cases g2 : (x.high == 0) with
        | false =>
          rw [g2] at HF
          go_wp2_with fail
          go_ret
          exact ⟨ret_bool (by rw [HF.out]; rfl), HB.out⟩
        | true =>
          rw [g2] at HF
          go_wp2_with fail
          go_ret
          exact ⟨ret_bool (by rw [HF.out]; rfl), HB.out⟩
  · rw [if_neg h2] at hF
    have k2 : (x.kind == 2) = false := by simpa using h2
    by_cases h4 : x.kind = 4
    · rw [if_pos h4] at hF
      have HF := Lib.hid hF
      have k4 : (x.kind == 4) = true := by simpa using h4
      clear hF h2 h4 HA HC
      generalize x.kids.all inS = q at *
      go_enter Tryz.func78, Tryz.ntmps78
      by_cases g0 : x.name.size = 0
      · have g0' := str_none g0
        rw [decide_eq_true g0] at HF
        clear g0
        cases g7 : (x.low == 0) with
        | true =>
          rw [g7] at HF
          cases g3 : (x.high == 0) with
          | false =>
            rw [g3] at HF
            go_wp2_with fail
            go_ret
            exact ⟨ret_bool (by rw [HF.out]; rfl), HB.out⟩
          | true =>
            rw [g3] at HF
            go_wp2_with fail
            refine HAL.out.mono ?_
            rintro e w2 ⟨rfl, hb2⟩
            have HB2 := Lib.hid (HB.out.trans (hb2.mono HB.out.size))
            clear HB
            have HB := HB2
            clear HB2
            have HROW2 := Lib.hid ((hb2.block w.heap.size (by omega)).trans HROW.out)
            clear HROW
            have HROW := HROW2
            clear HROW2
            obtain ⟨r0, r1, r2, r3, r4⟩ := cells5 HROW.out
            have hz2 := hb2.size
            clear hb2
            go_wp2_with fail
            go_ret
            exact ⟨ret_bool (by rw [HF.out]; rfl), HB.out⟩
        | false =>
          rw [g7] at HF
          cases g3 : (x.low == 1) with
          | false =>
            rw [g3] at HF
            go_wp2_with fail
            go_ret
            exact ⟨ret_bool (by rw [HF.out]; rfl), HB.out⟩
          | true =>
            rw [g3] at HF
            cases g4 : (x.high == 0) with
            | false =>
              rw [g4] at HF
              go_wp2_with fail
              go_ret
              exact ⟨ret_bool (by rw [HF.out]; rfl), HB.out⟩
            | true =>
              rw [g4] at HF
              go_wp2_with fail
              refine HAL.out.mono ?_
              rintro e w2 ⟨rfl, hb2⟩
              have HB2 := Lib.hid (HB.out.trans (hb2.mono HB.out.size))
              clear HB
              have HB := HB2
              clear HB2
              have HROW2 := Lib.hid ((hb2.block w.heap.size (by omega)).trans HROW.out)
              clear HROW
              have HROW := HROW2
              clear HROW2
              obtain ⟨r0, r1, r2, r3, r4⟩ := cells5 HROW.out
              have hz2 := hb2.size
              clear hb2
              go_wp2_with fail
              go_ret
              exact ⟨ret_bool (by rw [HF.out]; rfl), HB.out⟩

      · have g0' := str_some g0
        rw [decide_eq_false g0] at HF
        clear g0
        go_wp2_with fail
        go_ret
        exact ⟨ret_bool (by rw [HF.out]; rfl), HB.out⟩
    · rw [if_neg h4] at hF
      have HF := Lib.hid hF
      have k4 : (x.kind == 4) = false := by simpa using h4
      clear hF h2 h4 HA HC HAL
      go_enter Tryz.func78, Tryz.ntmps78
      go_wp2_with fail
      go_ret
      exact ⟨ret_bool (by rw [HF.out]), HB.out⟩
end Go.Proofs.YtmohefgdpddldaaGreatDoor
namespace Go.Proofs.YtmohefgdpddldaaGreatDoor
open Go.RowKit
open Y (Nd It noName)
open K (numsOf nameB twoB threeB aloneB endK pairB inS inF nosB deepB rightB noneB numOk mayB)

theorem ieqn_kids (x : Nd) {n : Nat} (h : x.kids.length = n) : ((n : Int) == 0) = decide (x.kids.length = 0) := by rw [ieqn, h]
set_option maxHeartbeats 8000000 in
theorem inS_step {k : Nat} (ih : InSK k) : InSK (k + 1) := by
  intro x hk w A n c ha
  have hkk : Y.sizeL x.kids ≤ k := by have := K.size_eq x; omega
  have HP := Lib.hid (kbelow_push w (.cells #[.int .i64 x.kind, .string x.name, .int .i64 x.low, .int .i64 x.high, .slice A n c] 24))
  have HA := Lib.hid (ha.on HP.out)
  have HROW := Lib.hid (heap_alloc_new w (.cells #[.int .i64 x.kind, .string x.name, .int .i64 x.low, .int .i64 x.high, .slice A n c] 24))
  have hz : (w.alloc (.cells #[.int .i64 x.kind, .string x.name, .int .i64 x.low, .int .i64 x.high, .slice A n c] 24)).heap.size = w.heap.size + 1 := by simp
  have hsm := ha.small
  have HB : Hid (Below w.heap.size w (w.alloc (.cells #[.int .i64 x.kind, .string x.name, .int .i64 x.low, .int .i64 x.high, .slice A n c] 24))) := HP.out
  have HCA : Hid (∀ W, Calls Tryz.prog 72 #[.agg #[.int .i64 x.kind, .string x.name, .int .i64 x.low, .int .i64 x.high, .slice A n c]] W (BooK W (aloneB x.name x.low x.high))) := fun W => alone_any
  have HCP : Hid (∀ W, Below w.heap.size w W → Calls Tryz.prog 125 #[.agg #[.int .i64 x.kind, .string x.name, .int .i64 x.low, .int .i64 x.high, .slice A n c]] W (BooK W (pairB x.kind x.kids))) := fun W h => isPair_any (ha.on h)
  have HAL : Hid (∀ W, Below w.heap.size w W → Calls Tryz.prog 76 #[.slice A n c, .func (.func 105) #[] #[]] W (BooK W (x.kids.all inS))) := fun W h => allS_of ih hkk (ha.on h)
  have HNO : Hid (∀ W, Below w.heap.size w W → Calls Tryz.prog 78 #[.agg #[.int .i64 x.kind, .string x.name, .int .i64 x.low, .int .i64 x.high, .slice A n c]] W (BooK W (nosB x))) := fun W h => nos_of ih hkk (ha.on h)
  have hF := K.inS_eq x
  rw [← ieqn_kids x ha.len] at hF
  clear ha ih HA hk
  by_cases h5 : x.kind = 5
  · rw [if_pos h5] at hF
    have k5 : (x.kind == 5) = true := by rw [beqd]; exact decide_eq_true (by omega)
    have HF := Lib.hid hF
    clear hF h5 HCA HCP HAL HNO
    generalize inS x = res at *
    go_enter Tryz.func105, Tryz.ntmps105
    by_cases g0 : x.name.size = 0
    · have g0' := str_none g0
      rw [decide_eq_true g0] at HF
      clear g0
      cases g1 : ((n : Int) == 0) with
      | false =>
        rw [g1] at HF
        go_wp2_with fail
        go_ret
        exact ⟨ret_bool (by rw [HF.out]; rfl), HB.out⟩
      | true =>
        rw [g1] at HF
        by_cases g2 : 0 ≤ x.low
        · rw [decide_eq_true g2] at HF
          by_cases g3 : x.low ≤ x.high
          · rw [decide_eq_true g3] at HF
            go_wp2_with fail
            go_ret
            exact ⟨ret_bool (by rw [HF.out]; rfl), HB.out⟩
          · rw [decide_eq_false g3] at HF
            go_wp2_with fail
            go_ret
            exact ⟨ret_bool (by rw [HF.out]; rfl), HB.out⟩
        · rw [decide_eq_false g2] at HF
          go_wp2_with fail
          go_ret
          exact ⟨ret_bool (by rw [HF.out]; rfl), HB.out⟩
    · have g0' := str_some g0
      rw [decide_eq_false g0] at HF
      clear g0
      go_wp2_with fail
      go_ret
      exact ⟨ret_bool (by rw [HF.out]; rfl), HB.out⟩
  · rw [if_neg h5] at hF
    have k5 : (x.kind == 5) = false := by rw [beqd]; exact decide_eq_false (by omega)
    by_cases h67 : x.kind = 6 ∨ x.kind = 7
    · rw [if_pos h67] at hF
      have HF := Lib.hid hF
      have h67' : (x.kind == 6) = true ∨ (x.kind == 6) = false ∧ (x.kind == 7) = true := by simp only [beqd]; rcases h67 with h | h <;> simp [h]
      clear hF h5 h67 HNO
      generalize inS x = res at *
      generalize aloneB x.name x.low x.high = q at *
      generalize pairB x.kind x.kids = q2 at *
      generalize x.kids.all inS = q3 at *
      rcases h67' with k6 | ⟨k6, k7⟩
      all_goals
        go_enter Tryz.func105, Tryz.ntmps105
        go_wp2_with fail
        refine (HCA.out _).mono ?_
        rintro e w2 ⟨rfl, hb2⟩
        have HB2 := Lib.hid (HB.out.trans (hb2.mono HB.out.size))
        clear HB
        have HB := HB2
        clear HB2
        have HROW2 := Lib.hid ((hb2.block w.heap.size (by omega)).trans HROW.out)
        clear HROW
        have HROW := HROW2
        clear HROW2
        obtain ⟨r0, r1, r2, r3, r4⟩ := cells5 HROW.out
        have hz2 := hb2.size
        clear hb2
        cases q with
        | false =>
          go_wp2_with fail
          go_ret
          exact ⟨ret_bool (by rw [HF.out]; rfl), HB.out⟩
        | true =>
          go_wp2_with fail
          refine (HCP.out _ HB.out).mono ?_
          rintro e w2 ⟨rfl, hb2⟩
          have HB2 := Lib.hid (HB.out.trans (hb2.mono HB.out.size))
          clear HB
          have HB := HB2
          clear HB2
          have HROW2 := Lib.hid ((hb2.block w.heap.size (by omega)).trans HROW.out)
          clear HROW
          have HROW := HROW2
          clear HROW2
          obtain ⟨r0, r1, r2, r3, r4⟩ := cells5 HROW.out
          have hz2 := hb2.size
          clear hb2
          cases q2 with
          | false =>
            go_wp2_with fail
            go_ret
            exact ⟨ret_bool (by rw [HF.out]; rfl), HB.out⟩
          | true =>
            go_wp2_with fail
            refine (HAL.out _ HB.out).mono ?_
            rintro e w2 ⟨rfl, hb2⟩
            have HB2 := Lib.hid (HB.out.trans (hb2.mono HB.out.size))
            clear HB
            have HB := HB2
            clear HB2
            have HROW2 := Lib.hid ((hb2.block w.heap.size (by omega)).trans HROW.out)
            clear HROW
            have HROW := HROW2
            clear HROW2
            obtain ⟨r0, r1, r2, r3, r4⟩ := cells5 HROW.out
            have hz2 := hb2.size
            clear hb2
            go_wp2_with fail
            go_ret
            exact ⟨ret_bool (by rw [HF.out]; rfl), HB.out⟩
    · rw [if_neg h67] at hF
      have HF := Lib.hid hF
      have k6 : (x.kind == 6) = false := by rw [beqd]; exact decide_eq_false (by omega)
      have k7 : (x.kind == 7) = false := by rw [beqd]; exact decide_eq_false (by omega)
      clear hF h5 h67 HCA HCP HAL
      generalize inS x = res at *
      generalize nosB x = q at *
      go_enter Tryz.func105, Tryz.ntmps105
      go_wp2_with fail
      refine (HNO.out _ HB.out).mono ?_
      rintro e w2 ⟨rfl, hb2⟩
      have HB2 := Lib.hid (HB.out.trans (hb2.mono HB.out.size))
      clear HB
      have HB := HB2
      clear HB2
      have HROW2 := Lib.hid ((hb2.block w.heap.size (by omega)).trans HROW.out)
      clear HROW
      have HROW := HROW2
      clear HROW2
      obtain ⟨r0, r1, r2, r3, r4⟩ := cells5 HROW.out
      have hz2 := hb2.size
      clear hb2
      go_wp2_with fail
      go_ret
      exact ⟨ret_bool HF.out.symm, HB.out⟩
theorem inS_all : ∀ k : Nat, InSK k := by
  intro k
  induction k with
  | zero => intro x h; have := Nd.size_pos x; omega
  | succ k ih => exact inS_step ih
theorem nos_any {x : Nd} {w : World} {A : Option Addr} {n c : Nat} (ha : RdN w (Lt w) A n c x.kids) :
    Calls Tryz.prog 78 #[.agg #[.int .i64 x.kind, .string x.name, .int .i64 x.low, .int .i64 x.high, .slice A n c]] w (BooK w (nosB x)) := nos_of (inS_all _) (Nat.le_refl _) ha
end Go.Proofs.YtmohefgdpddldaaGreatDoor
namespace Go.Proofs.YtmohefgdpddldaaGreatDoor
open Go.RowKit
open Y (Nd It noName)
open K (numsOf nameB twoB threeB aloneB endK pairB inS inF nosB deepB rightB noneB numOk mayB)

/-- May it stand outside of sets, of forms of so many nodes? -/
def InFK (k : Nat) : Prop := ∀ (x : Nd), x.size ≤ k → ∀ (w : World) (A : Option Addr) (n c : Nat), RdN w (Lt w) A n c x.kids →
  Calls Tryz.prog 40 #[.agg #[.int .i64 x.kind, .string x.name, .int .i64 x.low, .int .i64 x.high, .slice A n c]] w (BooK w (inF x))
theorem allF_of {k : Nat} (ih : InFK k) {l : List Nd} (hk : Y.sizeL l ≤ k) {w : World} {A : Option Addr} {n c : Nat} (h : RdN w (Lt w) A n c l) :
    Calls Tryz.prog 76 #[.slice A n c, .func (.func 40) #[] #[]] w (BooK w (l.all inF)) :=
  allN_any 40 #[] inF h (enters_of Tryz.func40 (by kernel_rfl) rfl) fun W x A n c hx _ hr => ih x (by have := K.size_in hx; omega) W A n c hr
theorem ieq1_kids (x : Nd) {n : Nat} (h : x.kids.length = n) : ((n : Int) == 1) = decide (x.kids.length = 1) := by rw [Bool.eq_iff_iff, h]; simp; omega
theorem ige2_kids (x : Nd) {n : Nat} (h : x.kids.length = n) : decide ((2 : Int) ≤ (n : Int)) = decide (2 ≤ x.kids.length) := by rw [Bool.eq_iff_iff, h]; simp; omega
set_option maxHeartbeats 8000000 in
theorem inF_step {k : Nat} (ih : InFK k) : InFK (k + 1) := by
  intro x hk w A n c ha
  have hkk : Y.sizeL x.kids ≤ k := by have := K.size_eq x; omega
  have HP := Lib.hid (kbelow_push w (.cells #[.int .i64 x.kind, .string x.name, .int .i64 x.low, .int .i64 x.high, .slice A n c] 24))
  have HA := Lib.hid (ha.on HP.out)
  have HROW := Lib.hid (heap_alloc_new w (.cells #[.int .i64 x.kind, .string x.name, .int .i64 x.low, .int .i64 x.high, .slice A n c] 24))
  have hz : (w.alloc (.cells #[.int .i64 x.kind, .string x.name, .int .i64 x.low, .int .i64 x.high, .slice A n c] 24)).heap.size = w.heap.size + 1 := by simp
  have hsm := ha.small
  have HB : Hid (Below w.heap.size w (w.alloc (.cells #[.int .i64 x.kind, .string x.name, .int .i64 x.low, .int .i64 x.high, .slice A n c] 24))) := HP.out
  have HCA : Hid (∀ W, Calls Tryz.prog 72 #[.agg #[.int .i64 x.kind, .string x.name, .int .i64 x.low, .int .i64 x.high, .slice A n c]] W (BooK W (aloneB x.name x.low x.high))) := fun W => alone_any
  have HAL : Hid (∀ W, Below w.heap.size w W → Calls Tryz.prog 76 #[.slice A n c, .func (.func 40) #[] #[]] W (BooK W (x.kids.all inF))) := fun W h => allF_of ih hkk (ha.on h)
  have HNO : Hid (∀ W, Below w.heap.size w W → Calls Tryz.prog 78 #[.agg #[.int .i64 x.kind, .string x.name, .int .i64 x.low, .int .i64 x.high, .slice A n c]] W (BooK W (nosB x))) := fun W h => nos_any (ha.on h)
  have hF := K.inF_eq x
  rw [← ieqn_kids x ha.len, ← ieq1_kids x ha.len, ← ige2_kids x ha.len] at hF
  clear ha ih HA hk
  generalize inF x = res at *
  generalize aloneB x.name x.low x.high = q at *
  generalize x.kids.all inF = q3 at *
  by_cases h13 : x.kind = 1 ∨ x.kind = 3
  · rw [if_pos h13] at hF
    have HF := Lib.hid hF
    have h13' : (x.kind == 1) = true ∨ (x.kind == 1) = false ∧ (x.kind == 3) = true := by simp only [beqd]; rcases h13 with h | h <;> simp [h]
    clear hF h13 HNO HAL
    rcases h13' with k1 | ⟨k1, k3⟩
    all_goals
      go_enter Tryz.func40, Tryz.ntmps40
      go_wp2_with fail
      refine (HCA.out _).mono ?_
      rintro e w2 ⟨rfl, hb2⟩
      have HB2 := Lib.hid (HB.out.trans (hb2.mono HB.out.size))
      clear HB
      have HB := HB2
      clear HB2
      have HROW2 := Lib.hid ((hb2.block w.heap.size (by omega)).trans HROW.out)
      clear HROW
      have HROW := HROW2
      clear HROW2
      obtain ⟨r0, r1, r2, r3, r4⟩ := cells5 HROW.out
      have hz2 := hb2.size
      clear hb2
      cases q with
      | false =>
        go_wp2_with fail
        go_ret
        exact ⟨ret_bool (by rw [HF.out]; rfl), HB.out⟩
      | true =>
        go_wp2_with fail
        go_ret
        exact ⟨ret_bool (by rw [HF.out]; rfl), HB.out⟩
  · rw [if_neg h13] at hF
    have k1 : (x.kind == 1) = false := by rw [beqd]; exact decide_eq_false (by omega)
    have k3 : (x.kind == 3) = false := by rw [beqd]; exact decide_eq_false (by omega)
    clear h13
    by_cases h89 : x.kind = 8 ∨ x.kind = 9
    · rw [if_pos h89] at hF
      have HF := Lib.hid hF
      have h89' : (x.kind == 8) = true ∨ (x.kind == 8) = false ∧ (x.kind == 9) = true := by simp only [beqd]; rcases h89 with h | h <;> simp [h]
      clear hF h89 HNO
      rcases h89' with k8 | ⟨k8, k9⟩
      all_goals
        go_enter Tryz.func40, Tryz.ntmps40
        go_wp2_with fail
        refine (HCA.out _).mono ?_
        rintro e w2 ⟨rfl, hb2⟩
        have HB2 := Lib.hid (HB.out.trans (hb2.mono HB.out.size))
        clear HB
        have HB := HB2
        clear HB2
        have HROW2 := Lib.hid ((hb2.block w.heap.size (by omega)).trans HROW.out)
        clear HROW
        have HROW := HROW2
        clear HROW2
        obtain ⟨r0, r1, r2, r3, r4⟩ := cells5 HROW.out
        have hz2 := hb2.size
        clear hb2
        cases q with
        | false =>
          go_wp2_with fail
          go_ret
          exact ⟨ret_bool (by rw [HF.out]; rfl), HB.out⟩
        | true =>
          by_cases g1 : (2 : Int) ≤ (n : Int)
          · rw [decide_eq_true g1] at HF
            go_wp2_with fail
            refine (HAL.out _ HB.out).mono ?_
            rintro e w2 ⟨rfl, hb2⟩
            have HB2 := Lib.hid (HB.out.trans (hb2.mono HB.out.size))
            clear HB
            have HB := HB2
            clear HB2
            have HROW2 := Lib.hid ((hb2.block w.heap.size (by omega)).trans HROW.out)
            clear HROW
            have HROW := HROW2
            clear HROW2
            obtain ⟨r0, r1, r2, r3, r4⟩ := cells5 HROW.out
            have hz2 := hb2.size
            clear hb2
            go_wp2_with fail
            go_ret
            exact ⟨ret_bool (by rw [HF.out]; rfl), HB.out⟩
          · rw [decide_eq_false g1] at HF
            go_wp2_with fail
            go_ret
            exact ⟨ret_bool (by rw [HF.out]; rfl), HB.out⟩
    · rw [if_neg h89] at hF
      have k8 : (x.kind == 8) = false := by rw [beqd]; exact decide_eq_false (by omega)
      have k9 : (x.kind == 9) = false := by rw [beqd]; exact decide_eq_false (by omega)
      clear h89
      by_cases h3 : x.kind = 10 ∨ x.kind = 11 ∨ x.kind = 12
      · rw [if_pos h3] at hF
        have HF := Lib.hid hF
        have h3' : (x.kind == 10) = true ∨ (x.kind == 10) = false ∧ (x.kind == 11) = true ∨ (x.kind == 10) = false ∧ (x.kind == 11) = false ∧ (x.kind == 12) = true := by simp only [beqd]; rcases h3 with h | h | h <;> simp [h]
        clear hF h3 HNO
        rcases h3' with k10 | ⟨k10, k11⟩ | ⟨k10, k11, k12⟩
        all_goals
          go_enter Tryz.func40, Tryz.ntmps40
          go_wp2_with fail
          refine (HCA.out _).mono ?_
          rintro e w2 ⟨rfl, hb2⟩
          have HB2 := Lib.hid (HB.out.trans (hb2.mono HB.out.size))
          clear HB
          have HB := HB2
          clear HB2
          have HROW2 := Lib.hid ((hb2.block w.heap.size (by omega)).trans HROW.out)
          clear HROW
          have HROW := HROW2
          clear HROW2
          obtain ⟨r0, r1, r2, r3, r4⟩ := cells5 HROW.out
          have hz2 := hb2.size
          clear hb2
          cases q with
          | false =>
            go_wp2_with fail
            go_ret
            exact ⟨ret_bool (by rw [HF.out]; rfl), HB.out⟩
          | true =>
            cases g1 : ((n : Int) == 1) with
            | false =>
              rw [g1] at HF
              go_wp2_with fail
              go_ret
              exact ⟨ret_bool (by rw [HF.out]; rfl), HB.out⟩
            | true =>
              rw [g1] at HF
              go_wp2_with fail
              refine (HAL.out _ HB.out).mono ?_
              rintro e w2 ⟨rfl, hb2⟩
              have HB2 := Lib.hid (HB.out.trans (hb2.mono HB.out.size))
              clear HB
              have HB := HB2
              clear HB2
              have HROW2 := Lib.hid ((hb2.block w.heap.size (by omega)).trans HROW.out)
              clear HROW
              have HROW := HROW2
              clear HROW2
              obtain ⟨r0, r1, r2, r3, r4⟩ := cells5 HROW.out
              have hz2 := hb2.size
              clear hb2
              go_wp2_with fail
              go_ret
              exact ⟨ret_bool (by rw [HF.out]; rfl), HB.out⟩
      · rw [if_neg h3] at hF
        have HF := Lib.hid hF
        have k10 : (x.kind == 10) = false := by rw [beqd]; exact decide_eq_false (by omega)
        have k11 : (x.kind == 11) = false := by rw [beqd]; exact decide_eq_false (by omega)
        have k12 : (x.kind == 12) = false := by rw [beqd]; exact decide_eq_false (by omega)
        clear hF h3 HCA HAL
        generalize nosB x = q5 at *
        go_enter Tryz.func40, Tryz.ntmps40
        go_wp2_with fail
        refine (HNO.out _ HB.out).mono ?_
        rintro e w2 ⟨rfl, hb2⟩
        have HB2 := Lib.hid (HB.out.trans (hb2.mono HB.out.size))
        clear HB
        have HB := HB2
        clear HB2
        have HROW2 := Lib.hid ((hb2.block w.heap.size (by omega)).trans HROW.out)
        clear HROW
        have HROW := HROW2
        clear HROW2
        obtain ⟨r0, r1, r2, r3, r4⟩ := cells5 HROW.out
        have hz2 := hb2.size
        clear hb2
        go_wp2_with fail
        go_ret
        exact ⟨ret_bool HF.out.symm, HB.out⟩
theorem inF_all : ∀ k : Nat, InFK k := by
  intro k
  induction k with
  | zero => intro x h; have := Nd.size_pos x; omega
  | succ k ih => exact inF_step ih
/-- Is a form at most so many deep? -/
def DeepK (m : Nat) : Prop := ∀ (x : Nd) (w : World) (A : Option Addr) (n c : Nat), RdN w (Lt w) A n c x.kids →
  Calls Tryz.prog 39 #[.agg #[.int .i64 x.kind, .string x.name, .int .i64 x.low, .int .i64 x.high, .slice A n c], .int .i64 m] w (BooK w (deepB m x))
set_option maxHeartbeats 4000000 in
theorem deep_pred {m : Nat} (hm : m ≤ 1000) (ih : DeepK m) (l : List Nd) (w : World) (b : Nat) (hb : b < w.heap.size) (hc : w.cell? ⟨b, 0, none⟩ = some (.int .i64 ((m + 1 : Nat) : Int))) :
    PredN 77 #[.pointer (some ⟨b, 0, none⟩)] (deepB m) l w := fun W x A n c hx hW hr => by
  obtain ⟨M, hM⟩ : ∃ M : Int, M = ((m + 1 : Nat) : Int) := ⟨_, rfl⟩
  have hc' : W.cell? ⟨b, 0, none⟩ = some (.int .i64 M) := by rw [hM]; exact (hW.cell (p := ⟨b, 0, none⟩) hb).trans hc
  have hb' : b < W.heap.size := Nat.lt_of_lt_of_le hb hW.size
  have HP := Lib.hid (kbelow_push W (.cells #[.int .i64 x.kind, .string x.name, .int .i64 x.low, .int .i64 x.high, .slice A n c] 24))
  have hcall := ih x _ A n c (hr.on HP.out)
  rw [show (m : Int) = M - 1 by omega] at hcall
  have HC := Lib.hid hcall
  have hM0 : 0 ≤ M := by omega
  have hM1 : M ≤ 2000 := by omega
  clear hr hW hc hcall hx ih hM
  show Calls Tryz.prog 77 #[.agg #[.int .i64 x.kind, .string x.name, .int .i64 x.low, .int .i64 x.high, .slice A n c], .pointer (some ⟨b, 0, none⟩)] W _
  go_enter Tryz.func77, Tryz.ntmps77
  go_wp2_with fail
  refine HC.out.mono ?_
  rintro e w2 ⟨rfl, hb2⟩
  have HB := Lib.hid (HP.out.trans (hb2.mono HP.out.size))
  clear hb2
  go_wp2_with fail
  go_ret
  exact ⟨rfl, HB.out⟩
set_option maxHeartbeats 4000000 in
theorem deep_all : ∀ m : Nat, m ≤ 1000 → DeepK m := by
  intro m
  induction m with
  | zero =>
    intro _ x w A n c ha
    have HB : Hid (Below w.heap.size w ((w.alloc (.cells #[.int .i64 x.kind, .string x.name, .int .i64 x.low, .int .i64 x.high, .slice A n c] 24)).alloc (.cells #[.int .i64 0] 3))) := (kbelow_push w _).alloc (by simp) _
    have HF : Hid (deepB 0 x = false) := by show _ = _; cases x; rw [K.deepB]
    clear ha
    go_enter Tryz.func39, Tryz.ntmps39
    go_wp2_with fail
    go_ret
    exact ⟨ret_bool HF.out.symm, HB.out⟩
  | succ m ih =>
    intro hm x w A n c ha
    obtain ⟨M, hM⟩ : ∃ M : Int, M = ((m + 1 : Nat) : Int) := ⟨_, rfl⟩
    have HB : Hid (Below w.heap.size w ((w.alloc (.cells #[.int .i64 x.kind, .string x.name, .int .i64 x.low, .int .i64 x.high, .slice A n c] 24)).alloc (.cells #[.int .i64 M] 3))) := (kbelow_push w _).alloc (by simp) _
    have HF : Hid (deepB (m + 1) x = x.kids.all (deepB m)) := K.deepB_eq m x
    have HC := Lib.hid (allN_any 77 #[.pointer (some ⟨w.heap.size + 1, 0, none⟩)] (deepB m) (ha.on HB.out) (enters_of Tryz.func77 (by kernel_rfl) rfl)
      (deep_pred (by omega) (ih (by omega)) x.kids _ (w.heap.size + 1) (by simp) (by rw [← hM]; simp)))
    have hM0 : 0 < M := by omega
    rw [← hM]
    generalize deepB (m + 1) x = res at *
    generalize x.kids.all (deepB m) = q at *
    clear ha ih hM
    go_enter Tryz.func39, Tryz.ntmps39
    go_wp2_with fail
    refine HC.out.mono ?_
    rintro e w2 ⟨rfl, hb2⟩
    have HB2 := Lib.hid (HB.out.trans (hb2.mono HB.out.size))
    clear hb2
    go_wp2_with fail
    go_ret
    exact ⟨ret_bool HF.out.symm, HB2.out⟩
set_option maxHeartbeats 4000000 in
theorem right_any {x : Nd} {w : World} {A : Option Addr} {n c : Nat} (ha : RdN w (Lt w) A n c x.kids) :
    Calls Tryz.prog 16 #[.agg #[.int .i64 x.kind, .string x.name, .int .i64 x.low, .int .i64 x.high, .slice A n c]] w (BooK w (rightB x)) := by
  have HP := Lib.hid (kbelow_push w (.cells #[.int .i64 x.kind, .string x.name, .int .i64 x.low, .int .i64 x.high, .slice A n c] 24))
  have HA := Lib.hid (ha.on HP.out)
  have HROW := Lib.hid (heap_alloc_new w (.cells #[.int .i64 x.kind, .string x.name, .int .i64 x.low, .int .i64 x.high, .slice A n c] 24))
  have hz : (w.alloc (.cells #[.int .i64 x.kind, .string x.name, .int .i64 x.low, .int .i64 x.high, .slice A n c] 24)).heap.size = w.heap.size + 1 := by simp
  have hsm := ha.small
  have HB : Hid (Below w.heap.size w (w.alloc (.cells #[.int .i64 x.kind, .string x.name, .int .i64 x.low, .int .i64 x.high, .slice A n c] 24))) := HP.out
  obtain ⟨R, hR⟩ : ∃ R : Int, R = ((min x.size 100000 : Nat) : Int) := ⟨_, rfl⟩
  have HSZ := size_any HA.out
  rw [← hR] at HSZ
  replace HSZ := Lib.hid HSZ
  have HD : Hid (∀ W, Below w.heap.size w W → Calls Tryz.prog 39 #[.agg #[.int .i64 x.kind, .string x.name, .int .i64 x.low, .int .i64 x.high, .slice A n c], .int .i64 100] W (BooK W (deepB 100 x))) := fun W h => deep_all 100 (by decide) x W A n c (ha.on h)
  have HI : Hid (∀ W, Below w.heap.size w W → Calls Tryz.prog 40 #[.agg #[.int .i64 x.kind, .string x.name, .int .i64 x.low, .int .i64 x.high, .slice A n c]] W (BooK W (inF x))) := fun W h => inF_all x.size x (Nat.le_refl _) W A n c (ha.on h)
  have HF : Hid (rightB x = (decide (R ≤ 500) && deepB 100 x && inF x)) := by
    show _ = _
    unfold K.rightB
    congr 2
    rw [decide_eq_decide]; omega
  clear ha HA hR
  generalize rightB x = res at *
  generalize deepB 100 x = q at *
  generalize inF x = q2 at *
  go_enter Tryz.func16, Tryz.ntmps16
  go_wp2_with fail
  generalize w.alloc (.cells #[.int .i64 x.kind, .string x.name, .int .i64 x.low, .int .i64 x.high, .slice A n c] 24) = W1 at *
  refine (HSZ.out).mono ?_
  rintro e w2 ⟨rfl, hb2⟩
  have HB2 := Lib.hid (HB.out.trans (hb2.mono HB.out.size))
  clear HB
  have HB := HB2
  clear HB2
  have HROW2 := Lib.hid ((hb2.block w.heap.size (by omega)).trans HROW.out)
  clear HROW
  have HROW := HROW2
  clear HROW2
  obtain ⟨r0, r1, r2, r3, r4⟩ := cells5 HROW.out
  have hz2 := hb2.size
  clear hb2
  by_cases g0 : R ≤ 500
  · rw [decide_eq_true g0] at HF
    go_wp2_with fail
    refine (HD.out _ HB.out).mono ?_
    rintro e w2 ⟨rfl, hb2⟩
    have HB2 := Lib.hid (HB.out.trans (hb2.mono HB.out.size))
    clear HB
    have HB := HB2
    clear HB2
    have HROW2 := Lib.hid ((hb2.block w.heap.size (by omega)).trans HROW.out)
    clear HROW
    have HROW := HROW2
    clear HROW2
    obtain ⟨r0, r1, r2, r3, r4⟩ := cells5 HROW.out
    have hz2 := hb2.size
    clear hb2
    cases q with
    | false =>
      go_wp2_with fail
      go_ret
      exact ⟨ret_bool (by rw [HF.out]; rfl), HB.out⟩
    | true =>
      go_wp2_with fail
      refine (HI.out _ HB.out).mono ?_
      rintro e w2 ⟨rfl, hb2⟩
      have HB2 := Lib.hid (HB.out.trans (hb2.mono HB.out.size))
      clear HB
      have HB := HB2
      clear HB2
      have HROW2 := Lib.hid ((hb2.block w.heap.size (by omega)).trans HROW.out)
      clear HROW
      have HROW := HROW2
      clear HROW2
      obtain ⟨r0, r1, r2, r3, r4⟩ := cells5 HROW.out
      have hz2 := hb2.size
      clear hb2
      go_wp2_with fail
      go_ret
      exact ⟨ret_bool (by rw [HF.out]; rfl), HB.out⟩
  · rw [decide_eq_false g0] at HF
    go_wp2_with fail
    go_ret
    exact ⟨ret_bool (by rw [HF.out]; rfl), HB.out⟩
end Go.Proofs.YtmohefgdpddldaaGreatDoor
namespace Go.Proofs.YtmohefgdpddldaaGreatDoor
open Go.RowKit
open Y (Nd It noName)
open K (numsOf nameB twoB threeB aloneB endK pairB inS inF nosB deepB rightB noneB numOk mayB)

open W (lettersB)
theorem may_eq (x : It) : mayB x = if x.kind = 1 then nameB (numsOf x.name) && (x.number == 0) && !x.cut && rightB x.before && noneB x.after
    else if x.kind = 2 then decide (x.name.size = 0) && numOk x.number && rightB x.before && rightB x.after
    else if x.kind = 3 then lettersB (numsOf x.name) && ((x.number == -1) || numOk x.number) && !x.cut && noneB x.before && noneB x.after
    else false := by unfold K.mayB; simp only [beqd]
set_option maxHeartbeats 8000000 in
theorem may_any {x : It} {w : World} {Ab Aa : Option Addr} {nb cb na ca : Nat} (hs : x.name.size ≤ 140737488355328) (hkb : RdN w (Lt w) Ab nb cb x.before.kids) (hka : RdN w (Lt w) Aa na ca x.after.kids) :
    Calls Tryz.prog 14 #[.agg #[.int .i64 x.kind, .string x.name, .int .i64 x.number, .bool x.cut, .int .i64 x.before.kind, .string x.before.name, .int .i64 x.before.low, .int .i64 x.before.high, .slice Ab nb cb, .int .i64 x.after.kind, .string x.after.name, .int .i64 x.after.low, .int .i64 x.after.high, .slice Aa na ca, .int .i64 x.pos]] w (BooK w (mayB x)) := by
  have HP := Lib.hid (kbelow_push w (.cells #[.int .i64 x.kind, .string x.name, .int .i64 x.number, .bool x.cut, .int .i64 x.before.kind, .string x.before.name, .int .i64 x.before.low, .int .i64 x.before.high, .slice Ab nb cb, .int .i64 x.after.kind, .string x.after.name, .int .i64 x.after.low, .int .i64 x.after.high, .slice Aa na ca, .int .i64 x.pos] 35))
  have HROW := Lib.hid (heap_alloc_new w (.cells #[.int .i64 x.kind, .string x.name, .int .i64 x.number, .bool x.cut, .int .i64 x.before.kind, .string x.before.name, .int .i64 x.before.low, .int .i64 x.before.high, .slice Ab nb cb, .int .i64 x.after.kind, .string x.after.name, .int .i64 x.after.low, .int .i64 x.after.high, .slice Aa na ca, .int .i64 x.pos] 35))
  have hz : (w.alloc (.cells #[.int .i64 x.kind, .string x.name, .int .i64 x.number, .bool x.cut, .int .i64 x.before.kind, .string x.before.name, .int .i64 x.before.low, .int .i64 x.before.high, .slice Ab nb cb, .int .i64 x.after.kind, .string x.after.name, .int .i64 x.after.low, .int .i64 x.after.high, .slice Aa na ca, .int .i64 x.pos] 35)).heap.size = w.heap.size + 1 := by simp
  have HB : Hid (Below w.heap.size w (w.alloc (.cells #[.int .i64 x.kind, .string x.name, .int .i64 x.number, .bool x.cut, .int .i64 x.before.kind, .string x.before.name, .int .i64 x.before.low, .int .i64 x.before.high, .slice Ab nb cb, .int .i64 x.after.kind, .string x.after.name, .int .i64 x.after.low, .int .i64 x.after.high, .slice Aa na ca, .int .i64 x.pos] 35))) := HP.out
  have HRB : Hid (∀ W, Below w.heap.size w W → Calls Tryz.prog 16 #[.agg #[.int .i64 x.before.kind, .string x.before.name, .int .i64 x.before.low, .int .i64 x.before.high, .slice Ab nb cb]] W (BooK W (rightB x.before))) := fun W h => right_any (hkb.on h)
  have HRA : Hid (∀ W, Below w.heap.size w W → Calls Tryz.prog 16 #[.agg #[.int .i64 x.after.kind, .string x.after.name, .int .i64 x.after.low, .int .i64 x.after.high, .slice Aa na ca]] W (BooK W (rightB x.after))) := fun W h => right_any (hka.on h)
  have HNB : Hid (∀ W, Calls Tryz.prog 32 #[.agg #[.int .i64 x.before.kind, .string x.before.name, .int .i64 x.before.low, .int .i64 x.before.high, .slice Ab nb cb]] W (BooK W (noneB x.before))) := fun W => none_any hkb.len
  have HNA : Hid (∀ W, Calls Tryz.prog 32 #[.agg #[.int .i64 x.after.kind, .string x.after.name, .int .i64 x.after.low, .int .i64 x.after.high, .slice Aa na ca]] W (BooK W (noneB x.after))) := fun W => none_any hka.len
  have HNM : Hid (∀ W, Calls Tryz.prog 31 #[.string x.name] W (BooK W (nameB (numsOf x.name)))) := fun W => isName_any _ W
  have HLT : Hid (∀ W, Calls Tryz.prog 34 #[.string x.name] W fun e w' => e = .returned (.bool (lettersB (numsOf x.name))) ∧ W = w') := fun W => letters_any (strIs_nums x.name) (by rw [K.numsOf_len]; exact hs)
  have HNU : Hid (∀ W, Calls Tryz.prog 33 #[.int .i64 x.number] W fun e w' => e = .returned (.bool (numOk x.number)) ∧ W = w') := fun W => isNumber_any _ W
  have hF := may_eq x
  clear hkb hka hs
  generalize mayB x = res at *
  generalize nameB (numsOf x.name) = qn at *
  generalize lettersB (numsOf x.name) = ql at *
  generalize numOk x.number = qu at *
  generalize rightB x.before = qb at *
  generalize rightB x.after = qa at *
  generalize noneB x.before = qnb at *
  generalize noneB x.after = qna at *
  generalize x.cut = cut at *
  by_cases h1 : x.kind = 1
  · rw [if_pos h1] at hF
    have k1 : (x.kind == 1) = true := by rw [beqd]; exact decide_eq_true (by omega)
    have HF := Lib.hid hF
    clear hF h1 HRA HNB HLT HNU
    go_enter Tryz.func14, Tryz.ntmps14
    go_wp2_with fail
    refine (HNM.out _).mono ?_
    rintro e w2 ⟨rfl, hb2⟩
    have HB2 := Lib.hid (HB.out.trans (hb2.mono HB.out.size))
    clear HB
    have HB := HB2
    clear HB2
    have HROW2 := Lib.hid ((hb2.block w.heap.size (by omega)).trans HROW.out)
    clear HROW
    have HROW := HROW2
    clear HROW2
    obtain ⟨r0, r1, r2, r3, r4, r5, r6, r7, r8, r9, r10, r11, r12, r13, r14⟩ := cells15 HROW.out
    have hz2 := hb2.size
    clear hb2
    cases qn with
    | false =>
      go_wp2_with fail
      go_ret
      exact ⟨ret_bool (by rw [HF.out]; rfl), HB.out⟩
    | true =>
      cases g1 : (x.number == 0) with
      | false =>
        rw [g1] at HF
        go_wp2_with fail
        go_ret
        exact ⟨ret_bool (by rw [HF.out]; rfl), HB.out⟩
      | true =>
        rw [g1] at HF
        cases cut with
        | true =>
          go_wp2_with fail
          go_ret
          exact ⟨ret_bool (by rw [HF.out]; rfl), HB.out⟩
        | false =>
          go_wp2_with fail
          refine (HRB.out _ HB.out).mono ?_
          rintro e w2 ⟨rfl, hb2⟩
          have HB2 := Lib.hid (HB.out.trans (hb2.mono HB.out.size))
          clear HB
          have HB := HB2
          clear HB2
          have HROW2 := Lib.hid ((hb2.block w.heap.size (by omega)).trans HROW.out)
          clear HROW
          have HROW := HROW2
          clear HROW2
          obtain ⟨r0, r1, r2, r3, r4, r5, r6, r7, r8, r9, r10, r11, r12, r13, r14⟩ := cells15 HROW.out
          have hz2 := hb2.size
          clear hb2
          cases qb with
          | false =>
            go_wp2_with fail
            go_ret
            exact ⟨ret_bool (by rw [HF.out]; rfl), HB.out⟩
          | true =>
            go_wp2_with fail
            refine (HNA.out _).mono ?_
            rintro e w2 ⟨rfl, hb2⟩
            have HB2 := Lib.hid (HB.out.trans (hb2.mono HB.out.size))
            clear HB
            have HB := HB2
            clear HB2
            have HROW2 := Lib.hid ((hb2.block w.heap.size (by omega)).trans HROW.out)
            clear HROW
            have HROW := HROW2
            clear HROW2
            obtain ⟨r0, r1, r2, r3, r4, r5, r6, r7, r8, r9, r10, r11, r12, r13, r14⟩ := cells15 HROW.out
            have hz2 := hb2.size
            clear hb2
            go_wp2_with fail
            go_ret
            exact ⟨ret_bool (by rw [HF.out]; rfl), HB.out⟩

  · rw [if_neg h1] at hF
    have k1 : (x.kind == 1) = false := by rw [beqd]; exact decide_eq_false (by omega)
    by_cases h2 : x.kind = 2
    · rw [if_pos h2] at hF
      have k2 : (x.kind == 2) = true := by rw [beqd]; exact decide_eq_true (by omega)
      have HF := Lib.hid hF
      clear hF h1 h2 HNB HNA HLT HNM
      go_enter Tryz.func14, Tryz.ntmps14
      by_cases g0 : x.name.size = 0
      · have g0' := str_none g0
        rw [decide_eq_true g0] at HF
        clear g0
        go_wp2_with fail
        refine (HNU.out _).mono ?_
        rintro e w2 ⟨rfl, rfl⟩
        cases qu with
        | false =>
          go_wp2_with fail
          go_ret
          exact ⟨ret_bool (by rw [HF.out]; rfl), HB.out⟩
        | true =>
          go_wp2_with fail
          refine (HRB.out _ HB.out).mono ?_
          rintro e w2 ⟨rfl, hb2⟩
          have HB2 := Lib.hid (HB.out.trans (hb2.mono HB.out.size))
          clear HB
          have HB := HB2
          clear HB2
          have HROW2 := Lib.hid ((hb2.block w.heap.size (by omega)).trans HROW.out)
          clear HROW
          have HROW := HROW2
          clear HROW2
          obtain ⟨r0, r1, r2, r3, r4, r5, r6, r7, r8, r9, r10, r11, r12, r13, r14⟩ := cells15 HROW.out
          have hz2 := hb2.size
          clear hb2
          cases qb with
          | false =>
            go_wp2_with fail
            go_ret
            exact ⟨ret_bool (by rw [HF.out]; rfl), HB.out⟩
          | true =>
            go_wp2_with fail
            refine (HRA.out _ HB.out).mono ?_
            rintro e w2 ⟨rfl, hb2⟩
            have HB2 := Lib.hid (HB.out.trans (hb2.mono HB.out.size))
            clear HB
            have HB := HB2
            clear HB2
            have HROW2 := Lib.hid ((hb2.block w.heap.size (by omega)).trans HROW.out)
            clear HROW
            have HROW := HROW2
            clear HROW2
            obtain ⟨r0, r1, r2, r3, r4, r5, r6, r7, r8, r9, r10, r11, r12, r13, r14⟩ := cells15 HROW.out
            have hz2 := hb2.size
            clear hb2
            go_wp2_with fail
            go_ret
            exact ⟨ret_bool (by rw [HF.out]; rfl), HB.out⟩
      · have g0' := str_some g0
        rw [decide_eq_false g0] at HF
        clear g0
        go_wp2_with fail
        go_ret
        exact ⟨ret_bool (by rw [HF.out]; rfl), HB.out⟩
    · rw [if_neg h2] at hF
      have k2 : (x.kind == 2) = false := by rw [beqd]; exact decide_eq_false (by omega)
      by_cases h3 : x.kind = 3
      · rw [if_pos h3] at hF
        have k3 : (x.kind == 3) = true := by rw [beqd]; exact decide_eq_true (by omega)
        have HF := Lib.hid hF
        clear hF h1 h2 h3 HRB HRA HNM
        go_enter Tryz.func14, Tryz.ntmps14
        go_wp2_with fail
        refine (HLT.out _).mono ?_
        rintro e w2 ⟨rfl, rfl⟩
        cases ql with
        | false =>
          go_wp2_with fail
          go_ret
          exact ⟨ret_bool (by rw [HF.out]; rfl), HB.out⟩
        | true =>
          cases g7 : (x.number == -1) with
          | true =>
            rw [g7] at HF
            cases cut with
            | true =>
              go_wp2_with fail
              go_ret
              exact ⟨ret_bool (by rw [HF.out]; rfl), HB.out⟩
            | false =>
              go_wp2_with fail
              refine (HNB.out _).mono ?_
              rintro e w2 ⟨rfl, hb2⟩
              have HB2 := Lib.hid (HB.out.trans (hb2.mono HB.out.size))
              clear HB
              have HB := HB2
              clear HB2
              have HROW2 := Lib.hid ((hb2.block w.heap.size (by omega)).trans HROW.out)
              clear HROW
              have HROW := HROW2
              clear HROW2
              obtain ⟨r0, r1, r2, r3, r4, r5, r6, r7, r8, r9, r10, r11, r12, r13, r14⟩ := cells15 HROW.out
              have hz2 := hb2.size
              clear hb2
              cases qnb with
              | false =>
                go_wp2_with fail
                go_ret
                exact ⟨ret_bool (by rw [HF.out]; rfl), HB.out⟩
              | true =>
                go_wp2_with fail
                refine (HNA.out _).mono ?_
                rintro e w2 ⟨rfl, hb2⟩
                have HB2 := Lib.hid (HB.out.trans (hb2.mono HB.out.size))
                clear HB
                have HB := HB2
                clear HB2
                have HROW2 := Lib.hid ((hb2.block w.heap.size (by omega)).trans HROW.out)
                clear HROW
                have HROW := HROW2
                clear HROW2
                obtain ⟨r0, r1, r2, r3, r4, r5, r6, r7, r8, r9, r10, r11, r12, r13, r14⟩ := cells15 HROW.out
                have hz2 := hb2.size
                clear hb2
                go_wp2_with fail
                go_ret
                exact ⟨ret_bool (by rw [HF.out]; rfl), HB.out⟩
          | false =>
            rw [g7] at HF
            go_wp2_with fail
            refine (HNU.out _).mono ?_
            rintro e w2 ⟨rfl, rfl⟩
            cases qu with
            | false =>
              go_wp2_with fail
              go_ret
              exact ⟨ret_bool (by rw [HF.out]; rfl), HB.out⟩
            | true =>
              cases cut with
              | true =>
                go_wp2_with fail
                go_ret
                exact ⟨ret_bool (by rw [HF.out]; rfl), HB.out⟩
              | false =>
                go_wp2_with fail
                refine (HNB.out _).mono ?_
                rintro e w2 ⟨rfl, hb2⟩
                have HB2 := Lib.hid (HB.out.trans (hb2.mono HB.out.size))
                clear HB
                have HB := HB2
                clear HB2
                have HROW2 := Lib.hid ((hb2.block w.heap.size (by omega)).trans HROW.out)
                clear HROW
                have HROW := HROW2
                clear HROW2
                obtain ⟨r0, r1, r2, r3, r4, r5, r6, r7, r8, r9, r10, r11, r12, r13, r14⟩ := cells15 HROW.out
                have hz2 := hb2.size
                clear hb2
                cases qnb with
                | false =>
                  go_wp2_with fail
                  go_ret
                  exact ⟨ret_bool (by rw [HF.out]; rfl), HB.out⟩
                | true =>
                  go_wp2_with fail
                  refine (HNA.out _).mono ?_
                  rintro e w2 ⟨rfl, hb2⟩
                  have HB2 := Lib.hid (HB.out.trans (hb2.mono HB.out.size))
                  clear HB
                  have HB := HB2
                  clear HB2
                  have HROW2 := Lib.hid ((hb2.block w.heap.size (by omega)).trans HROW.out)
                  clear HROW
                  have HROW := HROW2
                  clear HROW2
                  obtain ⟨r0, r1, r2, r3, r4, r5, r6, r7, r8, r9, r10, r11, r12, r13, r14⟩ := cells15 HROW.out
                  have hz2 := hb2.size
                  clear hb2
                  go_wp2_with fail
                  go_ret
                  exact ⟨ret_bool (by rw [HF.out]; rfl), HB.out⟩


      · rw [if_neg h3] at hF
        have k3 : (x.kind == 3) = false := by rw [beqd]; exact decide_eq_false (by omega)
        have HF := Lib.hid hF
        clear hF h1 h2 h3 HRB HRA HNM HNB HNA HLT HNU
        go_enter Tryz.func14, Tryz.ntmps14
        go_wp2_with fail
        go_ret
        exact ⟨ret_bool HF.out.symm, HB.out⟩
end Go.Proofs.YtmohefgdpddldaaGreatDoor
namespace Go.Proofs.YtmohefgdpddldaaGreatDoor
open Go.RowKit
open Y (Nd It noName)
open K (numsOf threeB twoB behindT betweenT brkB rngT txt kidsT partT anyB decT fracL numT lineT itemsT rightB noneB numOk mayB nameB)

set_option maxHeartbeats 8000000 in
theorem prule_any {x : It} {w : World} {B b : Nat} {L : List Int} {Ab Aa : Option Addr} {nb cb na ca : Nat} (h : Pn w B b L) (hT : TbB B w) (hBw : B ≤ w.heap.size) (hrb : RdN w (· < B) Ab nb cb x.before.kids) (hra' : RdN w (· < B) Aa na ca x.after.kids) (hn0 : 0 ≤ x.number) (hn1 : x.number ≤ 999999) (hbb : anyB x.before = true) (hra : anyB x.after = true)
    (hlen : L.length + (numT x.number ++ [32] ++ txt x.before ++ (if x.cut = true then [32, 195, 183, 32] else [32, 195, 151, 32]) ++ txt x.after).length ≤ 140737488355328) :
    Calls Tryz.prog 64 #[.pointer (some ⟨b, 0, none⟩), .agg #[.int .i64 x.kind, .string x.name, .int .i64 x.number, .bool x.cut, .int .i64 x.before.kind, .string x.before.name, .int .i64 x.before.low, .int .i64 x.before.high, .slice Ab nb cb, .int .i64 x.after.kind, .string x.after.name, .int .i64 x.after.low, .int .i64 x.after.high, .slice Aa na ca, .int .i64 x.pos]] w (PutV B b L (numT x.number ++ [32] ++ txt x.before ++ (if x.cut = true then [32, 195, 183, 32] else [32, 195, 151, 32]) ++ txt x.after) (.tuple #[]) w) := by
  have HB0 := kbelow_push w (.cells #[.int .i64 x.kind, .string x.name, .int .i64 x.number, .bool x.cut, .int .i64 x.before.kind, .string x.before.name, .int .i64 x.before.low, .int .i64 x.before.high, .slice Ab nb cb, .int .i64 x.after.kind, .string x.after.name, .int .i64 x.after.low, .int .i64 x.after.high, .slice Aa na ca, .int .i64 x.pos] 35)
  have HROW := Lib.hid (heap_alloc_new w (.cells #[.int .i64 x.kind, .string x.name, .int .i64 x.number, .bool x.cut, .int .i64 x.before.kind, .string x.before.name, .int .i64 x.before.low, .int .i64 x.before.high, .slice Ab nb cb, .int .i64 x.after.kind, .string x.after.name, .int .i64 x.after.low, .int .i64 x.after.high, .slice Aa na ca, .int .i64 x.pos] 35))
  have HP := Lib.hid ((Pen.refl h).below hBw HB0)
  have hz : (w.alloc (.cells #[.int .i64 x.kind, .string x.name, .int .i64 x.number, .bool x.cut, .int .i64 x.before.kind, .string x.before.name, .int .i64 x.before.low, .int .i64 x.before.high, .slice Ab nb cb, .int .i64 x.after.kind, .string x.after.name, .int .i64 x.after.low, .int .i64 x.after.high, .slice Aa na ca, .int .i64 x.pos] 35)).heap.size = w.heap.size + 1 := by simp
  have HT := Lib.hid hT
  have HBR : Hid (Below B w (w.alloc (.cells #[.int .i64 x.kind, .string x.name, .int .i64 x.number, .bool x.cut, .int .i64 x.before.kind, .string x.before.name, .int .i64 x.before.low, .int .i64 x.before.high, .slice Ab nb cb, .int .i64 x.after.kind, .string x.after.name, .int .i64 x.after.low, .int .i64 x.after.high, .slice Aa na ca, .int .i64 x.pos] 35))) := HB0.mono hBw
  have HFbefore : Hid (∀ (w' : World) (L' : List Int), anyB x.before = true → Pn w' B b L' → TbB B w' → B ≤ w'.heap.size → Below B w w' → L'.length + (txt x.before).length ≤ 140737488355328 → Calls Tryz.prog 24 #[.pointer (some ⟨b, 0, none⟩), .agg #[.int .i64 x.before.kind, .string x.before.name, .int .i64 x.before.low, .int .i64 x.before.high, .slice Ab nb cb]] w' (PutV B b L' (txt x.before) (.tuple #[]) w')) := fun w' L' h0 h1 h2 h3 h4 h5 => pform_any h0 h1 h2 h3 (hrb.keep (fun _ h => h) (fun p hp => h4.cell (p := p) hp)) h5
  have HFafter : Hid (∀ (w' : World) (L' : List Int), anyB x.after = true → Pn w' B b L' → TbB B w' → B ≤ w'.heap.size → Below B w w' → L'.length + (txt x.after).length ≤ 140737488355328 → Calls Tryz.prog 24 #[.pointer (some ⟨b, 0, none⟩), .agg #[.int .i64 x.after.kind, .string x.after.name, .int .i64 x.after.low, .int .i64 x.after.high, .slice Aa na ca]] w' (PutV B b L' (txt x.after) (.tuple #[]) w')) := fun w' L' h0 h1 h2 h3 h4 h5 => pform_any h0 h1 h2 h3 (hra'.keep (fun _ h => h) (fun p hp => h4.cell (p := p) hp)) h5
  have HLN := Lib.hid hlen
  have HNN : Hid (numsOf (strOfNums (numT x.number)) = numT x.number) := K.numsOf_strOf (numT_byt _)
  have HNS : Hid ((strOfNums (numT x.number)).size = (numT x.number).length) := strOfNums_size _
  obtain ⟨TX, hTX⟩ : ∃ TX : List Int, TX = numT x.number ++ [32] ++ txt x.before ++ (if x.cut = true then [32, 195, 183, 32] else [32, 195, 151, 32]) ++ txt x.after := ⟨_, rfl⟩
  rw [← hTX]
  have HTX := Lib.hid hTX
  clear h hT hrb hra' HB0 hlen hTX
  generalize x.cut = cut at *
  go_enter Tryz.func64, Tryz.ntmps64
  go_wp2_with fail
  generalize w.alloc (.cells #[.int .i64 x.kind, .string x.name, .int .i64 x.number, .bool cut, .int .i64 x.before.kind, .string x.before.name, .int .i64 x.before.low, .int .i64 x.before.high, .slice Ab nb cb, .int .i64 x.after.kind, .string x.after.name, .int .i64 x.after.low, .int .i64 x.after.high, .slice Aa na ca, .int .i64 x.pos] 35) = W2 at *
  have HNU : Hid (Calls Tryz.prog 65 #[.int .i64 x.number] W2.drew _) := number_any ((HT.out.on ((HP.out.2.1).trans (kbelow_drewN (Below.refl _ _) 1))) _ (Below.refl _ _)).2 hn0 hn1
  have HK0 : Hid (W2.drew.cell? ⟨w.heap.size, 2, none⟩ = some (.int .i64 x.number)) := (cells15 HROW.out).2.2.1
  have hlx : w.heap.size < W2.heap.size := (Array.getElem?_eq_some_iff.1 HROW.out).1
  go_region_held_law (fun w' => w'.cell? ⟨w.heap.size, 2, none⟩ = some (.int .i64 x.number)) (first | exact HK0.out | exact HK1.out | exact HK2.out) (first | (go_at_call 65; refine HNU.out.mono ?_; rintro e w5 ⟨rfl, hb5⟩; have HP5 := Lib.hid (HP.out.drew.below (Nat.le_trans hBw HP.out.size) hb5); have HROW5 := Lib.hid ((hb5.block w.heap.size hlx).trans (show W2.drew.heap[w.heap.size]? = _ from HROW.out)); have HBR5 : Hid (Below B w w5) := HBR.out.trans ((kbelow_drewN (Below.refl _ _) 1).trans (hb5.mono (Nat.le_trans hBw HP.out.size))); have HK1 := Lib.hid (cells15 HROW5.out).2.2.1; clear hb5) | (go_at_call 52; refine (wtext_any HP5.out.1 (strOfNums (numT x.number)) (by rw [HNS.out]; have := HLN.out; simp only [List.length_append, List.length_cons, List.length_nil] at this ⊢; omega) (Nat.le_trans hBw HP5.out.size)).mono ?_; rintro e w6 hp; have HPX := Lib.hid hp; have HK2 := Lib.hid (cells15 (hp.2.2.2.2 _ _ HROW5.out rfl)).2.2.1; obtain ⟨rfl, q1, q2, q3⟩ := hp; clear q1 q2 q3))
  have hp := HPX.out
  have HPn := Lib.hid (HP5.out.put hp)
  have HROWn := Lib.hid (hp.2.2.2.2 _ _ HROW5.out rfl)
  have HBRn := Lib.hid (HBR5.out.trans hp.2.2.1)
  clear HP HROW HBR HPX hp HK0 HK1 HK2 HNU HP5 HROW5 HBR5
  have HP := HPn
  have HROW := HROWn
  have HBR := HBRn
  clear HPn HROWn HBRn
  rw [HNN.out] at HP
  obtain ⟨r0, r1, r2, r3, r4, r5, r6, r7, r8, r9, r10, r11, r12, r13, r14⟩ := cells15 HROW.out
  have hslen : (if cut = true then [32, 195, 183, 32] else [32, 195, 151, 32] : List Int).length = 4 := by split <;> rfl
  simp only [List.length_append, hslen, List.length_cons, List.length_nil] at HLN
  have HC := Lib.hid (wbyte_any HP.out.1 32 (by have := HLN.out; simp only [List.length_append] at this ⊢; omega) (Nat.le_trans hBw HP.out.size))
  go_wp2_with fail
  refine HC.out.mono ?_
  rintro e w3 hp
  have HPn := Lib.hid (HP.out.put hp)
  have hkp := hp.2.2.2
  have HBRn := Lib.hid (HBR.out.trans hp.2.2.1)
  obtain ⟨rfl, q1, q2, q3⟩ := hp
  clear HP HC q1 q2 q3
  have HP := HPn
  clear HPn
  have HROWn := Lib.hid (hkp.2 _ _ HROW.out rfl)
  clear HROW
  have HROW := HROWn
  clear HROWn
  obtain ⟨r0, r1, r2, r3, r4, r5, r6, r7, r8, r9, r10, r11, r12, r13, r14⟩ := cells15 HROW.out
  clear hkp HBR
  have HBR := HBRn
  clear HBRn
  have HC := Lib.hid (HFbefore.out _ _ hbb HP.out.1 (HT.out.on HP.out.2.1) (Nat.le_trans hBw HP.out.size) HBR.out (by have := HLN.out; simp only [List.length_append, List.length_cons, List.length_nil] at this ⊢; omega))
  go_wp2_with fail
  refine HC.out.mono ?_
  rintro e w3 hp
  have HPn := Lib.hid (HP.out.put hp)
  have hkp := hp.2.2.2
  have HBRn := Lib.hid (HBR.out.trans hp.2.2.1)
  obtain ⟨rfl, q1, q2, q3⟩ := hp
  clear HP HC q1 q2 q3
  have HP := HPn
  clear HPn
  have HROWn := Lib.hid (hkp.2 _ _ HROW.out rfl)
  clear HROW
  have HROW := HROWn
  clear HROWn
  obtain ⟨r0, r1, r2, r3, r4, r5, r6, r7, r8, r9, r10, r11, r12, r13, r14⟩ := cells15 HROW.out
  clear hkp HBR
  have HBR := HBRn
  clear HBRn
  cases cut with
  | true =>
    simp only [if_true] at HTX
    have HC := Lib.hid (wtext_any HP.out.1 ⟨#[32, 195, 183, 32]⟩ (by have := HLN.out; simp only [List.length_append, List.length_cons, List.length_nil] at this ⊢; show _ + 4 ≤ _; omega) (Nat.le_trans hBw HP.out.size))
    go_wp2_with fail
    refine HC.out.mono ?_
    rintro e w3 hp
    have HPn := Lib.hid (HP.out.put hp)
    have hkp := hp.2.2.2
    have HBRn := Lib.hid (HBR.out.trans hp.2.2.1)
    obtain ⟨rfl, q1, q2, q3⟩ := hp
    clear HP HC q1 q2 q3
    have HP := HPn
    clear HPn
    have HROWn := Lib.hid (hkp.2 _ _ HROW.out rfl)
    clear HROW
    have HROW := HROWn
    clear HROWn
    obtain ⟨r0, r1, r2, r3, r4, r5, r6, r7, r8, r9, r10, r11, r12, r13, r14⟩ := cells15 HROW.out
    clear hkp HBR
    have HBR := HBRn
    clear HBRn
    have HC := Lib.hid (HFafter.out _ _ hra HP.out.1 (HT.out.on HP.out.2.1) (Nat.le_trans hBw HP.out.size) HBR.out (by have := HLN.out; rw [show numsOf ⟨#[32, 195, 183, 32]⟩ = [32, 195, 183, 32] from rfl]; simp only [List.length_append, List.length_cons, List.length_nil] at this ⊢; omega))
    go_wp2_with fail
    refine HC.out.mono ?_
    rintro e w3 hp
    have HPn := Lib.hid (HP.out.put hp)
    have hkp := hp.2.2.2
    have HBRn := Lib.hid (HBR.out.trans hp.2.2.1)
    obtain ⟨rfl, q1, q2, q3⟩ := hp
    clear HP HC q1 q2 q3
    have HP := HPn
    clear HPn
    have HROWn := Lib.hid (hkp.2 _ _ HROW.out rfl)
    clear HROW
    have HROW := HROWn
    clear HROWn
    obtain ⟨r0, r1, r2, r3, r4, r5, r6, r7, r8, r9, r10, r11, r12, r13, r14⟩ := cells15 HROW.out
    clear hkp HBR
    have HBR := HBRn
    clear HBRn
    have HE := Lib.hid (HP.out.out (L := L) (M := TX) (by rw [HTX.out, show numsOf ⟨#[32, 195, 183, 32]⟩ = [32, 195, 183, 32] from rfl]; simp))
    clear HP
    go_wp2_with fail
    exact bodyPost_ret (v := .tuple #[]) (by simp [results, Tryz.results64, go_sem]) rfl HE.out
  | false =>
    simp only [Bool.false_eq_true, if_false] at HTX
    have HC := Lib.hid (wtext_any HP.out.1 ⟨#[32, 195, 151, 32]⟩ (by have := HLN.out; simp only [List.length_append, List.length_cons, List.length_nil] at this ⊢; show _ + 4 ≤ _; omega) (Nat.le_trans hBw HP.out.size))
    go_wp2_with fail
    refine HC.out.mono ?_
    rintro e w3 hp
    have HPn := Lib.hid (HP.out.put hp)
    have hkp := hp.2.2.2
    have HBRn := Lib.hid (HBR.out.trans hp.2.2.1)
    obtain ⟨rfl, q1, q2, q3⟩ := hp
    clear HP HC q1 q2 q3
    have HP := HPn
    clear HPn
    have HROWn := Lib.hid (hkp.2 _ _ HROW.out rfl)
    clear HROW
    have HROW := HROWn
    clear HROWn
    obtain ⟨r0, r1, r2, r3, r4, r5, r6, r7, r8, r9, r10, r11, r12, r13, r14⟩ := cells15 HROW.out
    clear hkp HBR
    have HBR := HBRn
    clear HBRn
    have HC := Lib.hid (HFafter.out _ _ hra HP.out.1 (HT.out.on HP.out.2.1) (Nat.le_trans hBw HP.out.size) HBR.out (by have := HLN.out; rw [show numsOf ⟨#[32, 195, 151, 32]⟩ = [32, 195, 151, 32] from rfl]; simp only [List.length_append, List.length_cons, List.length_nil] at this ⊢; omega))
    go_wp2_with fail
    refine HC.out.mono ?_
    rintro e w3 hp
    have HPn := Lib.hid (HP.out.put hp)
    have hkp := hp.2.2.2
    have HBRn := Lib.hid (HBR.out.trans hp.2.2.1)
    obtain ⟨rfl, q1, q2, q3⟩ := hp
    clear HP HC q1 q2 q3
    have HP := HPn
    clear HPn
    have HROWn := Lib.hid (hkp.2 _ _ HROW.out rfl)
    clear HROW
    have HROW := HROWn
    clear HROWn
    obtain ⟨r0, r1, r2, r3, r4, r5, r6, r7, r8, r9, r10, r11, r12, r13, r14⟩ := cells15 HROW.out
    clear hkp HBR
    have HBR := HBRn
    clear HBRn
    have HE := Lib.hid (HP.out.out (L := L) (M := TX) (by rw [HTX.out, show numsOf ⟨#[32, 195, 151, 32]⟩ = [32, 195, 151, 32] from rfl]; simp))
    clear HP
    go_wp2_with fail
    exact bodyPost_ret (v := .tuple #[]) (by simp [results, Tryz.results64, go_sem]) rfl HE.out
end Go.Proofs.YtmohefgdpddldaaGreatDoor
namespace Go.Proofs.YtmohefgdpddldaaGreatDoor
open Go.RowKit
open Y (Nd It noName)
open K (numsOf threeB twoB behindT betweenT brkB rngT txt kidsT partT anyB decT fracL numT lineT itemsT rightB noneB numOk mayB nameB)

set_option maxHeartbeats 8000000 in
theorem pitem_any {x : It} (hm : mayB x = true) {w : World} {B b : Nat} {L : List Int} {Ab Aa : Option Addr} {nb cb na ca : Nat} (h : Pn w B b L) (hT : TbB B w) (hBw : B ≤ w.heap.size) (hrb : RdN w (· < B) Ab nb cb x.before.kids) (hra' : RdN w (· < B) Aa na ca x.after.kids)
    (hlen : L.length + (lineT x).length ≤ 140737488355328) :
    Calls Tryz.prog 28 #[.pointer (some ⟨b, 0, none⟩), .agg #[.int .i64 x.kind, .string x.name, .int .i64 x.number, .bool x.cut, .int .i64 x.before.kind, .string x.before.name, .int .i64 x.before.low, .int .i64 x.before.high, .slice Ab nb cb, .int .i64 x.after.kind, .string x.after.name, .int .i64 x.after.low, .int .i64 x.after.high, .slice Aa na ca, .int .i64 x.pos]] w (PutV B b L (lineT x) (.tuple #[]) w) := by
  have HB0 := kbelow_push w (.cells #[.int .i64 x.kind, .string x.name, .int .i64 x.number, .bool x.cut, .int .i64 x.before.kind, .string x.before.name, .int .i64 x.before.low, .int .i64 x.before.high, .slice Ab nb cb, .int .i64 x.after.kind, .string x.after.name, .int .i64 x.after.low, .int .i64 x.after.high, .slice Aa na ca, .int .i64 x.pos] 35)
  have HROW := Lib.hid (heap_alloc_new w (.cells #[.int .i64 x.kind, .string x.name, .int .i64 x.number, .bool x.cut, .int .i64 x.before.kind, .string x.before.name, .int .i64 x.before.low, .int .i64 x.before.high, .slice Ab nb cb, .int .i64 x.after.kind, .string x.after.name, .int .i64 x.after.low, .int .i64 x.after.high, .slice Aa na ca, .int .i64 x.pos] 35))
  have HP := Lib.hid ((Pen.refl h).below hBw HB0)
  have hz : (w.alloc (.cells #[.int .i64 x.kind, .string x.name, .int .i64 x.number, .bool x.cut, .int .i64 x.before.kind, .string x.before.name, .int .i64 x.before.low, .int .i64 x.before.high, .slice Ab nb cb, .int .i64 x.after.kind, .string x.after.name, .int .i64 x.after.low, .int .i64 x.after.high, .slice Aa na ca, .int .i64 x.pos] 35)).heap.size = w.heap.size + 1 := by simp
  have HT := Lib.hid hT
  have HBR : Hid (Below B w (w.alloc (.cells #[.int .i64 x.kind, .string x.name, .int .i64 x.number, .bool x.cut, .int .i64 x.before.kind, .string x.before.name, .int .i64 x.before.low, .int .i64 x.before.high, .slice Ab nb cb, .int .i64 x.after.kind, .string x.after.name, .int .i64 x.after.low, .int .i64 x.after.high, .slice Aa na ca, .int .i64 x.pos] 35))) := HB0.mono hBw
  have HFbefore : Hid (∀ (w' : World) (L' : List Int), anyB x.before = true → Pn w' B b L' → TbB B w' → B ≤ w'.heap.size → Below B w w' → L'.length + (txt x.before).length ≤ 140737488355328 → Calls Tryz.prog 24 #[.pointer (some ⟨b, 0, none⟩), .agg #[.int .i64 x.before.kind, .string x.before.name, .int .i64 x.before.low, .int .i64 x.before.high, .slice Ab nb cb]] w' (PutV B b L' (txt x.before) (.tuple #[]) w')) := fun w' L' h0 h1 h2 h3 h4 h5 => pform_any h0 h1 h2 h3 (hrb.keep (fun _ h => h) (fun p hp => h4.cell (p := p) hp)) h5
  have HRU : Hid (∀ (w' : World), 0 ≤ x.number → x.number ≤ 999999 → anyB x.before = true → anyB x.after = true → Pn w' B b L → TbB B w' → B ≤ w'.heap.size → Below B w w' → L.length + (numT x.number ++ [32] ++ txt x.before ++ (if x.cut = true then [32, 195, 183, 32] else [32, 195, 151, 32]) ++ txt x.after).length ≤ 140737488355328 → Calls Tryz.prog 64 #[.pointer (some ⟨b, 0, none⟩), .agg #[.int .i64 x.kind, .string x.name, .int .i64 x.number, .bool x.cut, .int .i64 x.before.kind, .string x.before.name, .int .i64 x.before.low, .int .i64 x.before.high, .slice Ab nb cb, .int .i64 x.after.kind, .string x.after.name, .int .i64 x.after.low, .int .i64 x.after.high, .slice Aa na ca, .int .i64 x.pos]] w' (PutV B b L _ (.tuple #[]) w')) := fun w' q0 q1 q2 q3 h1 h2 h3 h4 h5 => prule_any h1 h2 h3 (hrb.keep (fun _ h => h) (fun p hp => h4.cell (p := p) hp)) (hra'.keep (fun _ h => h) (fun p hp => h4.cell (p := p) hp)) q0 q1 q2 q3 h5
  have hM := may_eq x
  rw [hm] at hM
  obtain ⟨TX, hTX⟩ : ∃ TX : List Int, TX = lineT x := ⟨_, rfl⟩
  rw [← hTX]
  unfold K.lineT at hTX hlen
  clear hrb hra' HB0 h hT
  by_cases h1 : x.kind = 1
  · rw [if_pos h1] at hM hTX hlen
    have k1 : (x.kind == 1) = true := by rw [beqd]; exact decide_eq_true (by omega)
    replace hM := hM.symm
    rw [Bool.and_eq_true, Bool.and_eq_true, Bool.and_eq_true, Bool.and_eq_true] at hM
    have hbb := right_anyB hM.1.2
    have HLN := Lib.hid hlen
    have HTX := Lib.hid hTX
    have hnl := K.numsOf_len x.name
    have HNL := Lib.hid hnl
    clear hM hTX hlen h1 HRU hnl hm
    have HC := Lib.hid (pname_any HP.out.1 x.name (by have := HLN.out; have h2 := HNL.out; simp only [List.length_append, List.length_cons, List.length_nil] at this ⊢; omega) (Nat.le_trans hBw HP.out.size))
    go_enter Tryz.func28, Tryz.ntmps28
    go_wp2_with fail
    generalize w.alloc (.cells #[.int .i64 x.kind, .string x.name, .int .i64 x.number, .bool x.cut, .int .i64 x.before.kind, .string x.before.name, .int .i64 x.before.low, .int .i64 x.before.high, .slice Ab nb cb, .int .i64 x.after.kind, .string x.after.name, .int .i64 x.after.low, .int .i64 x.after.high, .slice Aa na ca, .int .i64 x.pos] 35) = W2 at *
    refine HC.out.mono ?_
    rintro e w3 hp
    have HPn := Lib.hid (HP.out.put hp)
    have hkp := hp.2.2.2
    have HBRn := Lib.hid (HBR.out.trans hp.2.2.1)
    obtain ⟨rfl, q1, q2, q3⟩ := hp
    clear HP HC q1 q2 q3
    have HP := HPn
    clear HPn
    have HROWn := Lib.hid (hkp.2 _ _ HROW.out rfl)
    clear HROW
    have HROW := HROWn
    clear HROWn
    obtain ⟨r0, r1, r2, r3, r4, r5, r6, r7, r8, r9, r10, r11, r12, r13, r14⟩ := cells15 HROW.out
    clear hkp HBR
    have HBR := HBRn
    clear HBRn
    have HC := Lib.hid (wtext_any HP.out.1 ⟨#[32, 61, 32]⟩ (by have := HLN.out; simp only [List.length_append, List.length_cons, List.length_nil] at this ⊢; show _ + 3 ≤ _; omega) (Nat.le_trans hBw HP.out.size))
    go_wp2_with fail
    refine HC.out.mono ?_
    rintro e w3 hp
    have HPn := Lib.hid (HP.out.put hp)
    have hkp := hp.2.2.2
    have HBRn := Lib.hid (HBR.out.trans hp.2.2.1)
    obtain ⟨rfl, q1, q2, q3⟩ := hp
    clear HP HC q1 q2 q3
    have HP := HPn
    clear HPn
    have HROWn := Lib.hid (hkp.2 _ _ HROW.out rfl)
    clear HROW
    have HROW := HROWn
    clear HROWn
    obtain ⟨r0, r1, r2, r3, r4, r5, r6, r7, r8, r9, r10, r11, r12, r13, r14⟩ := cells15 HROW.out
    clear hkp HBR
    have HBR := HBRn
    clear HBRn
    have HC := Lib.hid (HFbefore.out _ _ hbb HP.out.1 (HT.out.on HP.out.2.1) (Nat.le_trans hBw HP.out.size) HBR.out (by have := HLN.out; rw [show numsOf ⟨#[32, 61, 32]⟩ = [32, 61, 32] from rfl]; simp only [List.length_append, List.length_cons, List.length_nil] at this ⊢; omega))
    go_wp2_with fail
    refine HC.out.mono ?_
    rintro e w3 hp
    have HPn := Lib.hid (HP.out.put hp)
    have hkp := hp.2.2.2
    have HBRn := Lib.hid (HBR.out.trans hp.2.2.1)
    obtain ⟨rfl, q1, q2, q3⟩ := hp
    clear HP HC q1 q2 q3
    have HP := HPn
    clear HPn
    have HROWn := Lib.hid (hkp.2 _ _ HROW.out rfl)
    clear HROW
    have HROW := HROWn
    clear HROWn
    obtain ⟨r0, r1, r2, r3, r4, r5, r6, r7, r8, r9, r10, r11, r12, r13, r14⟩ := cells15 HROW.out
    clear hkp HBR
    have HBR := HBRn
    clear HBRn
    have HE := Lib.hid (HP.out.out (L := L) (M := TX) (by rw [HTX.out, show numsOf ⟨#[32, 61, 32]⟩ = [32, 61, 32] from rfl]; simp))
    clear HP
    go_wp2_with fail
    exact bodyPost_ret (v := .tuple #[]) (by simp [results, Tryz.results28, go_sem]) rfl HE.out
  · rw [if_neg h1] at hM hTX hlen
    have k1 : (x.kind == 1) = false := by rw [beqd]; exact decide_eq_false (by omega)
    clear h1
    by_cases h2 : x.kind = 2
    · rw [if_pos h2] at hM hTX hlen
      have k2 : (x.kind == 2) = true := by rw [beqd]; exact decide_eq_true (by omega)
      replace hM := hM.symm
      rw [Bool.and_eq_true, Bool.and_eq_true, Bool.and_eq_true] at hM
      have ho := hM.1.1.2
      unfold K.numOk at ho
      rw [Bool.and_eq_true, decide_eq_true_eq, decide_eq_true_eq] at ho
      have HC := Lib.hid (HRU.out _ ho.1 ho.2 (right_anyB hM.1.2) (right_anyB hM.2) HP.out.1 (HT.out.on HP.out.2.1) (Nat.le_trans hBw HP.out.size) HBR.out hlen)
      rw [← hTX] at HC
      clear hM ho hlen h2 hTX HRU HFbefore hm
      go_enter Tryz.func28, Tryz.ntmps28
      go_wp2_with fail
      generalize w.alloc (.cells #[.int .i64 x.kind, .string x.name, .int .i64 x.number, .bool x.cut, .int .i64 x.before.kind, .string x.before.name, .int .i64 x.before.low, .int .i64 x.before.high, .slice Ab nb cb, .int .i64 x.after.kind, .string x.after.name, .int .i64 x.after.low, .int .i64 x.after.high, .slice Aa na ca, .int .i64 x.pos] 35) = W2 at *
      refine HC.out.mono ?_
      rintro e w3 hp
      have HPn := Lib.hid (HP.out.put hp)
      have hkp := hp.2.2.2
      have HBRn := Lib.hid (HBR.out.trans hp.2.2.1)
      obtain ⟨rfl, q1, q2, q3⟩ := hp
      clear HP HC q1 q2 q3
      have HP := HPn
      clear HPn
      have HROWn := Lib.hid (hkp.2 _ _ HROW.out rfl)
      clear HROW
      have HROW := HROWn
      clear HROWn
      obtain ⟨r0, r1, r2, r3, r4, r5, r6, r7, r8, r9, r10, r11, r12, r13, r14⟩ := cells15 HROW.out
      clear hkp HBR
      have HBR := HBRn
      clear HBRn
      have HE := Lib.hid (HP.out.out (L := L) (M := TX) rfl)
      clear HP
      go_wp2_with fail
      exact bodyPost_ret (v := .tuple #[]) (by simp [results, Tryz.results28, go_sem]) rfl HE.out
    · rw [if_neg h2] at hM hTX hlen
      have k2 : (x.kind == 2) = false := by rw [beqd]; exact decide_eq_false (by omega)
      clear h2
      by_cases h3 : x.kind = 3
      · rw [if_pos h3] at hM
        have k3 : (x.kind == 3) = true := by rw [beqd]; exact decide_eq_true (by omega)
        replace hM := hM.symm
        rw [Bool.and_eq_true, Bool.and_eq_true, Bool.and_eq_true, Bool.and_eq_true] at hM
        have ho : x.number = -1 ∨ 0 ≤ x.number ∧ x.number ≤ 999999 := by
          have h1 := hM.1.1.1.2
          unfold K.numOk at h1
          rw [Bool.or_eq_true, Bool.and_eq_true, decide_eq_true_eq, decide_eq_true_eq, beqd, decide_eq_true_eq] at h1
          exact h1
        have HLN := Lib.hid hlen
        have HTX := Lib.hid hTX
        have HNL := Lib.hid (K.numsOf_len x.name)
        have hal : K.allowT = [35, 97, 108, 108, 111, 119, 32] := rfl
        rw [hal] at HLN HTX
        clear hM hTX hlen h3 HRU HFbefore hm hal
        have HC := Lib.hid (wtext_any HP.out.1 ⟨#[35, 97, 108, 108, 111, 119, 32]⟩ (by have := HLN.out; simp only [List.length_append, List.length_cons, List.length_nil] at this ⊢; show _ + 7 ≤ _; omega) (Nat.le_trans hBw HP.out.size))
        go_enter Tryz.func28, Tryz.ntmps28
        go_wp2_with fail
        generalize w.alloc (.cells #[.int .i64 x.kind, .string x.name, .int .i64 x.number, .bool x.cut, .int .i64 x.before.kind, .string x.before.name, .int .i64 x.before.low, .int .i64 x.before.high, .slice Ab nb cb, .int .i64 x.after.kind, .string x.after.name, .int .i64 x.after.low, .int .i64 x.after.high, .slice Aa na ca, .int .i64 x.pos] 35) = W2 at *
        refine HC.out.mono ?_
        rintro e W3 hp
        have HPn := Lib.hid (HP.out.put hp)
        have hkp := hp.2.2.2
        have HBRn := Lib.hid (HBR.out.trans hp.2.2.1)
        obtain ⟨rfl, q1, q2, q3⟩ := hp
        clear HP HC q1 q2 q3
        have HP := HPn
        clear HPn
        have HROWn := Lib.hid (hkp.2 _ _ HROW.out rfl)
        clear HROW
        have HROW := HROWn
        clear HROWn
        obtain ⟨r0, r1, r2, r3, r4, r5, r6, r7, r8, r9, r10, r11, r12, r13, r14⟩ := cells15 HROW.out
        clear hkp HBR
        have HBR := HBRn
        clear HBRn
        rw [show numsOf ⟨#[35, 97, 108, 108, 111, 119, 32]⟩ = [35, 97, 108, 108, 111, 119, 32] from rfl] at HP
        go_wp2_with fail
        have HK0 : Hid (W3.drew.cell? ⟨w.heap.size, 1, none⟩ = some (.string x.name)) := (cells15 HROW.out).2.1
        have HWS : Hid (Calls _ _ _ W3.drew _) := wtext_any (w := W3.drew) (B := B) (b := b) (L := L ++ [35, 97, 108, 108, 111, 119, 32]) HP.out.1 x.name (by have := HLN.out; have h2 := HNL.out; simp only [List.length_append, List.length_cons, List.length_nil] at this ⊢; omega) (Nat.le_trans hBw HP.out.size)
        go_region_held_law (fun w' => w'.cell? ⟨w.heap.size, 1, none⟩ = some (.string x.name)) (first | exact HK0.out | exact HK1.out) ((go_at_call 52; refine HWS.out.mono ?_; rintro e w5 hp; have HPX := Lib.hid hp; have HK1 := Lib.hid (cells15 (hp.2.2.2.2 _ _ (show W3.drew.heap[w.heap.size]? = _ from HROW.out) rfl)).2.1; obtain ⟨rfl, q1, q2, q3⟩ := hp; clear q1 q2 q3))
        have hp := HPX.out
        have HPn := Lib.hid (HP.out.drew.put hp)
        have HROWn := Lib.hid (hp.2.2.2.2 _ _ (show W3.drew.heap[w.heap.size]? = _ from HROW.out) rfl)
        have HBRn : Hid (Below B w w5) := (HBR.out.trans (kbelow_drewN (Below.refl _ _) 1)).trans hp.2.2.1
        clear HP HROW HBR HPX hp HK0 HK1 HWS
        have HP := HPn
        have HROW := HROWn
        have HBR := HBRn
        clear HPn HROWn HBRn
        obtain ⟨r0, r1, r2, r3, r4, r5, r6, r7, r8, r9, r10, r11, r12, r13, r14⟩ := cells15 HROW.out
        by_cases hn : x.number = -1
        · have g1 : (x.number != -1) = false := by simpa using hn
          rw [if_pos hn] at HTX
          have HE := Lib.hid (HP.out.out (L := L) (M := TX) (by rw [HTX.out]; simp))
          clear HP hn ho
          go_wp2_with fail
          exact bodyPost_ret (v := .tuple #[]) (by simp [results, Tryz.results28, go_sem]) rfl HE.out
        · have g1 : (x.number != -1) = true := by rw [bne_iff_ne]; exact hn
          rw [if_neg hn] at HTX HLN
          obtain ⟨hn0, hn1⟩ := ho.resolve_left hn
          have HNN : Hid (numsOf (strOfNums (numT x.number)) = numT x.number) := K.numsOf_strOf (numT_byt _)
          have HNS : Hid ((strOfNums (numT x.number)).size = (numT x.number).length) := strOfNums_size _
          have HC := Lib.hid (wbyte_any HP.out.1 32 (by have := HLN.out; simp only [List.length_append, List.length_cons, List.length_nil] at this ⊢; omega) (Nat.le_trans hBw HP.out.size))
          clear hn ho
          go_wp2_with fail
          refine HC.out.mono ?_
          rintro e W2 hp
          have HPn := Lib.hid (HP.out.put hp)
          have hkp := hp.2.2.2
          have HBRn := Lib.hid (HBR.out.trans hp.2.2.1)
          obtain ⟨rfl, q1, q2, q3⟩ := hp
          clear HP HC q1 q2 q3
          have HP := HPn
          clear HPn
          have HROWn := Lib.hid (hkp.2 _ _ HROW.out rfl)
          clear HROW
          have HROW := HROWn
          clear HROWn
          obtain ⟨r0, r1, r2, r3, r4, r5, r6, r7, r8, r9, r10, r11, r12, r13, r14⟩ := cells15 HROW.out
          clear hkp HBR
          have HBR := HBRn
          clear HBRn
          go_wp2_with fail
          have HNU : Hid (Calls Tryz.prog 65 #[.int .i64 x.number] W2.drew _) := number_any ((HT.out.on ((HP.out.2.1).trans (kbelow_drewN (Below.refl _ _) 1))) _ (Below.refl _ _)).2 hn0 hn1
          have HK0 : Hid (W2.drew.cell? ⟨w.heap.size, 2, none⟩ = some (.int .i64 x.number)) := (cells15 HROW.out).2.2.1
          have hlx : w.heap.size < W2.heap.size := (Array.getElem?_eq_some_iff.1 HROW.out).1
          go_region_held_law (fun w' => w'.cell? ⟨w.heap.size, 2, none⟩ = some (.int .i64 x.number)) (first | exact HK0.out | exact HK1.out | exact HK2.out) (first | (go_at_call 65; refine HNU.out.mono ?_; rintro e w5 ⟨rfl, hb5⟩; have HP5 := Lib.hid (HP.out.drew.below (Nat.le_trans hBw HP.out.size) hb5); have HROW5 := Lib.hid ((hb5.block w.heap.size hlx).trans (show W2.drew.heap[w.heap.size]? = _ from HROW.out)); have HBR5 : Hid (Below B w w5) := HBR.out.trans ((kbelow_drewN (Below.refl _ _) 1).trans (hb5.mono (Nat.le_trans hBw HP.out.size))); have HK1 := Lib.hid (cells15 HROW5.out).2.2.1; clear hb5) | (go_at_call 52; refine (wtext_any HP5.out.1 (strOfNums (numT x.number)) (by rw [HNS.out]; have := HLN.out; simp only [List.length_append, List.length_cons, List.length_nil] at this ⊢; omega) (Nat.le_trans hBw HP5.out.size)).mono ?_; rintro e w6 hp; have HPX := Lib.hid hp; have HK2 := Lib.hid (cells15 (hp.2.2.2.2 _ _ HROW5.out rfl)).2.2.1; obtain ⟨rfl, q1, q2, q3⟩ := hp; clear q1 q2 q3))
          have hp := HPX.out
          have HPn := Lib.hid (HP5.out.put hp)
          have HROWn := Lib.hid (hp.2.2.2.2 _ _ HROW5.out rfl)
          have HBRn := Lib.hid (HBR5.out.trans hp.2.2.1)
          clear HP HROW HBR HPX hp HK0 HK1 HK2 HNU HP5 HROW5 HBR5
          have HP := HPn
          have HROW := HROWn
          have HBR := HBRn
          clear HPn HROWn HBRn
          rw [HNN.out] at HP
          obtain ⟨r0, r1, r2, r3, r4, r5, r6, r7, r8, r9, r10, r11, r12, r13, r14⟩ := cells15 HROW.out
          have HE := Lib.hid (HP.out.out (L := L) (M := TX) (by rw [HTX.out]; simp))
          clear HP
          go_wp2_with fail
          exact bodyPost_ret (v := .tuple #[]) (by simp [results, Tryz.results28, go_sem]) rfl HE.out
      · rw [if_neg h3] at hM; cases hM
end Go.Proofs.YtmohefgdpddldaaGreatDoor
namespace Go.Proofs.YtmohefgdpddldaaGreatDoor
open Go.RowKit
open Y (Nd It noName)
open K (numsOf threeB twoB behindT betweenT brkB rngT txt kidsT partT anyB decT fracL numT lineT itemsT rightB noneB numOk mayB nameB)

theorem itemsT_len : ∀ (l : List It), l.all mayB = true → (itemsT l).length ≤ 30101 * l.length
  | [], _ => by simp [K.itemsT]
  | x :: t, h => by
    rw [List.all_cons, Bool.and_eq_true] at h
    have h1 := (line_ok h.1).2
    have h2 := itemsT_len t h.2
    show (lineT x ++ [10] ++ itemsT t).length ≤ _
    simp only [List.length_append, List.length_cons, List.length_nil]
    omega
theorem itemsT_byt : ∀ (l : List It), l.all mayB = true → BytL (itemsT l)
  | [], _ => fun x hx => by simp [K.itemsT] at hx
  | x :: t, h => by
    rw [List.all_cons, Bool.and_eq_true] at h
    show BytL (lineT x ++ [10] ++ itemsT t)
    exact bytL_app (bytL_app (line_ok h.1).1 (bytL_of (by decide))) (itemsT_byt t h.2)
theorem itemsT_next {l : List It} {j : Nat} {x : It} (h : l[j]? = some x) : itemsT (l.take (j + 1)) = itemsT (l.take j) ++ lineT x ++ [10] := by
  rw [List.take_add_one, h, K.itemsT_app]
  simp [K.itemsT]
theorem all_take {l : List It} (h : l.all mayB = true) (j : Nat) : (l.take j).all mayB = true := List.all_eq_true.2 fun x hx => List.all_eq_true.1 h x (List.mem_of_mem_take hx)
theorem TbB.up {w w2 : World} (h : TbB w.heap.size w) (hb : Below w.heap.size w w2) : TbB w2.heap.size w2 := fun w' k => h w' (hb.trans (k.mono hb.size))
/-- A text and an error are handed back. -/
def TxtQ (B : Nat) (r : List Int × Int) (w : World) (e : Ending) (w' : World) : Prop := e = .returned (.tuple #[.string (strOfNums r.1), .int .i64 r.2]) ∧ Below B w w'
set_option maxHeartbeats 2000000 in
theorem ptext_any {B b : Nat} {L : List Int} {w : World} (h : Pn w B b L) (hL : BytL L) (hBw : B ≤ w.heap.size) (hl : L.length ≤ 1000000000) :
    Calls Tryz.prog 25 #[.pointer (some ⟨b, 0, none⟩)] w (TxtQ B (K.longR L) w) := by
  have HLN := Lib.hid (plen_any h)
  have HST := Lib.hid (pstr_any h hL hBw)
  have HB : Hid (Below B w w) := Below.refl _ _
  clear h
  by_cases h3 : L.length ≤ 3000
  · have HF : Hid (K.longR L = (L, 0)) := by show _ = _; unfold K.longR; rw [if_pos h3]
    have g1 : ¬ (3000 : Int) < (L.length : Int) := by omega
    clear h3 hL
    go_enter Tryz.func25, Tryz.ntmps25
    go_wp2_with fail
    refine HLN.out.mono ?_
    rintro e w2 ⟨rfl, rfl⟩
    go_wp2_with fail
    refine HST.out.mono ?_
    rintro e w3 ⟨rfl, hb⟩
    have HE : Hid (TxtQ B (K.longR L) w (.returned (.tuple #[.string (strOfNums L), .int .i64 0])) w3) := ⟨by rw [HF.out], hb⟩
    clear hb HST HLN
    go_wp2_with fail
    go_ret2
    exact HE.out
  · have HF : Hid (K.longR L = ([], 2)) := by show _ = _; unfold K.longR; rw [if_neg h3]
    have g1 : (3000 : Int) < (L.length : Int) := by omega
    have HE : Hid (TxtQ B (K.longR L) w (.returned (.tuple #[.string ⟨#[]⟩, .int .i64 2])) w) := ⟨by rw [HF.out]; rfl, HB.out⟩
    clear h3 hL HST
    go_enter Tryz.func25, Tryz.ntmps25
    go_wp2_with fail
    refine HLN.out.mono ?_
    rintro e w2 ⟨rfl, rfl⟩
    go_wp2_with fail
    go_ret2
    exact HE.out
set_option maxHeartbeats 4000000 in
theorem iform_any {x : Nd} {w : World} {A : Option Addr} {n c : Nat} (ha : RdN w (Lt w) A n c x.kids) (hT : TbB w.heap.size w) :
    Calls Tryz.prog 10 #[.agg #[.int .i64 x.kind, .string x.name, .int .i64 x.low, .int .i64 x.high, .slice A n c]] w (TxtQ w.heap.size (K.formR x) w) := by
  have HP := Lib.hid (kbelow_push w (.cells #[.int .i64 x.kind, .string x.name, .int .i64 x.low, .int .i64 x.high, .slice A n c] 24))
  have HROW := Lib.hid (heap_alloc_new w (.cells #[.int .i64 x.kind, .string x.name, .int .i64 x.low, .int .i64 x.high, .slice A n c] 24))
  have hz : (w.alloc (.cells #[.int .i64 x.kind, .string x.name, .int .i64 x.low, .int .i64 x.high, .slice A n c] 24)).heap.size = w.heap.size + 1 := by simp
  have HRI := Lib.hid (right_any (ha.on HP.out))
  have HA := Lib.hid ha
  have HT := Lib.hid hT
  clear ha hT
  cases hr : rightB x with
  | false =>
    rw [hr] at HRI
    have HF : Hid (K.formR x = ([], 1)) := by show _ = _; unfold K.formR; rw [if_neg (by rw [hr]; decide)]
    clear hr
    go_enter Tryz.func10, Tryz.ntmps10
    go_wp2_with fail
    refine HRI.out.mono ?_
    rintro e w2 ⟨rfl, hb⟩
    have HE : Hid (TxtQ w.heap.size (K.formR x) w (.returned (.tuple #[.string ⟨#[]⟩, .int .i64 1])) w2) := ⟨by rw [HF.out]; rfl, HP.out.trans (hb.mono HP.out.size)⟩
    clear hb
    go_wp2_with fail
    go_ret2
    exact HE.out
  | true =>
    rw [hr] at HRI
    have HF : Hid (K.formR x = K.longR (txt x)) := by show _ = _; unfold K.formR; rw [if_pos hr]
    have HAN := Lib.hid (right_anyB hr)
    have htl := right_len hr
    have HBY := Lib.hid (txt_byt _ _ (Nat.le_refl _) (right_anyB hr))
    clear hr
    go_enter Tryz.func10, Tryz.ntmps10
    go_wp2_with fail
    refine HRI.out.mono ?_
    rintro e w2 ⟨rfl, hb⟩
    have HB2 := Lib.hid (HP.out.trans (hb.mono HP.out.size))
    have HROW2 := Lib.hid ((hb.block w.heap.size (by omega)).trans HROW.out)
    have hz2 := hb.size
    obtain ⟨r0, r1, r2, r3, r4⟩ := cells5 HROW2.out
    have HP3 := Lib.hid (pn_fresh w2)
    have HB3 := Lib.hid (kbelow_push w2 (.cells #[.pointer none, .slice none 0 0] 53))
    have HA3 : Hid (RdN (w2.alloc (.cells #[.pointer none, .slice none 0 0] 53)) (· < w2.heap.size) A n c x.kids) := (HA.out.on HB2.out).keep (fun _ h => h) (fun p hp => HB3.out.cell (p := p) hp)
    have HT3 : Hid (TbB w2.heap.size (w2.alloc (.cells #[.pointer none, .slice none 0 0] 53))) := (HT.out.up HB2.out).on HB3.out
    have HC := Lib.hid (pform_any HAN.out HP3.out HT3.out (by simp) HA3.out (by simp; omega))
    have HPB : Hid (Pen w2.heap.size w2.heap.size [] (w2.alloc (.cells #[.pointer none, .slice none 0 0] 53)) (w2.alloc (.cells #[.pointer none, .slice none 0 0] 53))) := Pen.refl HP3.out
    have hz3 : (w2.alloc (.cells #[.pointer none, .slice none 0 0] 53)).heap.size = w2.heap.size + 1 := by simp
    have hlt : w.heap.size < w2.heap.size := by omega
    clear hb HP HROW HRI HA HT HA3 HT3 HP3 hz hz2
    go_wp2_with fail
    generalize w2.alloc (.cells #[.pointer none, .slice none 0 0] 53) = W3 at *
    refine HC.out.mono ?_
    rintro e w4 hp
    have HP4 := Lib.hid (HPB.out.put hp)
    obtain ⟨rfl, q1, q2, q3⟩ := hp
    have hs4 := HP4.out.size
    have HTX := Lib.hid (ptext_any HP4.out.1 (by rw [List.nil_append]; exact HBY.out) (by omega) (by simp; omega))
    rw [List.nil_append] at HTX
    clear q1 q2 q3 HC HPB
    go_wp2_with fail
    refine HTX.out.mono ?_
    rintro e w5 ⟨rfl, hb5⟩
    have HE : Hid (TxtQ w.heap.size (K.formR x) w (.returned (.tuple #[.string (strOfNums (K.longR (txt x)).1), .int .i64 (K.longR (txt x)).2])) w5) := ⟨by rw [HF.out], HB2.out.trans ((HB3.out.trans (HP4.out.2.1.trans hb5)).mono HB2.out.size)⟩
    clear hb5 HTX HP4 HF
    generalize K.longR (txt x) = rr at *
    go_wp2_with fail
    go_ret2
    exact HE.out
end Go.Proofs.YtmohefgdpddldaaGreatDoor
namespace Go.Proofs.YtmohefgdpddldaaGreatDoor
open Go.RowKit
open Y (Nd It noName)
open K (numsOf threeB twoB behindT betweenT brkB rngT txt kidsT partT anyB decT fracL numT lineT itemsT rightB noneB numOk mayB nameB)

set_option maxHeartbeats 8000000 in
theorem iitems_any {l : List It} {w : World} {A : Option Addr} {n c : Nat} (ha : RdI6 w (Lt w) A n c l) (hs : ∀ x ∈ l, x.name.size ≤ 140737488355328) (hT : TbB w.heap.size w) :
    Calls Tryz.prog 12 #[.slice A n c] w (TxtQ w.heap.size (K.itemsR l) w) := by
  have hn := ha.small
  have hlen := ha.len
  have HA := Lib.hid ha
  have HT := Lib.hid hT
  have HAL := Lib.hid (allI_any 14 #[] mayB ha (enters_of Tryz.func14 (by kernel_rfl) rfl) fun W x Ab nb cb Aa na ca hx _ hr hr2 => may_any (hs x hx) hr hr2)
  have HB : Hid (Below w.heap.size w w) := Below.refl _ _
  clear ha hT hs
  by_cases h100 : n ≤ 100
  · have g1 : ¬ (100 : Int) < (n : Int) := by omega
    cases hall : l.all mayB with
    | false =>
      rw [hall] at HAL
      have HF : Hid (K.itemsR l = ([], 1)) := by show _ = _; unfold K.itemsR K.okL; rw [hall, Bool.and_false, if_neg (by decide)]
      clear hall HA HT
      go_enter Tryz.func12, Tryz.ntmps12
      go_wp2_with fail
      refine HAL.out.mono ?_
      rintro e w2 ⟨rfl, hb⟩
      have HE : Hid (TxtQ w.heap.size (K.itemsR l) w (.returned (.tuple #[.string ⟨#[]⟩, .int .i64 1])) w2) := ⟨by rw [HF.out]; rfl, hb⟩
      clear hb
      go_wp2_with fail
      go_ret2
      exact HE.out
    | true =>
      rw [hall] at HAL
      have HF : Hid (K.itemsR l = K.longR (itemsT l)) := by show _ = _; unfold K.itemsR K.okL; rw [hall, hlen, decide_eq_true h100]; rfl
      have HALL := Lib.hid hall
      have HLN := Lib.hid hlen
      clear hall hlen
      go_enter Tryz.func12, Tryz.ntmps12
      go_wp2_with fail
      refine HAL.out.mono ?_
      rintro e w2 ⟨rfl, hb⟩
      have HB2 := Lib.hid hb
      have HP3 := Lib.hid (pn_fresh w2)
      have HB3 := Lib.hid (kbelow_push w2 (.cells #[.pointer none, .slice none 0 0] 53))
      have HA3 : Hid (RdI6 (w2.alloc (.cells #[.pointer none, .slice none 0 0] 53)) (· < w2.heap.size) A n c l) := (HA.out.on HB2.out).keep (fun _ h => h) (fun p hp => HB3.out.cell (p := p) hp)
      have HT3 : Hid (TbB w2.heap.size (w2.alloc (.cells #[.pointer none, .slice none 0 0] 53))) := (HT.out.up HB2.out).on HB3.out
      have HPB : Hid (Pen w2.heap.size w2.heap.size [] (w2.alloc (.cells #[.pointer none, .slice none 0 0] 53)) (w2.alloc (.cells #[.pointer none, .slice none 0 0] 53))) := Pen.refl HP3.out
      have hz3 : (w2.alloc (.cells #[.pointer none, .slice none 0 0] 53)).heap.size = w2.heap.size + 1 := by simp
      clear hb HA HT HP3 HAL HB
      go_wp2_with fail
      generalize w2.alloc (.cells #[.pointer none, .slice none 0 0] 53) = W3 at *
      go_loopw [17] (fun iv wx => ∃ j : Nat, j ≤ n ∧ iv = .int .i64 j ∧ Hid (Pen w2.heap.size w2.heap.size (itemsT (l.take j)) W3 wx)) (fun iv _ => n - (intOf iv).toNat)
      case atStart => exact ⟨0, by omega, rfl, HPB.out⟩
      case round =>
        obtain ⟨j, hj, rfl, HP⟩ := hrel
        have hws := HP.out.size
        have hTl := itemsT_len (l.take j) (all_take HALL.out j)
        have hTl2 : (l.take j).length ≤ 100 := by rw [List.length_take]; omega
        have hBw : w2.heap.size ≤ wr.heap.size := by omega
        by_cases hlt : j < n
        · obtain ⟨b1, o1, x, Ab, Aa, nb, cb, na, ca, hA1, hb1, hx, hr1, hr2, hc1⟩ := (HA3.out.keep (S' := (· < w2.heap.size)) (fun _ h => h) (fun p hp => HP.out.2.1.cell (p := p) hp)).got hlt
          subst hA1
          obtain ⟨s0, s1, s2, s3, s4, s5, s6, s7, s8, s9, s10, s11, s12, s13, s14⟩ := it_cells hc1
          have hj0 : (0 : Int) ≤ (j : Int) := by omega
          have hj1 : (j : Int) < (n : Int) := by omega
          have HNX := Lib.hid (itemsT_next hx)
          have hmx := List.all_eq_true.1 HALL.out x (List.mem_of_getElem? hx)
          have hll := (line_ok hmx).2
          have HBY := Lib.hid (kbelow_push wr (.cells #[.int .i64 x.kind, .string x.name, .int .i64 x.number, .bool x.cut, .int .i64 x.before.kind, .string x.before.name, .int .i64 x.before.low, .int .i64 x.before.high, .slice Ab nb cb, .int .i64 x.after.kind, .string x.after.name, .int .i64 x.after.low, .int .i64 x.after.high, .slice Aa na ca, .int .i64 x.pos] 35))
          have HPN := Lib.hid (HP.out.below hBw HBY.out)
          have HBR : Hid (Below w2.heap.size wr (wr.alloc (.cells #[.int .i64 x.kind, .string x.name, .int .i64 x.number, .bool x.cut, .int .i64 x.before.kind, .string x.before.name, .int .i64 x.before.low, .int .i64 x.before.high, .slice Ab nb cb, .int .i64 x.after.kind, .string x.after.name, .int .i64 x.after.low, .int .i64 x.after.high, .slice Aa na ca, .int .i64 x.pos] 35))) := HBY.out.mono hBw
          have HC := Lib.hid (pitem_any hmx HPN.out.1 (HT3.out.on HPN.out.2.1) (Nat.le_trans hBw HBY.out.size) (hr1.keep (fun _ h => h) (fun p hp => HBR.out.cell (p := p) hp)) (hr2.keep (fun _ h => h) (fun p hp => HBR.out.cell (p := p) hp)) (by omega))
          have hb1' : b1 < wr.heap.size := by have h : b1 < w2.heap.size := hb1; omega
          have hTl3 : (itemsT (l.take j) ++ lineT x).length ≤ 10000000 := by rw [List.length_append]; omega
          clear hx hr1 hr2 hc1 hb1 hmx hll HP hTl hTl2 HA3
          generalize itemsT (l.take j) = T at *
          generalize lineT x = LX at *
          go_wp2_with fail
          generalize wr.alloc (.cells #[.int .i64 x.kind, .string x.name, .int .i64 x.number, .bool x.cut, .int .i64 x.before.kind, .string x.before.name, .int .i64 x.before.low, .int .i64 x.before.high, .slice Ab nb cb, .int .i64 x.after.kind, .string x.after.name, .int .i64 x.after.low, .int .i64 x.after.high, .slice Aa na ca, .int .i64 x.pos] 35) = W4 at *
          refine HC.out.mono ?_
          rintro e w5 hp
          have HP5 := Lib.hid (HPN.out.put hp)
          obtain ⟨rfl, q1, q2, q3⟩ := hp
          clear q1 q2 q3 HC HPN
          have HC := Lib.hid (wbyte_any HP5.out.1 10 (by omega) (by have := HP5.out.size; omega))
          go_wp2_with fail
          refine HC.out.mono ?_
          rintro e w6 hp
          have HP6 := Lib.hid (HP5.out.put hp)
          obtain ⟨rfl, q1, q2, q3⟩ := hp
          clear q1 q2 q3 HC HP5
          go_wp2_with fail
          go_roundw
          case rel => exact ⟨j + 1, by omega, by go_num, (by have h1 := HP6.out; show Pen _ _ _ _ _; rw [HNX.out]; exact h1)⟩
          case measure => simp [intOf]; omega
        · obtain rfl : j = n := by omega
          have HPE : Hid (Pen w2.heap.size w2.heap.size (itemsT l) W3 wr) := by
            have h1 := HP.out
            rw [List.take_of_length_le (by have := HLN.out; omega)] at h1
            exact h1
          have hTE : (itemsT l).length ≤ 10000000 := by have h1 := itemsT_len l HALL.out; have h2 := HLN.out; omega
          have HTX := Lib.hid (ptext_any HPE.out.1 (itemsT_byt l HALL.out) hBw (by omega))
          clear HP hTl hTl2 HA3
          go_wp2_with fail
          refine HTX.out.mono ?_
          rintro e w5 ⟨rfl, hb5⟩
          have HE : Hid (TxtQ w.heap.size (K.itemsR l) w (.returned (.tuple #[.string (strOfNums (K.longR (itemsT l)).1), .int .i64 (K.longR (itemsT l)).2])) w5) := ⟨by rw [HF.out], HB2.out.trans ((HB3.out.trans (HPE.out.2.1.trans hb5)).mono HB2.out.size)⟩
          clear hb5 HTX HPE HF
          generalize K.longR (itemsT l) = rr at *
          go_wp2_with fail
          go_ret2
          exact HE.out
  · have g1 : (100 : Int) < (n : Int) := by omega
    have HE : Hid (TxtQ w.heap.size (K.itemsR l) w (.returned (.tuple #[.string ⟨#[]⟩, .int .i64 1])) w) := ⟨by unfold K.itemsR K.okL; rw [hlen, decide_eq_false h100, Bool.false_and, if_neg (by decide)]; rfl, HB.out⟩
    clear h100 HA HT HAL hlen
    go_enter Tryz.func12, Tryz.ntmps12
    go_wp2_with fail
    go_ret2
    exact HE.out
end Go.Proofs.YtmohefgdpddldaaGreatDoor
namespace Go.Proofs.YtmohefgdpddldaaGreatDoor
open Go.RowKit
open W (dgB smB many numB noBl lettersB allowB)

open W (allowP)
end Go.Proofs.YtmohefgdpddldaaGreatDoor
namespace Go.Proofs.YtmohefgdpddldaaGreatDoor
open Go.RowKit
open W (dgB smB many numB noBl lettersB allowB allowP)

/-- A token, as a value. -/
def tokV (k : Int) (s : ByteArray) (lo hi pos : Int) : Value := .agg #[.int .i64 k, .string s, .int .i64 lo, .int .i64 hi, .int .i64 pos]
end Go.Proofs.YtmohefgdpddldaaGreatDoor
namespace Go.Proofs.YtmohefgdpddldaaGreatDoor
open Go.RowKit
open E (okb encB flat offs)
open W (Tk lexS)

/-- What a reader goes through: a text, its characters, their places. -/
structure Cx where
  At : Option Addr
  nt : Nat
  ct : Nat
  Bs : List Int
  Ac : Option Addr
  nc : Nat
  cc : Nat
  L : List Int
  Ap : Option Addr
  np : Nat
  cp : Nat
  P : List Int
/-- Where a character begins. -/
def plc (L : List Int) (i : Nat) : Nat := (flat (L.take i)).length
structure Cx.Ok (X : Cx) : Prop where
  ok : X.L.all okb = true
  flat : X.Bs = flat X.L
  few : X.Bs.length ≤ 3000
  pl : X.P = offs 0 X.L ++ [(X.Bs.length : Int)]
theorem offs_at (L : List Int) (k i : Nat) (hi : i < L.length) : (offs k L)[i]? = some ((k + plc L i : Nat) : Int) := by
  induction L generalizing k i with
  | nil => simp at hi
  | cons c t ih =>
    rw [E.offs]
    cases i with
    | zero => simp [plc, E.flat]
    | succ i =>
      simp only [List.length_cons] at hi
      rw [List.getElem?_cons_succ, ih _ i (by omega)]
      simp [plc, E.flat]; omega
theorem Cx.Ok.at_ {X : Cx} (h : X.Ok) {i : Nat} (hi : i ≤ X.L.length) : X.P[i]? = some ((plc X.L i : Nat) : Int) := by
  rw [h.pl]
  have hl := E.offs_len 0 X.L
  rcases Nat.lt_or_ge i X.L.length with h1 | h1
  · rw [List.getElem?_append_left (by omega), offs_at _ _ _ h1, Nat.zero_add]
  · have e : i = X.L.length := by omega
    rw [List.getElem?_append_right (by omega), hl, e, Nat.sub_self, h.flat]
    simp [plc]
theorem plc_le (L : List Int) (i : Nat) : plc L i ≤ (flat L).length := E.flat_mono L i
/-- Tokens with their places. -/
def Cx.put (X : Cx) (t : Tk) : Tok := ⟨t.kind, t.text, t.low, t.high, plc X.L t.at_⟩
/-- Only the reader's block b and what lies from block b + 4 on may have turned. -/
structure Fr (b : Nat) (w w' : World) : Prop where
  os : w'.os = w.os
  tape : w'.tape = w.tape
  output : w'.output = w.output
  size : w.heap.size ≤ w'.heap.size
  block : ∀ i, i < b + 4 → i ≠ b → w'.heap[i]? = w.heap[i]?
theorem Fr.refl (b : Nat) (w : World) : Fr b w w := ⟨rfl, rfl, rfl, Nat.le_refl _, fun _ _ _ => rfl⟩
theorem Fr.trans {b : Nat} {a c d : World} (h : Fr b a c) (k : Fr b c d) : Fr b a d :=
  ⟨k.os.trans h.os, k.tape.trans h.tape, k.output.trans h.output, Nat.le_trans h.size k.size, fun i hi hn => (k.block i hi hn).trans (h.block i hi hn)⟩
theorem Fr.drewN {b : Nat} {a c : World} (h : Fr b a c) (q : Nat) : Fr b a (c.drewN q) := ⟨h.os, h.tape, h.output, h.size, h.block⟩
theorem Fr.set {b : Nat} {a c : World} (h : Fr b a c) (o : Nat) (v : Value) : Fr b a (c.setCell ⟨b, o, none⟩ v) :=
  h.trans ⟨rfl, rfl, rfl, by simp [World.setCell], fun i _ hi => Below.heap_setCell _ _ _ _ hi⟩
theorem Fr.below {b : Nat} {w w' : World} (h : Below w.heap.size w w') (hs : b + 4 ≤ w.heap.size) : Fr b w w' := ⟨h.os, h.tape, h.output, h.size, fun i hi _ => h.block i (by omega)⟩
section
variable {X : Cx} {b : Nat} {w w' : World} {p o : Nat} {tv : Value} {ts : List Tk}
end
end Go.Proofs.YtmohefgdpddldaaGreatDoor
namespace Go.Proofs.YtmohefgdpddldaaGreatDoor
open Go.RowKit
open W (Tk lexS)

section
variable {X : Cx} {b : Nat} {w : World} {p o : Nat} {tv : Value} {ts : List Tk}
end
end Go.Proofs.YtmohefgdpddldaaGreatDoor
namespace Go.Proofs.YtmohefgdpddldaaGreatDoor
open Go.RowKit
open W (Tk lexS)

theorem info_tok : (Tryz.prog.info? 94).map (fun i => (i.zero, i.size, i.bytes)) = some (some (.agg #[.int .i64 0, .string { data := #[] }, .int .i64 0, .int .i64 0, .int .i64 0]), 5, 48) := by kernel_rfl
/-- The cells that put loads. -/
def HeldT (b N : Nat) (tv : Value) (k : Int) (s : ByteArray) (lo hi pl : Int) (w : World) : Prop :=
  w.cell? ⟨b, 5, none⟩ = some tv ∧ w.cell? ⟨N, 0, none⟩ = some (.int .i64 k) ∧ w.cell? ⟨N, 1, none⟩ = some (.string s) ∧ w.cell? ⟨N, 2, none⟩ = some (.int .i64 lo) ∧ w.cell? ⟨N, 3, none⟩ = some (.int .i64 hi) ∧ w.cell? ⟨N, 4, none⟩ = some (.int .i64 pl)
theorem HeldT.keep {b N : Nat} {tv : Value} {k lo hi pl : Int} {s : ByteArray} {w w' : World} (h : HeldT b N tv k s lo hi pl w) (hb : w'.heap[b]? = w.heap[b]?) (hN : w'.heap[N]? = w.heap[N]?) : HeldT b N tv k s lo hi pl w' := by
  obtain ⟨h0, h1, h2, h3, h4, h5⟩ := h
  exact ⟨(World.cell?_of_block (a := ⟨b, 5, none⟩) hb).trans h0, (World.cell?_of_block (a := ⟨N, 0, none⟩) hN).trans h1, (World.cell?_of_block (a := ⟨N, 1, none⟩) hN).trans h2, (World.cell?_of_block (a := ⟨N, 2, none⟩) hN).trans h3, (World.cell?_of_block (a := ⟨N, 3, none⟩) hN).trans h4, (World.cell?_of_block (a := ⟨N, 4, none⟩) hN).trans h5⟩
section
variable {X : Cx} {b : Nat} {w : World} {p o : Nat} {tv : Value} {ts : List Tk}
end
end Go.Proofs.YtmohefgdpddldaaGreatDoor
namespace Go.Proofs.YtmohefgdpddldaaGreatDoor
open Go.RowKit
open W (Tk St lexS opn setS numT numB nameS many nmB ltB)

section
variable {X : Cx} {b : Nat} {w : World} {p o : Nat} {tv : Value} {ts : List Tk}
end
end Go.Proofs.YtmohefgdpddldaaGreatDoor
namespace Go.Proofs.YtmohefgdpddldaaGreatDoor
open Go.RowKit
open W (Tk St lexS opn nameS many nmB ltB)

section
variable {X : Cx} {b : Nat} {w : World} {p o : Nat} {tv : Value} {ts : List Tk}
end
end Go.Proofs.YtmohefgdpddldaaGreatDoor
namespace Go.Proofs.YtmohefgdpddldaaGreatDoor
open Go.RowKit
open Q (isC plainB digV R numS uS escS readS)

/-- Only block b may have turned. -/
structure Only (b : Nat) (w w' : World) : Prop where
  os : w'.os = w.os
  tape : w'.tape = w.tape
  output : w'.output = w.output
  size : w'.heap.size = w.heap.size
  block : ∀ i, i ≠ b → w'.heap[i]? = w.heap[i]?
theorem Only.refl (b : Nat) (w : World) : Only b w w := ⟨rfl, rfl, rfl, rfl, fun _ _ => rfl⟩
theorem Only.trans {b : Nat} {a c d : World} (h : Only b a c) (k : Only b c d) : Only b a d :=
  ⟨k.os.trans h.os, k.tape.trans h.tape, k.output.trans h.output, k.size.trans h.size, fun i hi => (k.block i hi).trans (h.block i hi)⟩
theorem Only.drewN {b : Nat} {a c : World} (h : Only b a c) (q : Nat) : Only b a (c.drewN q) := ⟨h.os, h.tape, h.output, h.size, h.block⟩
theorem Only.set {b : Nat} {a c : World} (h : Only b a c) (o : Nat) (v : Value) : Only b a (c.setCell ⟨b, o, none⟩ v) :=
  h.trans ⟨rfl, rfl, rfl, by simp [World.setCell], fun i hi => Below.heap_setCell _ _ _ _ hi⟩
section
variable {w w' : World} {b n c p : Nat} {A : Option Addr} {L : List Int}
end
theorem drop_at {L : List Int} {p : Nat} {x : Int} (h : L[p]? = some x) : L.drop p = x :: L.drop (p + 1) := by
  obtain ⟨hp, e⟩ := List.getElem?_eq_some_iff.1 h
  rw [List.drop_eq_getElem_cons hp, e]
end Go.Proofs.YtmohefgdpddldaaGreatDoor
namespace Go.Proofs.YtmohefgdpddldaaGreatDoor
open Go.RowKit
open Q (isC plainB digV R numS uS escS readS)

end Go.Proofs.YtmohefgdpddldaaGreatDoor
namespace Go.Proofs.YtmohefgdpddldaaGreatDoor
open Go.RowKit
open Q (isC plainB digV R numS uS escS readS)

/-- Four variables that a closure holds: a place, and three results. -/
structure Four (w : World) (b0 b1 b2 b3 : Nat) (at_ v1 v2 v3 : Int) : Prop where
  k0 : w.heap[b0]? = some (.cells #[.int .i64 at_] 3 (0, 0))
  k1 : w.heap[b1]? = some (.cells #[.int .i64 v1] 3 (0, 0))
  k2 : w.heap[b2]? = some (.cells #[.int .i64 v2] 3 (0, 0))
  k3 : w.heap[b3]? = some (.cells #[.int .i64 v3] 29 (0, 0))
  d1 : b1 = b0 + 1
  d2 : b2 = b0 + 2
  d3 : b3 = b0 + 3
theorem Four.lt {w : World} {b0 b1 b2 b3 : Nat} {at_ v1 v2 v3 : Int} (h : Four w b0 b1 b2 b3 at_ v1 v2 v3) : b3 < w.heap.size := by
  rcases Nat.lt_or_ge b3 w.heap.size with hl | hl
  · exact hl
  · have := h.k3; rw [Array.getElem?_eq_none hl] at this; cases this
theorem Four.on {w w' : World} {b0 b1 b2 b3 : Nat} {at_ v1 v2 v3 : Int} (h : Four w b0 b1 b2 b3 at_ v1 v2 v3) (hb : Below w.heap.size w w') : Four w' b0 b1 b2 b3 at_ v1 v2 v3 := by
  have hl := h.lt
  have e1 := h.d1; have e2 := h.d2; have e3 := h.d3
  exact ⟨(hb.block _ (by omega)).trans h.k0, (hb.block _ (by omega)).trans h.k1, (hb.block _ (by omega)).trans h.k2, (hb.block _ (by omega)).trans h.k3, e1, e2, e3⟩
theorem Four.drew {w : World} {b0 b1 b2 b3 : Nat} {at_ v1 v2 v3 : Int} (h : Four w b0 b1 b2 b3 at_ v1 v2 v3) : Four w.drew b0 b1 b2 b3 at_ v1 v2 v3 := ⟨h.k0, h.k1, h.k2, h.k3, h.d1, h.d2, h.d3⟩
end Go.Proofs.YtmohefgdpddldaaGreatDoor
namespace Go.Proofs.YtmohefgdpddldaaGreatDoor
open Go.RowKit
open Q (isC plainB digV R numS uS escS readS)

theorem Four.cells {w : World} {b0 b1 b2 b3 : Nat} {at_ v1 v2 v3 : Int} (h : Four w b0 b1 b2 b3 at_ v1 v2 v3) :
    w.cell? ⟨b0, 0, none⟩ = some (.int .i64 at_) ∧ w.cell? ⟨b1, 0, none⟩ = some (.int .i64 v1) ∧ w.cell? ⟨b2, 0, none⟩ = some (.int .i64 v2) ∧ w.cell? ⟨b3, 0, none⟩ = some (.int .i64 v3) ∧ w.frozen? ⟨b1, 0, none⟩ = false ∧ w.frozen? ⟨b2, 0, none⟩ = false ∧ w.frozen? ⟨b3, 0, none⟩ = false := by
  refine ⟨?_, ?_, ?_, ?_, frozen_of_row _ _ _ _ _ h.k1, frozen_of_row _ _ _ _ _ h.k2, frozen_of_row _ _ _ _ _ h.k3⟩
  · rw [cell_of_row _ _ _ _ _ _ h.k0]; rfl
  · rw [cell_of_row _ _ _ _ _ _ h.k1]; rfl
  · rw [cell_of_row _ _ _ _ _ _ h.k2]; rfl
  · rw [cell_of_row _ _ _ _ _ _ h.k3]; rfl
theorem Four.only {w w' : World} {b0 b1 b2 b3 b : Nat} {at_ v1 v2 v3 : Int} (h : Four w b0 b1 b2 b3 at_ v1 v2 v3) (ho : Only b w w') (hb : b3 < b) : Four w' b0 b1 b2 b3 at_ v1 v2 v3 := by
  have e1 := h.d1; have e2 := h.d2; have e3 := h.d3
  exact ⟨(ho.block _ (by omega)).trans h.k0, (ho.block _ (by omega)).trans h.k1, (ho.block _ (by omega)).trans h.k2, (ho.block _ (by omega)).trans h.k3, e1, e2, e3⟩
theorem Only.below {w w' : World} {b B : Nat} (h : Only b w w') (hb : B ≤ b) : Below B w w' := ⟨h.os, h.tape, h.output, Nat.le_of_eq h.size.symm, fun k hk => h.block k (by omega)⟩
end Go.Proofs.YtmohefgdpddldaaGreatDoor
namespace Go.Proofs.YtmohefgdpddldaaGreatDoor
open Go.RowKit
open W (Tk St C lexS opn chS hiS charsS markB)
open Q (R readS numS uS escS)

def shR (d : Nat) : R → R
  | .ok c n => .ok c (n + d)
  | .bad e => .bad e
theorem num_sh (d : Nat) : ∀ (l : List Int) (k : Nat) (v : Int) (p : Nat), numS l k v (p + d) = shR d (numS l k v p)
  | [], _, _, _ => rfl
  | c :: t, k, v, p => by
    rw [numS, numS]
    split
    · simp [shR]; omega
    · split
      · rfl
      · rw [show p + d + 1 = p + 1 + d by omega, num_sh d t]
theorem read_sh (d : Nat) (l : List Int) (p : Nat) : readS l (p + d) = shR d (readS l p) := by
  cases l with
  | nil => rfl
  | cons x t =>
    rw [readS, readS]
    split
    · cases t with
      | nil => rfl
      | cons y u =>
        rw [escS, escS]
        split
        · cases u with
          | nil => rfl
          | cons z o =>
            rw [uS, uS]
            split
            · rw [show p + d + 1 + 1 + 1 = p + 1 + 1 + 1 + d by omega, num_sh]
            · rfl
        · split
          · simp [shR]; omega
          · split
            · simp [shR]; omega
            · split
              · simp [shR]; omega
              · rfl
    · split
      · simp [shR]; omega
      · rfl
section
variable {X : Cx} {b : Nat} {w : World} {p o : Nat} {tv : Value} {ts : List Tk}
end
end Go.Proofs.YtmohefgdpddldaaGreatDoor
namespace Go.Proofs.YtmohefgdpddldaaGreatDoor
open Go.RowKit
open W (Tk St C lexS opn chS hiS charsS markB)

section
variable {X : Cx} {b : Nat} {w : World} {p o : Nat} {tv : Value} {ts : List Tk}
end
end Go.Proofs.YtmohefgdpddldaaGreatDoor
namespace Go.Proofs.YtmohefgdpddldaaGreatDoor
namespace W
open E (okb encB flat)

end W
end Go.Proofs.YtmohefgdpddldaaGreatDoor
namespace Go.Proofs.YtmohefgdpddldaaGreatDoor
open Go.RowKit

theorem byt_of {l : List Int} (h : (l.all fun x => decide (0 ≤ x ∧ x < 256)) = true) : Byt l := fun x hx => by
  have := List.all_eq_true.1 h x hx; simpa using this
theorem rd_lit_m (w : World) (fr : Nat × Nat) (k : IntKind) (L : List Int) (t : TypeId) (cs : Array Value) (hc : cs.toList = L.map (Value.int k)) (hm : L.length ≤ 1099511627776) :
    RdK k (w.alloc (.cells cs t fr)) (w.alloc (.cells cs t fr)).heap.size (some ⟨w.heap.size, 0, none⟩) L.length L.length L :=
  ⟨rfl, Nat.le_refl _, by unfold maxLen; omega, fun _ => ⟨w.heap.size, 0, rfl, by simp, fun j u hu => by
    rw [World.cell?_alloc_mark, Nat.zero_add]
    have : cs.toList[j]? = some (.int k u) := by rw [hc]; simp [hu]
    simpa using this⟩⟩
end Go.Proofs.YtmohefgdpddldaaGreatDoor
namespace Go.Proofs.YtmohefgdpddldaaGreatDoor
open Go.RowKit
open E (okb encB Fst)

/-- The library's two tables lie as its text lays them. -/
def Tabs (w : World) : Prop := Lib.Utf8Tabs 1 2 w
theorem Tabs.on {w w' : World} (h : Tabs w) (hb : Below w.heap.size w w') : Tabs w' :=
  ⟨fun c hc => by
    have h1 := h.1 c hc
    exact (hb.cell (p := ⟨_, c, none⟩) (klt_of_cell h1)).trans h1, fun i hi => by
    have h1 := (h.2 i hi).1
    have h2 := (h.2 i hi).2
    exact ⟨(hb.cell (p := ⟨_, 2 * i, none⟩) (klt_of_cell h1)).trans h1, (hb.cell (p := ⟨_, 2 * i + 1, none⟩) (klt_of_cell h2)).trans h2⟩⟩
/-- What the bytes L begin with is handed back. -/
def FstP (w : World) (L : List Int) (e : Ending) (w' : World) : Prop := ∃ (c : Int) (k : Nat), e = .returned (.tuple #[.int .i64 c, .int .i64 k]) ∧ Fst L c k ∧ Below w.heap.size w w'
end Go.Proofs.YtmohefgdpddldaaGreatDoor
namespace Go.Proofs.YtmohefgdpddldaaGreatDoor
open Go.RowKit
open E (okb encB Fst Upto Dead DecIs offs)

/-- What Decode leaves. -/
def DecP (w : World) (L : List Int) (e : Ending) (w' : World) : Prop := ∃ (A1 A2 : Option Addr) (n1 c1 n2 c2 : Nat) (cs ats : List Int) (x er : Int),
  e = .returned (.tuple #[.slice A1 n1 c1, .slice A2 n2 c2, .int .i64 x, .int .i64 er]) ∧ RdK .i64 w' w'.heap.size A1 n1 c1 cs ∧ RdK .i64 w' w'.heap.size A2 n2 c2 ats ∧ DecIs L cs ats x er ∧ Below w.heap.size w w'
theorem decP_ok {w w' : World} {L cs : List Int} {v1 v2 : Value} {n1 n2 : Nat} (hl : L.length ≤ 3000) (hu : Upto L L.length cs) (h1 : OwnK .i64 w' w.heap.size 3 v1 n1 cs) (h2 : OwnK .i64 w' w.heap.size 3 v2 n2 (offs 0 cs ++ [(L.length : Int)])) (hb : Below w.heap.size w w') :
    DecP w L (.returned (.tuple #[v1, v2, .int .i64 (-1), .int .i64 0])) w' := by
  obtain ⟨A1, c1, rfl, r1⟩ := h1.rd
  obtain ⟨A2, c2, rfl, r2⟩ := h2.rd
  exact ⟨A1, A2, n1, c1, n2, c2, cs, _, _, _, rfl, r1, r2, .ok cs hl hu, hb⟩
theorem decP_bad {w w' : World} {L cs : List Int} {p : Nat} (hl : L.length ≤ 3000) (hp : p < L.length) (hu : Upto L p cs) (hd : Dead L p) (hb : Below w.heap.size w w') :
    DecP w L (.returned (.tuple #[.slice none 0 0, .slice none 0 0, .int .i64 p, .int .i64 3])) w' :=
  ⟨none, none, 0, 0, 0, 0, [], [], _, _, rfl, RdK.nil _ _ _, RdK.nil _ _ _, .bad p cs hl hp hu hd, hb⟩
theorem decP_long {w : World} {L : List Int} (hl : 3000 < L.length) : DecP w L (.returned (.tuple #[.slice none 0 0, .slice none 0 0, .int .i64 0, .int .i64 2])) w :=
  ⟨none, none, 0, 0, 0, 0, [], [], _, _, rfl, RdK.nil _ _ _, RdK.nil _ _ _, .long hl, Below.refl _ _⟩
/-- What stands at the head of each round: the characters so far, their places. -/
structure DecR (w : World) (L : List Int) (vc va : Value) (p : Nat) (cs : List Int) (wx : World) : Prop where
  up : Upto L p cs
  c : OwnK .i64 wx w.heap.size 3 vc cs.length cs
  a : OwnK .i64 wx w.heap.size 3 va cs.length (offs 0 cs)
  apt : Apt vc va
  b : Below w.heap.size w wx
theorem DecR.start (w : World) (L : List Int) : DecR w L (.slice none 0 0) (.slice none 0 0) 0 [] w :=
  ⟨Upto.start L, OwnK.nil _ _ _ _, OwnK.nil _ _ _ _, apt_nil _, Below.refl _ _⟩
theorem DecR.on {w wx w' : World} {L cs : List Int} {vc va : Value} {p : Nat} (h : DecR w L vc va p cs wx) (hb : Below wx.heap.size wx w') : DecR w L vc va p cs w' :=
  ⟨h.up, h.c.below hb, h.a.below hb, h.apt, h.b.trans (hb.mono h.b.size)⟩
theorem decR_c {w w3 w4 : World} {L cs : List Int} {vc va v4 : Value} {p : Nat} {d : Int} {o : Obj} (h : DecR w L vc va p cs w3) (ho : OwnK .i64 w4 w.heap.size 3 v4 (cs.length + 1) (cs ++ [d])) (hg : (w3.alloc o).grownBy w4 vc.ownBlock) (hv : v4.ownBlock = vc.ownBlock ∨ v4.ownBlock = some (w3.heap.size + 1)) :
    OwnK .i64 w4 w.heap.size 3 v4 (cs.length + 1) (cs ++ [d]) ∧ OwnK .i64 w4 w.heap.size 3 va cs.length (offs 0 cs) ∧ Apt v4 va ∧ Below w.heap.size w w4 := by
  have ha := (h.a.alloc o).block
  have hc := (h.c.alloc o).block
  refine ⟨ho, (h.a.alloc o).kept hg ?_, ?_, below_grown (h.b.alloc (by have := h.b.size; omega) o) hg fun i hi => (hc i hi).1⟩
  · rcases h.apt with e | e
    · cases hva : va.ownBlock with
      | none => exact Or.inl rfl
      | some i => exact Or.inr (by rw [e]; simp)
    · exact Or.inr (Ne.symm e)
  · rcases hv with e | e
    · rcases h.apt with e' | e'
      · exact Or.inl (e.trans e')
      · exact Or.inr (by rw [e]; exact e')
    · refine Or.inr fun e' => ?_
      have := (ha _ (e'.symm.trans e)).2
      simp at this
theorem decR_a {w w4 w5 : World} {L cs : List Int} {va v4 v5 : Value} {p k : Nat} {d : Int} {o : Obj} (h : OwnK .i64 w4 w.heap.size 3 v4 (cs.length + 1) (cs ++ [d]) ∧ OwnK .i64 w4 w.heap.size 3 va cs.length (offs 0 cs) ∧ Apt v4 va ∧ Below w.heap.size w w4)
    (hu : Upto L (p + k) (cs ++ [d])) (hO : offs 0 (cs ++ [d]) = offs 0 cs ++ [(p : Int)])
    (ho : OwnK .i64 w5 w.heap.size 3 v5 (cs.length + 1) (offs 0 cs ++ [(p : Int)])) (hg : (w4.alloc o).grownBy w5 va.ownBlock) (hv : v5.ownBlock = va.ownBlock ∨ v5.ownBlock = some (w4.heap.size + 1)) :
    DecR w L v4 v5 (p + k) (cs ++ [d]) w5 := by
  obtain ⟨h1, h2, h3, h4⟩ := h
  have ha := (h2.alloc o).block
  have hc := (h1.alloc o).block
  refine ⟨hu, ?_, ?_, ?_, below_grown (h4.alloc (by have := h4.size; omega) o) hg fun i hi => (ha i hi).1⟩
  · rw [List.length_append]; exact (h1.alloc o).kept hg h3
  · rw [List.length_append, hO]; exact ho
  · rcases hv with e | e
    · rcases h3 with e' | e'
      · exact Or.inl e'
      · exact Or.inr (by rw [e]; exact e')
    · cases hv4 : v4.ownBlock with
      | none => exact Or.inl hv4
      | some i =>
        refine Or.inr fun e' => ?_
        have := (hc i hv4).2
        rw [hv4, e] at e'
        injection e' with e'
        simp at this
        omega
theorem decR_end {w wr w5 : World} {L cs : List Int} {vc va v5 : Value} {p : Nat} {o : Obj} (h : DecR w L vc va p cs wr) (hlen : L.length = p) (hl : p ≤ 3000) (hu : Upto L L.length cs) (ho : OwnK .i64 w5 w.heap.size 3 v5 (cs.length + 1) (offs 0 cs ++ [(p : Int)])) (hg : (wr.alloc o).grownBy w5 va.ownBlock) :
    DecP w L (.returned (.tuple #[vc, v5, .int .i64 (-1), .int .i64 0])) w5 := by
  rw [← hlen] at ho
  exact decP_ok (by rw [hlen]; exact hl) hu ((h.c.alloc o).kept hg h.apt) ho (below_grown (h.b.alloc (by have := h.b.size; omega) o) hg fun i hi => ((h.a.alloc o).block i hi).1)
end Go.Proofs.YtmohefgdpddldaaGreatDoor
namespace Go.Proofs.YtmohefgdpddldaaGreatDoor
open Go.RowKit
open W (Tk St C lexS opn noLf many noteS allowB allowP)

/-- The cells that note loads. -/
def HeldN (b b2 off2 p t : Nat) (v0 v2 : Value) (plA plB : Nat) (w : World) : Prop :=
  w.cell? ⟨b, 0, none⟩ = some v0 ∧ w.cell? ⟨b, 2, none⟩ = some v2 ∧ w.cell? ⟨b, 3, none⟩ = some (.int .i64 p) ∧ w.cell? ⟨b2, off2 + p, none⟩ = some (.int .i64 plA) ∧ w.cell? ⟨b2, off2 + t, none⟩ = some (.int .i64 plB)
theorem HeldN.push {b b2 off2 p t : Nat} {v0 v2 : Value} {plA plB : Nat} {w : World} (h : HeldN b b2 off2 p t v0 v2 plA plB w) (o : Obj) : HeldN b b2 off2 p t v0 v2 plA plB (w.alloc o) := by
  obtain ⟨h0, h1, h2, h3, h4⟩ := h
  have hk : ∀ {a : Addr} {v : Value}, w.cell? a = some v → (w.alloc o).cell? a = some v := fun {a} {v} hc => ((kbelow_push w o).cell (klt_of_cell hc)).trans hc
  exact ⟨hk h0, hk h1, hk h2, hk h3, hk h4⟩
section
variable {X : Cx} {b : Nat} {w : World} {p o : Nat} {tv : Value} {ts : List Tk}
end
end Go.Proofs.YtmohefgdpddldaaGreatDoor
namespace Go.Proofs.YtmohefgdpddldaaGreatDoor
open Go.RowKit
open W (Tk St C lexS opn dgB signK outS inS stepS lastK nameS setS numT noteS charsS)

section
variable {X : Cx} {b : Nat} {w : World} {p o : Nat} {tv : Value} {ts : List Tk}
end
end Go.Proofs.YtmohefgdpddldaaGreatDoor
namespace Go.Proofs.YtmohefgdpddldaaGreatDoor
open Go.RowKit
open W (Tk St C lexS opn dgB signK outS inS stepS lastK nameS setS numT noteS charsS)

section
variable {X : Cx} {b : Nat} {w : World} {p o : Nat} {tv : Value} {ts : List Tk}
end
end Go.Proofs.YtmohefgdpddldaaGreatDoor
namespace Go.Proofs.YtmohefgdpddldaaGreatDoor
open Go.RowKit

/-- Three results that a closure holds. -/
structure Tri (w : World) (b : Nat) (tv : Value) (v2 v3 : Int) : Prop where
  k1 : w.heap[b + 1]? = some (.cells #[tv] 38 (0, 0))
  k2 : w.heap[b + 2]? = some (.cells #[.int .i64 v2] 3 (0, 0))
  k3 : w.heap[b + 3]? = some (.cells #[.int .i64 v3] 29 (0, 0))
section
variable {w w' : World} {b : Nat} {tv : Value} {v2 v3 : Int}
theorem Tri.lt (h : Tri w b tv v2 v3) : b + 3 < w.heap.size := by
  rcases Nat.lt_or_ge (b + 3) w.heap.size with hl | hl
  · exact hl
  · have := h.k3; rw [Array.getElem?_eq_none hl] at this; cases this
theorem Tri.fr (h : Tri w b tv v2 v3) (hf : Fr b w w') : Tri w' b tv v2 v3 :=
  ⟨(hf.block _ (by omega) (by omega)).trans h.k1, (hf.block _ (by omega) (by omega)).trans h.k2, (hf.block _ (by omega) (by omega)).trans h.k3⟩
theorem Tri.below (h : Tri w b tv v2 v3) (hb : Below w.heap.size w w') : Tri w' b tv v2 v3 := by
  have := h.lt
  exact ⟨(hb.block _ (by omega)).trans h.k1, (hb.block _ (by omega)).trans h.k2, (hb.block _ (by omega)).trans h.k3⟩
theorem Tri.drewN (h : Tri w b tv v2 v3) (q : Nat) : Tri (w.drewN q) b tv v2 v3 := ⟨h.k1, h.k2, h.k3⟩
theorem Tri.cells (h : Tri w b tv v2 v3) : w.cell? ⟨b + 1, 0, none⟩ = some tv ∧ w.cell? ⟨b + 2, 0, none⟩ = some (.int .i64 v2) ∧ w.cell? ⟨b + 3, 0, none⟩ = some (.int .i64 v3) ∧ w.frozen? ⟨b + 1, 0, none⟩ = false ∧ w.frozen? ⟨b + 2, 0, none⟩ = false ∧ w.frozen? ⟨b + 3, 0, none⟩ = false := by
  refine ⟨?_, ?_, ?_, frozen_of_row _ _ _ _ _ h.k1, frozen_of_row _ _ _ _ _ h.k2, frozen_of_row _ _ _ _ _ h.k3⟩
  · rw [cell_of_row _ _ _ _ _ _ h.k1]; rfl
  · rw [cell_of_row _ _ _ _ _ _ h.k2]; rfl
  · rw [cell_of_row _ _ _ _ _ _ h.k3]; rfl
theorem Tri.put (h : Tri w b tv v2 v3) (x1 : Value) (x2 x3 : Int) : Tri (((w.setCell ⟨b + 1, 0, none⟩ x1).setCell ⟨b + 2, 0, none⟩ (.int .i64 x2)).setCell ⟨b + 3, 0, none⟩ (.int .i64 x3)) b x1 x2 x3 := by
  refine ⟨?_, ?_, ?_⟩
  · rw [heap_setCell_other _ _ _ _ (by show b + 1 ≠ b + 3; omega), heap_setCell_other _ _ _ _ (by show b + 1 ≠ b + 2; omega), heap_setCell_same _ _ _ _ _ _ h.k1]; rfl
  · rw [heap_setCell_other _ _ _ _ (by show b + 2 ≠ b + 3; omega), heap_setCell_same _ _ _ _ _ _ ((heap_setCell_other _ _ _ _ (by show b + 2 ≠ b + 1; omega)).trans h.k2)]; rfl
  · rw [heap_setCell_same _ _ _ _ _ _ ((heap_setCell_other _ _ _ _ (by show b + 3 ≠ b + 2; omega)).trans ((heap_setCell_other _ _ _ _ (by show b + 3 ≠ b + 1; omega)).trans h.k3))]; rfl
end
end Go.Proofs.YtmohefgdpddldaaGreatDoor
namespace Go.Proofs.YtmohefgdpddldaaGreatDoor
open Go.RowKit
open W (Tk St C Lx lexS opn outS inS stepS lastK)

theorem opn_le (k : Int) (o : Nat) : opn k o ≤ o + 1 := by unfold W.opn; split <;> (try split) <;> omega
theorem Fr.all {b : Nat} {w W0 w1 : World} (hb : Below b w W0) (hf : Fr b W0 w1) : Below b w w1 :=
  ⟨hf.os.trans hb.os, hf.tape.trans hb.tape, hf.output.trans hb.output, Nat.le_trans hb.size hf.size, fun i hi => (hf.block i (by omega) (by omega)).trans (hb.block i hi)⟩
end Go.Proofs.YtmohefgdpddldaaGreatDoor
namespace Go.Proofs.YtmohefgdpddldaaGreatDoor
open Go.RowKit
open E (okb encB flat offs DecIs Upto)
open W (Tk Lx lexS)

/-- Tokens with their places among bytes. -/
def placed (L : List Int) (ts : List Tk) : List Tok := ts.map fun t => ⟨t.kind, t.text, t.low, t.high, plc L t.at_⟩
/-- What a text's tokens come to: the tokens, or the place and the error. -/
inductive TokIs (Bs : List Int) : List Tok → Int → Int → Prop where
  | dec (cs ats : List Int) (x er : Int) (h : DecIs Bs cs ats x er) (he : er ≠ 0) : TokIs Bs [] x er
  | bad (cs ats : List Int) (x : Int) (h : DecIs Bs cs ats x 0) (k : Nat) (er : Int) (hl : lexS cs 0 0 [] = .bad k er) : TokIs Bs [] (plc cs k : Nat) er
  | ok (cs ats : List Int) (x : Int) (h : DecIs Bs cs ats x 0) (ts : List Tk) (hl : lexS cs 0 0 [] = .ok ts) : TokIs Bs (placed cs ts) (-1) 0
/-- What Of leaves. -/
def OfP5 (w : World) (Bs : List Int) (e : Ending) (w' : World) : Prop := ∃ (A : Option Addr) (n c : Nat) (l : List Tok) (x er : Int),
  e = .returned (.tuple #[.slice A n c, .int .i64 x, .int .i64 er]) ∧ RdT w' w'.heap.size A n c l ∧ TokIs Bs l x er ∧ Below w.heap.size w w'
theorem dec_ok {Bs cs ats : List Int} {x er : Int} (h : DecIs Bs cs ats x er) (he : er = 0) : cs.all okb = true ∧ Bs = flat cs ∧ Bs.length ≤ 3000 ∧ ats = offs 0 cs ++ [(Bs.length : Int)] := by
  cases h with
  | ok _ hl hu => exact ⟨List.all_eq_true.2 hu.ok, by have := hu.eq; rw [List.take_length] at this; exact this, hl, rfl⟩
  | bad _ _ _ _ _ _ => omega
  | long _ => omega
end Go.Proofs.YtmohefgdpddldaaGreatDoor
namespace Go.Proofs.YtmohefgdpddldaaGreatDoor
open Go.RowKit
open Y (Nd It Ps nextP takeP failP noTok noName zeroN formP itemP lineP itemsP lastP)

/-- What all tokens say: the items, or where and why it is wrong. -/
def allS (e : Int) (n m : Nat) (ts : List Tok) : List It × Int × Int :=
  match lastP e (itemsP e n m [] (.live ts)).2 with
  | .live _ => ((itemsP e n m [] (.live ts)).1, -1, 0)
  | .dead a y => ([], a, y)
def AllQ (w : World) (r : List It × Int × Int) (en : Ending) (w' : World) : Prop := ∃ A c, en = .returned (.tuple #[.slice A r.1.length c, .int .i64 r.2.1, .int .i64 r.2.2]) ∧ RdI6 w' (In w.heap.size w'.heap.size) A r.1.length c r.1 ∧ Below w.heap.size w w'
/-- What a text's items are, by its tokens. -/
inductive ItemsIs (Bs : List Int) (N M : Nat) : List It × Int × Int → Prop where
  | bad (x er : Int) (h : TokIs Bs [] x er) (he : er ≠ 0) : ItemsIs Bs N M ([], x, er)
  | ok (ts : List Tok) (x : Int) (h : TokIs Bs ts x 0) : ItemsIs Bs N M (allS Bs.length N M ts)
theorem lex_len : ∀ (n : Nat) (l : List Int), l.length ≤ n → ∀ (i o : Nat) (ts ts' : List W.Tk), W.lexS l i o ts = .ok ts' → ts'.length ≤ ts.length + l.length := by
  intro n
  induction n with
  | zero =>
    intro l hl i o ts ts' h
    obtain rfl : l = [] := List.eq_nil_of_length_eq_zero (by omega)
    rw [W.lexS_nil] at h
    split at h
    · cases h
    · injection h with h; subst h; simp
  | succ n ih =>
    intro l hl i o ts ts' h
    cases l with
    | nil =>
      rw [W.lexS_nil] at h
      split at h
      · cases h
      · injection h with h; subst h; simp
    | cons c t =>
      simp only [List.length_cons] at hl ⊢
      by_cases hb : c = 32 ∨ c = 9
      · rw [W.lexS_blank hb] at h
        have := ih t (by omega) _ _ _ _ h
        omega
      · rw [W.lexS_step hb] at h
        cases hs : W.stepS o ts c t with
        | bad k e => rw [hs] at h; cases h
        | tok k x lo hi m =>
          rw [hs] at h
          have := ih (t.drop m) (by rw [List.length_drop]; omega) _ _ _ _ h
          rw [List.length_drop, List.length_append] at this
          simp at this
          omega
        | skip m =>
          rw [hs] at h
          have := ih (t.drop m) (by rw [List.length_drop]; omega) _ _ _ _ h
          rw [List.length_drop] at this
          omega
theorem tok_few {Bs : List Int} {ts : List Tok} {x er : Int} (h : TokIs Bs ts x er) : ts.length ≤ Bs.length := by
  cases h with
  | dec => simp
  | bad => simp
  | ok cs ats x h ts hl =>
    obtain ⟨o1, o2, _, _⟩ := dec_ok h rfl
    have h1 := lex_len cs.length cs (Nat.le_refl _) 0 0 [] ts hl
    have h2 := W.flat_len o1
    rw [← o2] at h2
    simp [placed] at h1 ⊢
    omega
end Go.Proofs.YtmohefgdpddldaaGreatDoor
namespace Go.Proofs.YtmohefgdpddldaaGreatDoor
open Go.RowKit
open E (okb encB flat offs DecIs Upto)
open W (Tk lexS)
open Y (Nd It Ps)

def lexL (l : List Int) : List Tk := match lexS l 0 0 [] with | .ok ts => ts | .bad _ _ => []
/-- A text that is decoded and read has these items alone. -/
theorem items_one {Bs cs ats : List Int} {x : Int} {N M : Nat} {r : List It × Int × Int} {ts : List Tk} (hd : DecIs Bs cs ats x 0) (hl : lexS cs 0 0 [] = .ok ts) (h : ItemsIs Bs N M r) : r = allS Bs.length N M (placed cs ts) := by
  have hone : ∀ {us : List Tok} {y er : Int}, TokIs Bs us y er → us = placed cs ts ∧ er = 0 := by
    intro us y er ht
    cases ht with
    | dec cs' ats' _ _ h he => obtain ⟨_, _, _, e⟩ := h.one hd; exact absurd e he
    | bad cs' ats' _ h k _ hl' => obtain ⟨e, _⟩ := h.one hd; subst e; rw [hl] at hl'; cases hl'
    | ok cs' ats' _ h ts' hl' => obtain ⟨e, _⟩ := h.one hd; subst e; rw [hl] at hl'; injection hl' with e; subst e; exact ⟨rfl, rfl⟩
  cases h with
  | bad x er h he => exact absurd (hone h).2 he
  | ok us y h => rw [(hone h).1]
end Go.Proofs.YtmohefgdpddldaaGreatDoor
namespace Go.Proofs.YtmohefgdpddldaaGreatDoor
open Go.RowKit
open Y (Nd It Ps)

end Go.Proofs.YtmohefgdpddldaaGreatDoor
namespace Go.Proofs.YtmohefgdpddldaaGreatDoor
open W (Tk St lexS lexS_nil lexS_blank lexS_step stepS inS outS nameS setS numT noteS charsS signK)

/-- A token as the lexer makes it. -/
def GdK (k : Int) (x : List Int) (lo : Int) : Prop := k ≠ 0 ∧ (k = 1 → lo = 0) ∧ (k = 2 → x = [])
def Gd (t : Tok) : Prop := GdK t.kind t.text t.low
def GdS : St → Prop
  | .tok k x lo _ _ => GdK k x lo
  | _ => True
theorem gd_bare {k lo : Int} (h : k ≠ 0) (h1 : k ≠ 1) : GdK k [] lo := ⟨h, fun e => absurd e h1, fun _ => rfl⟩
theorem nameS_gd (t : List Int) : GdS (nameS t) := by
  unfold W.nameS
  split
  · split
    · trivial
    · exact ⟨by decide, fun _ => rfl, fun h => absurd h (by decide)⟩
  · trivial
theorem setS_gd (t : List Int) : GdS (setS t) := by
  unfold W.setS
  split <;> exact gd_bare (by decide) (by decide)
theorem numT_gd (t : List Int) : GdS (numT t) := by
  unfold W.numT
  split
  · exact gd_bare (by decide) (by decide)
  · trivial
theorem noteS_gd (t : List Int) : GdS (noteS t) := by
  unfold W.noteS
  split
  · split
    · exact ⟨by decide, fun h => absurd h (by decide), fun h => absurd h (by decide)⟩
    · trivial
  · trivial
theorem charsS_gd (t : List Int) : GdS (charsS t) := by
  unfold W.charsS
  split
  · trivial
  · split
    · trivial
    · split
      · trivial
      · exact gd_bare (by decide) (by decide)
theorem stepS_gd (o : Nat) (ts : List Tk) (c : Int) (t : List Int) : GdS (stepS o ts c t) := by
  unfold W.stepS
  split
  · unfold W.inS
    split
    · exact nameS_gd t
    · split
      · exact setS_gd t
      · split
        · exact gd_bare (by decide) (by decide)
        · split
          · exact gd_bare (by decide) (by decide)
          · split
            · split
              · exact gd_bare (by decide) (by decide)
              · trivial
            · exact charsS_gd _
  · unfold W.outS
    split
    · exact nameS_gd t
    · split
      · exact numT_gd _
      · split
        · exact setS_gd t
        · split
          · exact noteS_gd _
          · split
            · trivial
            · rename_i h
              exact ⟨h, fun _ => rfl, fun _ => rfl⟩
theorem lex_gd : ∀ (n : Nat) (l : List Int), l.length ≤ n → ∀ (i o : Nat) (ts ts' : List Tk), (∀ t ∈ ts, GdK t.kind t.text t.low) → lexS l i o ts = .ok ts' → ∀ t ∈ ts', GdK t.kind t.text t.low := by
  intro n
  induction n with
  | zero =>
    intro l hl i o ts ts' hg h
    obtain rfl : l = [] := List.eq_nil_of_length_eq_zero (by omega)
    rw [lexS_nil] at h
    split at h
    · cases h
    · injection h with h; subst h; exact hg
  | succ n ih =>
    intro l hl i o ts ts' hg h
    cases l with
    | nil =>
      rw [lexS_nil] at h
      split at h
      · cases h
      · injection h with h; subst h; exact hg
    | cons c t =>
      simp only [List.length_cons] at hl
      by_cases hb : c = 32 ∨ c = 9
      · rw [lexS_blank hb] at h
        exact ih t (by omega) _ _ _ _ hg h
      · rw [lexS_step hb] at h
        have hs2 := stepS_gd o ts c t
        cases hs : stepS o ts c t with
        | bad k e => rw [hs] at h; cases h
        | tok k x lo hi m =>
          rw [hs] at h hs2
          refine ih (t.drop m) (by rw [List.length_drop]; omega) _ _ _ _ (fun u hu => ?_) h
          rcases List.mem_append.1 hu with h1 | h1
          · exact hg u h1
          · simp at h1; subst h1; exact hs2
        | skip m =>
          rw [hs] at h
          exact ih (t.drop m) (by rw [List.length_drop]; omega) _ _ _ _ hg h
end Go.Proofs.YtmohefgdpddldaaGreatDoor
namespace Go.Proofs.YtmohefgdpddldaaGreatDoor
open Y (Nd Ps)
/-- Two answers agree where what is left is right. -/
def Agr {α : Type} (p q : α × Ps) : Prop := p.2 = q.2 ∧ ∀ ts, p.2 = .live ts → p.1 = q.1
theorem Agr.refl {α : Type} (p : α × Ps) : Agr p p := ⟨rfl, fun _ _ => rfl⟩
end Go.Proofs.YtmohefgdpddldaaGreatDoor
namespace Go.Proofs.YtmohefgdpddldaaGreatDoor
open Go.RowKit
open Y (Nd It Ps nextP takeP failP noTok noName deepP formP orsP joinP piecesP pieceP bareP setP partsP partP heldP memberP)

/-- What the document's reader goes through. -/
structure Px where
  A : Option Addr
  n : Nat
  c : Nat
  T : List Tok
  e : Int
/-- The document's reader at block b: s is still to be read; o are open. -/
structure Rdd (X : Px) (b : Nat) (w : World) (o : Nat) (s : Ps) (h : Nat) : Prop where
  blk : w.heap[b]? = some (.cells #[.slice X.A X.n X.c, .int .i64 X.e, .int .i64 s.atv, .int .i64 s.whyv, .int .i64 h] 76 (0, 0))
  rd : RdT w b X.A X.n X.c X.T
  st : (s = .live (X.T.drop h) ∧ h ≤ X.n) ∨ (∃ a y, s = .dead a y ∧ y ≠ 0 ∧ h + o ≤ X.n + 20)
  few : X.n ≤ 4000
  good : ∀ t ∈ X.T, Gd t
def RdF (X : Px) (b : Nat) (w : World) (o : Nat) (s : Ps) : Prop := ∃ h, Rdd X b w o s h
section
variable {X : Px} {b : Nat} {w w' : World} {o h : Nat} {s : Ps}
theorem Rdd.lt (H : Rdd X b w o s h) : b < w.heap.size := by
  rcases Nat.lt_or_ge b w.heap.size with hlt | hge
  · exact hlt
  · have := H.blk; rw [Array.getElem?_eq_none hge] at this; cases this
theorem Rdd.drewN (H : Rdd X b w o s h) (q : Nat) : Rdd X b (w.drewN q) o s h := ⟨H.blk, H.rd.drewN q, H.st, H.few, H.good⟩
theorem Rdd.below (H : Rdd X b w o s h) (hb : Below w.heap.size w w') : Rdd X b w' o s h :=
  ⟨(hb.block b H.lt).trans H.blk, H.rd.keep fun p hp => hb.cell (by have := H.lt; omega), H.st, H.few, H.good⟩
theorem Rdd.other (H : Rdd X b w o s h) {g : Nat} (hg : b < g) (j : Nat) (v : Value) : Rdd X b (w.setCell ⟨g, j, none⟩ v) o s h :=
  ⟨(Below.heap_setCell _ _ _ _ (by show b ≠ g; omega)).trans H.blk, H.rd.keep fun p hp => World.cell?_of_block (w := w) (Below.heap_setCell _ _ _ _ (by show p.block ≠ g; omega)), H.st, H.few, H.good⟩
theorem Rdd.fr (H : Rdd X b w o s h) (j : Nat) : w.frozen? ⟨b, j, none⟩ = false := frozen_of_row _ _ _ _ _ H.blk
theorem Rdd.cells (H : Rdd X b w o s h) : w.cell? ⟨b, 0, none⟩ = some (.slice X.A X.n X.c) ∧ w.cell? ⟨b, 1, none⟩ = some (.int .i64 X.e) ∧ w.cell? ⟨b, 2, none⟩ = some (.int .i64 s.atv) ∧ w.cell? ⟨b, 3, none⟩ = some (.int .i64 s.whyv) ∧ w.cell? ⟨b, 4, none⟩ = some (.int .i64 h) := by
  refine ⟨?_, ?_, ?_, ?_, ?_⟩ <;> (rw [cell_of_row _ _ _ _ _ _ H.blk]; rfl)
theorem Rdd.le (H : Rdd X b w o s h) : h ≤ 4020 := by
  have := H.few
  rcases H.st with ⟨_, h2⟩ | ⟨_, _, _, _, h2⟩ <;> omega
/-- Less is open. -/
theorem Rdd.less (H : Rdd X b w o s h) {o' : Nat} (ho : o' ≤ o) : Rdd X b w o' s h := ⟨H.blk, H.rd, by
  rcases H.st with h2 | ⟨a, y, h1, h2, h3⟩
  · exact .inl h2
  · exact .inr ⟨a, y, h1, h2, by omega⟩, H.few, H.good⟩
/-- The next token's kind; 0: there is none. -/
def kAt (l : List Tok) : Int := match l with | [] => 0 | t :: _ => t.kind
theorem Rdd.here (H : Rdd X b w o s h) {q : Nat} {x : Int} {s' : Ps} {o' : Nat} (hx : x = (q : Int)) (ha : s'.atv = s.atv) (hy : s'.whyv = s.whyv) (hs : (s' = .live (X.T.drop q) ∧ q ≤ X.n) ∨ (∃ a y, s' = .dead a y ∧ y ≠ 0 ∧ q + o' ≤ X.n + 20)) :
    Rdd X b (w.setCell ⟨b, 4, none⟩ (.int .i64 x)) o' s' q := by
  subst hx
  refine ⟨?_, H.rd.keep fun p hp => World.cell?_of_block (w := w) (Below.heap_setCell _ _ _ _ (by show p.block ≠ b; omega)), hs, H.few, H.good⟩
  rw [heap_setCell_same _ _ _ _ _ _ H.blk, ha, hy]; rfl
/-- One token has been taken. -/
theorem Rdd.next {t : Tok} {u : List Tok} (H : Rdd X b w o (.live (t :: u)) h) {x : Int} (hx : x = (h : Int) + 1) : Rdd X b (w.setCell ⟨b, 4, none⟩ (.int .i64 x)) o (.live u) (h + 1) := by
  refine H.here (q := h + 1) (by omega) rfl rfl (.inl ?_)
  rcases H.st with ⟨h1, h2⟩ | ⟨a, y, h1, _⟩
  · injection h1 with h1
    have hl : h < X.T.length := by
      have := congrArg List.length h1
      rw [List.length_cons, List.length_drop] at this
      omega
    refine ⟨?_, by rw [← H.rd.len]; omega⟩
    rw [List.drop_eq_getElem_cons hl] at h1
    injection h1 with _ h1
    rw [h1]
  · cases h1
/-- The like, where it is wrong. -/
theorem Rdd.past {a y : Int} {o' : Nat} (H : Rdd X b w (o' + 1) (.dead a y) h) {x : Int} (hx : x = (h : Int) + 1) : Rdd X b (w.setCell ⟨b, 4, none⟩ (.int .i64 x)) o' (.dead a y) (h + 1) := by
  refine H.here (q := h + 1) (by omega) rfl rfl (.inr ?_)
  rcases H.st with ⟨h1, h2⟩ | ⟨a', y', h1, h2, h3⟩
  · cases h1
  · exact ⟨a', y', h1, h2, by omega⟩
theorem Rdd.live {l : List Tok} (H : Rdd X b w o (.live l) h) : l = X.T.drop h ∧ h ≤ X.n ∧ l.length = X.n - h := by
  rcases H.st with ⟨h1, h2⟩ | ⟨a, y, h1, _⟩
  · injection h1 with h1
    refine ⟨h1, h2, ?_⟩
    rw [h1, List.length_drop, H.rd.len]
  · cases h1
theorem Rdd.gd {t : Tok} {u : List Tok} (H : Rdd X b w o (.live (t :: u)) h) : Gd t := by
  refine H.good t ?_
  have := H.live.1
  exact List.mem_of_mem_drop (i := h) (by rw [← this]; simp)
/-- A token lies in memory. -/
theorem Rdd.tokAt {t : Tok} (H : Rdd X b w o s h) (ht : X.T[h]? = some t) : ∃ g off, X.A = some ⟨g, off, none⟩ ∧ g < b ∧ h < X.n ∧ w.cell? ⟨g, off + h * 5, none⟩ = some (.int .i64 t.kind) ∧ w.cell? ⟨g, off + h * 5 + 1, none⟩ = some (.string (strOfNums t.text)) ∧ w.cell? ⟨g, off + h * 5 + 2, none⟩ = some (.int .i64 t.low) ∧ w.cell? ⟨g, off + h * 5 + 3, none⟩ = some (.int .i64 t.high) ∧ w.cell? ⟨g, off + h * 5 + 4, none⟩ = some (.int .i64 t.pos) := by
  have hlt : h < X.n := by have := (List.getElem?_eq_some_iff.1 ht).1; have := H.rd.len; omega
  obtain ⟨g, off, e, hg, hc⟩ := H.rd.at_ (by omega)
  refine ⟨g, off, e, hg, hlt, ?_, ?_, ?_, ?_, ?_⟩
  · exact hc (h * 5 + 0) _ (by rw [cellsP_at ht (by decide)]; rfl)
  · exact hc (h * 5 + 1) _ (by rw [cellsP_at ht (by decide)]; rfl)
  · exact hc (h * 5 + 2) _ (by rw [cellsP_at ht (by decide)]; rfl)
  · exact hc (h * 5 + 3) _ (by rw [cellsP_at ht (by decide)]; rfl)
  · exact hc (h * 5 + 4) _ (by rw [cellsP_at ht (by decide)]; rfl)
/-- The next token lies in memory. -/
theorem Rdd.tok {t : Tok} {u : List Tok} (H : Rdd X b w o (.live (t :: u)) h) : ∃ g off, X.A = some ⟨g, off, none⟩ ∧ g < b ∧ h < X.n ∧ w.cell? ⟨g, off + h * 5, none⟩ = some (.int .i64 t.kind) ∧ w.cell? ⟨g, off + h * 5 + 1, none⟩ = some (.string (strOfNums t.text)) ∧ w.cell? ⟨g, off + h * 5 + 2, none⟩ = some (.int .i64 t.low) ∧ w.cell? ⟨g, off + h * 5 + 3, none⟩ = some (.int .i64 t.high) ∧ w.cell? ⟨g, off + h * 5 + 4, none⟩ = some (.int .i64 t.pos) := by
  refine H.tokAt ?_
  have := congrArg (fun l => l[0]?) H.live.1
  simpa using this.symm
/-- A kind is handed back; nothing but the order has been drawn. -/
def KindD (w : World) (k : Int) (e : Ending) (w' : World) : Prop := e = .returned (.int .i64 k) ∧ ∃ q, w' = w.drewN q
set_option maxHeartbeats 2000000 in
theorem dkind_all (H : Rdd X b w o s h) :
    Calls Tryz.prog 48 #[.pointer (some ⟨b, 0, none⟩)] w (KindD w (kAt (X.T.drop h))) := by
  obtain ⟨c0, _, _, _, c4⟩ := H.cells
  have hf := H.few
  have hle := H.le
  have hl := H.rd.len
  by_cases hlt : h < X.n
  · obtain ⟨t, ht⟩ : ∃ t, X.T[h]? = some t := ⟨_, List.getElem?_eq_getElem (by omega)⟩
    obtain ⟨g, off, hA, _, _, d0, _⟩ := H.tokAt ht
    have hk : kAt (X.T.drop h) = t.kind := by
      have h1 : (X.T.drop h)[0]? = some t := by rw [List.getElem?_drop]; exact ht
      cases hd : X.T.drop h with
      | nil => rw [hd] at h1; cases h1
      | cons a u => rw [hd] at h1; injection h1 with h1; subst h1; rfl
    rw [hk]
    rw [hA] at c0
    have hli : ¬ (X.n : Int) ≤ (h : Int) := by omega
    have hl2 : (h : Int) < (X.n : Int) := by omega
    clear H hA hl hk ht
    go_enter Tryz.func48, Tryz.ntmps48
    go_wp2_with fail
    go_quiet (fail)
    go_wp2_with fail
    go_quiet (fail)
    go_wp2_with fail
    go_ret
    exact ⟨rfl, _, kdrewN_two _ _ _⟩
  · have hk : kAt (X.T.drop h) = 0 := by rw [List.drop_eq_nil_of_le (by omega)]; rfl
    rw [hk]
    have hli : (X.n : Int) ≤ (h : Int) := by omega
    clear H hl hk
    go_enter Tryz.func48, Tryz.ntmps48
    go_wp2_with fail
    go_quiet (fail)
    go_wp2_with fail
    go_ret
    exact ⟨rfl, nq, rfl⟩
theorem dkind_any {l : List Tok} (H : Rdd X b w o (.live l) h) :
    Calls Tryz.prog 48 #[.pointer (some ⟨b, 0, none⟩)] w (KindD w (kAt l)) := by
  rw [H.live.1]; exact dkind_all H
/-- What is left to be gone through. -/
def dlen (b : Nat) (w : World) : Nat := match w.cell? ⟨b, 3, none⟩, w.cell? ⟨b, 0, none⟩, w.cell? ⟨b, 4, none⟩ with
  | some (.int _ y), some (.slice _ n _), some (.int _ h) => if y = 0 then n + 1 - h.toNat else 0
  | _, _, _ => 0
def left_ : Ps → Nat | .live l => l.length + 1 | .dead _ _ => 0
theorem Rdd.dlen (H : Rdd X b w o s h) : dlen b w = left_ s := by
  obtain ⟨c0, _, _, c3, c4⟩ := H.cells
  unfold Proofs.YtmohefgdpddldaaGreatDoor.dlen
  rw [c0, c3, c4]
  cases s with
  | live l =>
    obtain ⟨_, h2, h3⟩ := H.live
    show (if (0 : Int) = 0 then X.n + 1 - (h : Int).toNat else 0) = l.length + 1
    rw [if_pos rfl, h3]; simp; omega
  | dead a y =>
    rcases H.st with ⟨h1, _⟩ | ⟨a', y', h1, h2, _⟩
    · cases h1
    · injection h1 with _ h1; subst h1
      show (if y = 0 then _ else 0) = 0
      rw [if_neg h2]
end
end Go.Proofs.YtmohefgdpddldaaGreatDoor
namespace Go.Proofs.YtmohefgdpddldaaGreatDoor
open Go.RowKit
open Y (Nd It Ps nextP takeP failP noTok noName deepP formP orsP joinP piecesP pieceP bareP setP partsP partP heldP memberP)

section
variable {X : Px} {b : Nat} {w w' : World} {o h : Nat} {s : Ps}
theorem Rdd.stop (H : Rdd X b w o s h) {a y : Int} {v : World} (hb : v.heap[b]? = some (.cells #[.slice X.A X.n X.c, .int .i64 X.e, .int .i64 a, .int .i64 y, .int .i64 h] 76 (0, 0))) (hk : ∀ p : Addr, p.block < b → v.cell? p = w.cell? p) (hy : y ≠ 0) (ho : h + o ≤ X.n + 20) : Rdd X b v o (.dead a y) h :=
  ⟨hb, H.rd.keep hk, .inr ⟨a, y, rfl, hy, ho⟩, H.few, H.good⟩
/-- What a function leaves that says that it is wrong. -/
def SayD (X : Px) (b : Nat) (w : World) (o : Nat) (s : Ps) (en : Ending) (w' : World) : Prop := en = .returned (.tuple #[]) ∧ RdF X b w' o s ∧ Fe b w w'
theorem far_set {w : World} {b : Nat} (i : Nat) (v : Value) : ∀ p : Addr, p.block < b → (w.setCell ⟨b, i, none⟩ v).cell? p = w.cell? p := fun p hp => World.cell?_of_block (w := w) (Below.heap_setCell _ _ _ _ (by show p.block ≠ b; omega))
set_option maxHeartbeats 4000000 in
theorem pfail_any {l : List Tok} (H : Rdd X b w o (.live l) h) {y : Int} (hy : y ≠ 0) (ho : o ≤ 20) (hl : l = [] → y = 5) :
    Calls Tryz.prog 50 #[.pointer (some ⟨b, 0, none⟩), .int .i64 y] w (SayD X b w o (failP X.e y (.live l))) := by
  obtain ⟨c0, c1, c2, c3, c4⟩ := H.cells
  obtain ⟨_, h2, h3⟩ := H.live
  have hf := H.few
  have f2 := H.fr 2
  have f3 := H.fr 3
  have f4 := H.fr 4
  have HB := Lib.hid H.blk
  replace c2 : w.cell? ⟨b, 2, none⟩ = some (.int .i64 0) := c2
  replace c3 : w.cell? ⟨b, 3, none⟩ = some (.int .i64 0) := c3
  have hb1 : (((w.setCell ⟨b, 2, none⟩ (.int .i64 X.e)).setCell ⟨b, 3, none⟩ (.int .i64 y)).heap[b]? = some (.cells #[.slice X.A X.n X.c, .int .i64 X.e, .int .i64 X.e, .int .i64 y, .int .i64 h] 76 (0, 0))) := by
    rw [heap_setCell_same _ _ _ _ _ _ (heap_setCell_same _ _ _ _ _ _ H.blk)]; rfl
  cases l with
  | nil =>
    simp only [List.length_nil] at h3
    obtain rfl : h = X.n := by omega
    obtain rfl := hl rfl
    have HE : Hid (∀ q, SayD X b w o (failP X.e 5 (.live [])) (.returned (.tuple #[])) (((w.setCell ⟨b, 2, none⟩ (.int .i64 X.e)).setCell ⟨b, 3, none⟩ (.int .i64 5)).drewN q)) := fun q =>
      ⟨rfl, ⟨X.n, (H.stop hb1 (fun p hp => (far_set _ _ p hp).trans (far_set _ _ p hp)) (by decide) (by omega)).drewN q⟩, (((Fe.refl b w).set (.inl rfl) _ _).set (.inl rfl) _ _).drewN q⟩
    clear H h3 hb1 hl
    go_enter Tryz.func50, Tryz.ntmps50
    go_wp2_with fail
    go_quiet (fail)
    go_wp2_with fail
    exact bodyPost_ret (v := .tuple #[]) (by simp [results, Tryz.results50, go_sem]) rfl (HE.out _)
  | cons t u =>
    obtain ⟨g, off, hA, hg, hlt, _, _, _, _, d4⟩ := H.tok
    have hne : g ≠ b := by omega
    have HE : Hid (∀ q, SayD X b w o (failP X.e y (.live (t :: u))) (.returned (.tuple #[])) ((((w.setCell ⟨b, 2, none⟩ (.int .i64 X.e)).setCell ⟨b, 3, none⟩ (.int .i64 y)).drewN q).drew.setCell ⟨b, 2, none⟩ (.int .i64 t.pos))) := fun q => by
      refine ⟨rfl, ⟨h, H.stop (a := t.pos) (y := y) ?_ (fun p hp => (far_set _ _ p hp).trans ((far_set _ _ p hp).trans (far_set _ _ p hp))) hy (by omega)⟩, (((((Fe.refl b w).set (.inl rfl) _ _).set (.inl rfl) _ _).drewN q).drewN 1).set (.inl rfl) _ _⟩
      rw [heap_setCell_same ((((w.setCell ⟨b, 2, none⟩ (.int .i64 X.e)).setCell ⟨b, 3, none⟩ (.int .i64 y)).drewN q).drew) _ _ _ _ _ hb1]; rfl
    rw [hA] at c0
    have hl2 : (h : Int) < (X.n : Int) := by omega
    have hh0 : (0 : Int) ≤ (h : Int) := by omega
    generalize t.pos = tp at *
    have HB1h := Lib.hid hb1
    have HA := Lib.hid hA
    clear H h3 hb1 hA HB
    go_enter Tryz.func50, Tryz.ntmps50
    go_wp2_with fail
    go_quiet (fail)
    go_wp2_with fail
    have k4 : (((w.setCell ⟨b, 2, none⟩ (.int .i64 X.e)).setCell ⟨b, 3, none⟩ (.int .i64 y)).drewN nq).cell? ⟨g, off + h * 5 + 4, none⟩ = some (.int .i64 tp) := ((far_set _ _ _ hg).trans (far_set _ _ _ hg)).trans d4
    have HB1 : (((w.setCell ⟨b, 2, none⟩ (.int .i64 X.e)).setCell ⟨b, 3, none⟩ (.int .i64 y)).drewN nq).heap[b]? = _ := HB1h.out
    have HE2 := Lib.hid (HE.out nq)
    clear c0 c1 c2 c3 c4 f2 f3 f4 d4 HE
    generalize ((w.setCell ⟨b, 2, none⟩ (.int .i64 X.e)).setCell ⟨b, 3, none⟩ (.int .i64 y)).drewN nq = W2 at *
    obtain ⟨c0, c1, c2, c3, c4⟩ := cells5 HB1
    have f2 : W2.frozen? ⟨b, 2, none⟩ = false := frozen_of_row _ _ _ _ _ HB1
    rw [HA.out] at c0
    clear HB1
    go_still_tail 14, (by kernel_rfl)
    change wpList _ _ _ _ _ W2.drew
    go_wp2_with fail
    exact bodyPost_ret (v := .tuple #[]) (by simp [results, Tryz.results50, go_sem]) rfl HE2.out
theorem podd_any {l : List Tok} (H : Rdd X b w o (.live l) h) (ho : o ≤ 20) :
    Calls Tryz.prog 49 #[.pointer (some ⟨b, 0, none⟩)] w (SayD X b w o (failP X.e 4 (.live l))) := by
  have HH := Lib.hid H
  cases l with
  | nil =>
    clear H
    go_enter Tryz.func49, Tryz.ntmps49
    go_wp2_with fail
    refine (dkind_any HH.out).mono ?_
    rintro e w2 ⟨rfl, q, rfl⟩
    rw [show kAt [] = 0 from rfl]
    go_wp2_with fail
    refine (pfail_any (HH.out.drewN q) (y := 5) (by decide) ho (fun _ => rfl)).mono ?_
    rintro e w3 ⟨rfl, hr, hf⟩
    have HE : Hid (SayD X b w o (failP X.e 4 (.live [])) (.returned (.tuple #[])) w3) := ⟨rfl, hr, ((Fe.refl b w).drewN q).trans hf⟩
    clear hr hf
    go_wp2_with fail
    exact bodyPost_ret (v := .tuple #[]) (by simp [results, Tryz.results49, go_sem]) rfl HE.out
  | cons t u =>
    have hk : t.kind ≠ 0 := H.gd.1
    have g0 : (t.kind == 0) = false := by simpa using hk
    clear H hk
    go_enter Tryz.func49, Tryz.ntmps49
    go_wp2_with fail
    refine (dkind_any HH.out).mono ?_
    rintro e w2 ⟨rfl, q, rfl⟩
    rw [show kAt (t :: u) = t.kind from rfl]
    go_wp2_with fail
    refine (pfail_any (HH.out.drewN q) (y := 4) (by decide) ho (fun h => by cases h)).mono ?_
    rintro e w3 ⟨rfl, hr, hf⟩
    have HE : Hid (SayD X b w o (failP X.e 4 (.live (t :: u))) (.returned (.tuple #[])) w3) := ⟨rfl, hr, ((Fe.refl b w).drewN q).trans hf⟩
    clear hr hf
    go_wp2_with fail
    exact bodyPost_ret (v := .tuple #[]) (by simp [results, Tryz.results49, go_sem]) rfl HE.out
end
/-- What several of one kind make. -/
def sevD (k : Int) (l : List Nd) : Nd := if l = [] then .mk 1 noName 0 0 [] else Y.several k l
set_option maxHeartbeats 1000000 in
theorem psev_any (k : Int) {w : World} {S : Nat → Prop} {A : Option Addr} {n c : Nat} {l : List Nd} (h : RdN w S A n c l) (hS : ∀ b, S b → b < w.heap.size) :
    Calls Tryz.prog 90 #[.int .i64 k, .slice A n c] w fun e w' => ∃ v, e = .returned v ∧ IsN w' S v (sevD k l) ∧ Below w.heap.size w w' := by
  have hn := h.small
  by_cases h0 : n = 0
  · subst h0
    have hl : l = [] := List.eq_nil_of_length_eq_zero h.len
    subst hl
    clear h
    go_enter Tryz.func90, Tryz.ntmps90
    go_wp2
    refine bodyPost_ret (v := .agg #[.int .i64 1, .string noName, .int .i64 0, .int .i64 0, .slice none 0 0]) ?_ rfl ⟨_, rfl, ⟨none, 0, 0, rfl, RdN.nil _ _⟩, kbelow_push w _⟩
    simp [noName, results, Tryz.results90, go_sem]
  · have hne : l ≠ [] := fun e => h0 (by rw [← h.len, e]; rfl)
    have hs : sevD k l = Y.several k l := by unfold sevD; rw [if_neg hne]
    rw [hs]
    clear hs
    have g0 : ((n : Int) == 0) = false := by simp; omega
    by_cases h1 : n = 1
    · subst h1
      obtain ⟨b, off, x, A', n', c', rfl, hb, hx, hr, t0, t1, t2, t3, t4⟩ := h.got (i := 0) (by omega)
      have hl : l = [x] := by
        have := h.len
        match l, this with
        | [y], _ => simp at hx; rw [hx]
      subst hl
      simp only [Nat.zero_mul, Nat.add_zero] at t0 t1 t2 t3 t4
      have hbw := hS b hb
      have HR := Lib.hid hr
      clear h hx hr hne h0
      go_enter Tryz.func90, Tryz.ntmps90
      go_wp2
      refine bodyPost_ret (v := .agg #[.int .i64 x.kind, .string x.name, .int .i64 x.low, .int .i64 x.high, .slice A' n' c']) ?_ rfl ⟨_, rfl, ⟨A', n', c', rfl, HR.out.keep (fun _ h => h) fun p hp => World.cell?_alloc_lt w _ p (hS _ hp)⟩, kbelow_push w _⟩
      simp [results, Tryz.results90, go_sem]
    · have e : Y.several k l = .mk k noName 0 0 l := by
        unfold Y.several
        split
        · exact absurd h.len (by simp; omega)
        · rfl
      rw [e]
      have g1 : ((n : Int) == 1) = false := by simp; omega
      have HR := Lib.hid h
      clear h hne h0
      go_enter Tryz.func90, Tryz.ntmps90
      go_wp2
      refine bodyPost_ret (v := .agg #[.int .i64 k, .string noName, .int .i64 0, .int .i64 0, .slice A n c]) ?_ rfl ⟨_, rfl, ⟨A, n, c, rfl, HR.out.keep (fun _ h => h) fun p hp => World.cell?_alloc_lt w _ p (hS _ hp)⟩, kbelow_push w _⟩
      simp [noName, results, Tryz.results90, go_sem]
/-- Does a piece begin with a kind? -/
def begB (k : Int) : Bool := [1, 12, 6, 13].contains k
theorem begins_any (k : Int) (w : World) : Calls Tryz.prog 112 #[.int .i64 k] w fun e w' => e = .returned (.bool (begB k)) ∧ w = w' := by
  by_cases h1 : k = 1
  · subst h1
    go_enter Tryz.func112, Tryz.ntmps112
    go_wp2
    go_ret
    exact ⟨rfl, rfl⟩
  · have g1 : (k == 1) = false := by simpa using h1
    by_cases h2 : k = 12
    · subst h2
      go_enter Tryz.func112, Tryz.ntmps112
      go_wp2
      go_ret
      exact ⟨rfl, rfl⟩
    · have g2 : (k == 12) = false := by simpa using h2
      by_cases h3 : k = 6
      · subst h3
        go_enter Tryz.func112, Tryz.ntmps112
        go_wp2
        go_ret
        exact ⟨rfl, rfl⟩
      · have g3 : (k == 6) = false := by simpa using h3
        by_cases h4 : k = 13
        · subst h4
          go_enter Tryz.func112, Tryz.ntmps112
          go_wp2
          go_ret
          exact ⟨rfl, rfl⟩
        · have g4 : (k == 13) = false := by simpa using h4
          have hb : begB k = false := by
            unfold begB
            simp [List.contains, List.elem, g1, g2, g3, g4]
          rw [hb]
          clear h1 h2 h3 h4 hb
          go_enter Tryz.func112, Tryz.ntmps112
          go_wp2
          go_ret
          exact ⟨rfl, rfl⟩
end Go.Proofs.YtmohefgdpddldaaGreatDoor
namespace Go.Proofs.YtmohefgdpddldaaGreatDoor
open Go.RowKit
open Y (Nd It Ps nextP takeP failP noTok noName zeroN deepP formP orsP joinP piecesP pieceP bareP setP partsP partP heldP memberP)

/-- What a function leaves that reads a form: the form is said only where all is right. -/
def PFQ (X : Px) (b : Nat) (w : World) (o : Nat) (r : Nd × Ps) (en : Ending) (w' : World) : Prop := ∃ v x, en = .returned v ∧ IsN w' (In w.heap.size w'.heap.size) v x ∧ (∀ ts, r.2 = .live ts → x = r.1) ∧ RdF X b w' o r.2 ∧ Fe b w w'
def DSet (L : Nat) : Prop := ∀ (X : Px) (b : Nat) (w : World) (o : Nat) (l : List Tok) (h : Nat), Rdd X b w o (.live l) h → o ≤ 12 → nextP [13] (.live l) = true → l.length ≤ L → ∀ m, 10 * l.length + 4 ≤ m → Calls Tryz.prog 128 #[.pointer (some ⟨b, 0, none⟩), .int .i64 o] w (PFQ X b w o (setP X.e m o (.live l)))
def DPart (L : Nat) : Prop := ∀ (X : Px) (b : Nat) (w : World) (o : Nat) (l : List Tok) (h : Nat), Rdd X b w o (.live l) h → o ≤ 12 → l.length ≤ L → ∀ m, 10 * l.length + 7 ≤ m → Calls Tryz.prog 137 #[.pointer (some ⟨b, 0, none⟩), .int .i64 o] w (PFQ X b w o (memberP X.e m o (.live l)))
def DPiece (L : Nat) : Prop := ∀ (X : Px) (b : Nat) (w : World) (o : Nat) (l : List Tok) (h : Nat), Rdd X b w o (.live l) h → o ≤ 12 → nextP [1, 12, 6, 13] (.live l) = true → l.length ≤ L → ∀ m, 10 * l.length + 5 ≤ m → Calls Tryz.prog 113 #[.pointer (some ⟨b, 0, none⟩), .int .i64 o] w (PFQ X b w o (bareP X.e m o (.live l)))
def DJoin (L : Nat) : Prop := ∀ (X : Px) (b : Nat) (w : World) (o : Nat) (l : List Tok) (h : Nat), Rdd X b w o (.live l) h → o ≤ 12 → l.length ≤ L → ∀ m, 10 * l.length + 8 ≤ m → Calls Tryz.prog 89 #[.pointer (some ⟨b, 0, none⟩), .int .i64 o] w (PFQ X b w o (joinP X.e m o (.live l)))
def DOr (L : Nat) : Prop := ∀ (X : Px) (b : Nat) (w : World) (o : Nat) (l : List Tok) (h : Nat), Rdd X b w o (.live l) h → o ≤ 12 → l.length ≤ L → ∀ m, 10 * l.length + 10 ≤ m → Calls Tryz.prog 47 #[.pointer (some ⟨b, 0, none⟩), .int .i64 o] w (PFQ X b w o (formP X.e m o (.live l)))
/-- The cells that 't := r.t[r.here]' loads. -/
def HeldR (X : Px) (b g off h : Nat) (k : Int) (s : ByteArray) (lo hi p : Int) (w' : World) : Prop :=
  w'.cell? ⟨b, 0, none⟩ = some (.slice (some ⟨g, off, none⟩) X.n X.c) ∧ w'.cell? ⟨b, 4, none⟩ = some (.int .i64 h) ∧ w'.cell? ⟨g, off + h * 5, none⟩ = some (.int .i64 k) ∧ w'.cell? ⟨g, off + h * 5 + 1, none⟩ = some (.string s) ∧ w'.cell? ⟨g, off + h * 5 + 2, none⟩ = some (.int .i64 lo) ∧ w'.cell? ⟨g, off + h * 5 + 3, none⟩ = some (.int .i64 hi) ∧ w'.cell? ⟨g, off + h * 5 + 4, none⟩ = some (.int .i64 p)
section
variable {X : Px} {b : Nat} {w w2 : World} {o h : Nat} {s : Ps}
theorem Rdd.held {t : Tok} {u : List Tok} (H : Rdd X b w o (.live (t :: u)) h) : ∃ g off, g < b ∧ h < X.n ∧ ∀ w', Below w.heap.size w w' → HeldR X b g off h t.kind (strOfNums t.text) t.low t.high t.pos w' := by
  obtain ⟨g, off, hA, hg, hlt, d0, d1, d2, d3, d4⟩ := H.tok
  refine ⟨g, off, hg, hlt, fun w' hb => ?_⟩
  obtain ⟨c0, _, _, _, c4⟩ := (H.below hb).cells
  have hbl := H.lt
  have hc : ∀ j, w'.cell? ⟨g, j, none⟩ = w.cell? ⟨g, j, none⟩ := fun j => hb.cell (p := ⟨g, j, none⟩) (by show g < _; omega)
  rw [hA] at c0
  exact ⟨c0, c4, (hc _).trans d0, (hc _).trans d1, (hc _).trans d2, (hc _).trans d3, (hc _).trans d4⟩
theorem Rdd.other5 (H : Rdd X b w o s h) {g : Nat} (hg : b < g) (a0 a1 a2 a3 a4 : Value) : Rdd X b (set5 w g a0 a1 a2 a3 a4) o s h :=
  ((((H.other hg _ _).other hg _ _).other hg _ _).other hg _ _).other hg _ _
/-- The cell of a result is stored last. -/
theorem pf_end {r : Nd × Ps} {N lo : Nat} {x : Nd} {A : Option Addr} {n c : Nat} (hf : Fe b w w2) (hr : RdF X b w2 o s) (hN : w.heap.size ≤ N) (hlo : N < lo) (hb : b < w.heap.size) (hv : RdN w2 (In lo w2.heap.size) A n c x.kids) (hs : r.2 = s) (hx : ∀ ts, s = .live ts → x = r.1) :
    PFQ X b w o r (.returned (.agg #[.int .i64 x.kind, .string x.name, .int .i64 x.low, .int .i64 x.high, .slice A n c])) (set5 w2 N (.int .i64 x.kind) (.string x.name) (.int .i64 x.low) (.int .i64 x.high) (.slice A n c)) := by
  subst hs
  obtain ⟨h, hr⟩ := hr
  refine ⟨_, x, rfl, ⟨A, n, c, rfl, hv.keep (fun i hi => ⟨by have := hi.1; omega, by rw [set5_size]; exact hi.2⟩) fun p hp => ?_⟩, hx, ⟨h, hr.other5 (by omega) _ _ _ _ _⟩, hf.set5 (.inr hN) _ _ _ _ _⟩
  exact World.cell?_of_block (w := w2) (set5_block _ _ _ _ _ _ _ (by have := hp.1; omega))
end
theorem below_set5 {B N : Nat} {a c : World} (h : Below B a c) (hN : B ≤ N) (a0 a1 a2 a3 a4 : Value) : Below B a (set5 c N a0 a1 a2 a3 a4) :=
  ((((h.setCell (p := ⟨N, 0, none⟩) hN _).setCell (p := ⟨N, 1, none⟩) hN _).setCell (p := ⟨N, 2, none⟩) hN _).setCell (p := ⟨N, 3, none⟩) hN _).setCell (p := ⟨N, 4, none⟩) hN _
set_option maxHeartbeats 1000000 in
theorem dpart_of {L : Nat} (hset : DSet L) : DPart L := by
  intro X b w o l h H ho hl m hm
  obtain ⟨m, rfl⟩ : ∃ m', m = m' + 1 := ⟨m - 1, by omega⟩
  have hlt := H.lt
  have hres : memberP X.e (m + 1) o (.live l) = if nextP [13] (.live l) = true then setP X.e m o (.live l) else (Y.single (takeP X.e [15, 1] (.live l)).1, (takeP X.e [15, 1] (.live l)).2) := by rw [memberP]
  have HRES := Lib.hid hres
  clear hres
  generalize memberP X.e (m + 1) o (.live l) = r at *
  have HW1 := Lib.hid (begN_below w)
  have HR1 := Lib.hid (H.below HW1.out)
  have HBX := Lib.hid (begN_box w)
  have hs1 := begN_size w
  clear H
  cases l with
  | nil =>
    have HRES2 : Hid (r = (Y.single noTok, .dead X.e 5)) := by show _ = _; rw [HRES.out]; rfl
    clear HRES
    go_enter Tryz.func137, Tryz.ntmps137
    go_wp2_with fail
    change Calls _ _ _ (begN w) _
    generalize begN w = W1 at *
    refine (dkind_any HR1.out).mono ?_
    rintro e w2 ⟨rfl, q, rfl⟩
    rw [show kAt [] = 0 from rfl]
    go_wp2_with fail
    refine (podd_any (HR1.out.drewN q) (by omega)).mono ?_
    rintro e w3 ⟨rfl, hr3, hf3⟩
    have HF3 := Lib.hid ((Fe.of_below HW1.out).trans (((Fe.refl b W1).drewN q).trans hf3))
    have HBX3 := Lib.hid (HBX.out.fe (((Fe.refl b W1).drewN q).trans hf3) (by omega) (by omega))
    have hsz3 := hf3.size
    replace hsz3 : W1.heap.size ≤ w3.heap.size := hsz3
    have HE : Hid (PFQ X b w o r _ _) := pf_end (s := .dead X.e 5) (x := zeroN) (N := w.heap.size) (lo := w.heap.size + 1) HF3.out hr3 (Nat.le_refl _) (by omega) hlt (RdN.nil _ _) (by rw [HRES2.out]) (fun ts h => by cases h)
    have HQ := Lib.hid (HBX3.out.set (.int .i64 0) (.string noName) (.int .i64 0) (.int .i64 0) (.slice none 0 0))
    obtain ⟨⟨x0, x1, x2, x3, x4, k0, k1, k2, k3, k4⟩, fN⟩ := HBX3.out.facts
    clear hr3 hf3 HF3 HBX3 HR1 HRES2
    go_wp2_with fail
    change bodyPost _ _ _ _ _ (set5 w3 w.heap.size (.int .i64 0) (.string noName) (.int .i64 0) (.int .i64 0) (.slice none 0 0))
    replace HE : Hid (PFQ X b w o r (.returned (.agg #[.int .i64 0, .string noName, .int .i64 0, .int .i64 0, .slice none 0 0])) (set5 w3 w.heap.size (.int .i64 0) (.string noName) (.int .i64 0) (.int .i64 0) (.slice none 0 0))) := HE
    generalize set5 w3 w.heap.size (.int .i64 0) (.string noName) (.int .i64 0) (.int .i64 0) (.slice none 0 0) = w4 at HE HQ ⊢
    obtain ⟨q0, q1, q2, q3, q4⟩ := cells5 HQ.out
    exact bodyPost_ret (v := .agg #[.int .i64 0, .string noName, .int .i64 0, .int .i64 0, .slice none 0 0]) (by simp [results, Tryz.results137, go_sem, q0, q1, q2, q3, q4]) rfl HE.out
  | cons t u =>
    obtain ⟨g, off, hg, hh, hheld⟩ := HR1.out.held
    obtain ⟨tk, tt, tlo, thi, tp⟩ := t
    have HHD : Hid (∀ w', Below (begN w).heap.size (begN w) w' → HeldR X b g off h tk (strOfNums tt) tlo thi tp w') := hheld
    clear hheld
    have hh0 : (0 : Int) ≤ (h : Int) := by omega
    have hhn : (h : Int) < (X.n : Int) := by omega
    have hf9 := HR1.out.few
    by_cases h15 : tk = 15
    · subst h15
      have HRES2 : Hid (r = (.mk 5 noName tlo thi [], .live u)) := by
        show _ = _
        rw [HRES.out, Y.next_cons, if_neg (by simp), take_yes (by simp)]
        rfl
      clear HRES
      generalize htx : strOfNums tt = tx at *
      clear htx
      go_enter Tryz.func137, Tryz.ntmps137
      go_wp2_with fail
      change Calls _ _ _ (begN w) _
      generalize begN w = W1 at *
      refine (dkind_any HR1.out).mono ?_
      rintro e w2 ⟨rfl, q, rfl⟩
      rw [show kAt (⟨15, tt, tlo, thi, tp⟩ :: u) = 15 from rfl]
      go_wp2_with fail
      have HR2 := Lib.hid (HR1.out.drewN q)
      have HF2 : Hid (Fe b w (W1.drewN q)) := (Fe.of_below HW1.out).trans ((Fe.refl b W1).drewN q)
      have HBX2 := Lib.hid (HBX.out.fe ((Fe.refl b W1).drewN q) (by omega) (by omega))
      have hz2 : (W1.drewN q).heap.size = w.heap.size + 1 := hs1
      have HS : Hid (∀ w', Below (W1.drewN q).heap.size (W1.drewN q) w' → HeldR X b g off h 15 tx tlo thi tp w') := fun w' hb => HHD.out w' ((kbelow_drewN (Below.refl _ W1) q).trans hb)
      generalize W1.drewN q = W2 at *
      have SS : HeldR X b g off h 15 tx tlo thi tp W2.drew := HS.out _ (Below.refl _ _).drew
      clear HR1 HBX HW1 HHD
      refine region_plain (HeldR X b g off h 15 tx tlo thi tp) 11 12 (by kernel_rfl) rfl ?_
      refine Z_takeW 0 (v := .pointer (some ⟨b, 0, none⟩)) rfl (by kernel_rfl) (by kernel_rfl) (by kernel_rfl) (by kernel_rfl) (fun _ _ _ h => h) SS rfl (fun w' hS => ?_) ?_
      · obtain ⟨s0, s1, s2, s3, s4, s5, s6⟩ := hS; go_simp
      refine Z_takeW 1 (v := .pointer (some ⟨b, 0, none⟩)) rfl (by kernel_rfl) (by kernel_rfl) (by kernel_rfl) (by kernel_rfl) (fun _ _ _ h => h) SS rfl (fun w' hS => ?_) ?_
      · obtain ⟨s0, s1, s2, s3, s4, s5, s6⟩ := hS; go_simp
      refine Z_takeW 2 (v := .pointer (some ⟨b, 0, none⟩)) rfl (by kernel_rfl) (by kernel_rfl) (by kernel_rfl) (by kernel_rfl) (fun _ _ _ h => h) SS rfl (fun w' hS => ?_) ?_
      · obtain ⟨s0, s1, s2, s3, s4, s5, s6⟩ := hS; go_simp
      refine Z_takeW 3 (v := .slice (some ⟨g, off, none⟩) X.n X.c) rfl (by kernel_rfl) (by kernel_rfl) (by kernel_rfl) (by kernel_rfl) (fun _ _ _ h => h) SS rfl (fun w' hS => ?_) ?_
      · obtain ⟨s0, s1, s2, s3, s4, s5, s6⟩ := hS; go_simp
      refine Z_takeW 4 (v := .pointer (some ⟨b, 0, none⟩)) rfl (by kernel_rfl) (by kernel_rfl) (by kernel_rfl) (by kernel_rfl) (fun _ _ _ h => h) SS rfl (fun w' hS => ?_) ?_
      · obtain ⟨s0, s1, s2, s3, s4, s5, s6⟩ := hS; go_simp
      refine Z_takeW 5 (v := .pointer (some ⟨b, 0, none⟩)) rfl (by kernel_rfl) (by kernel_rfl) (by kernel_rfl) (by kernel_rfl) (fun _ _ _ h => h) SS rfl (fun w' hS => ?_) ?_
      · obtain ⟨s0, s1, s2, s3, s4, s5, s6⟩ := hS; go_simp
      refine Z_takeW 6 (v := .pointer (some ⟨b, 4, none⟩)) rfl (by kernel_rfl) (by kernel_rfl) (by kernel_rfl) (by kernel_rfl) (fun _ _ _ h => h) SS rfl (fun w' hS => ?_) ?_
      · obtain ⟨s0, s1, s2, s3, s4, s5, s6⟩ := hS; go_simp
      refine Z_takeW 7 (v := .int .i64 h) rfl (by kernel_rfl) (by kernel_rfl) (by kernel_rfl) (by kernel_rfl) (fun _ _ _ h => h) SS rfl (fun w' hS => ?_) ?_
      · obtain ⟨s0, s1, s2, s3, s4, s5, s6⟩ := hS; go_simp
      refine Z_takeW 8 (v := .pointer (some ⟨g, off + h * 5, none⟩)) rfl (by kernel_rfl) (by kernel_rfl) (by kernel_rfl) (by kernel_rfl) (fun _ _ _ h => h) SS rfl (fun w' hS => ?_) ?_
      · obtain ⟨s0, s1, s2, s3, s4, s5, s6⟩ := hS; go_simp
      refine Z_takeW 9 (v := .agg #[.int .i64 15, .string tx, .int .i64 tlo, .int .i64 thi, .int .i64 tp]) rfl (by kernel_rfl) (by kernel_rfl) (by kernel_rfl) (by kernel_rfl) (fun _ _ _ h => h) SS rfl (fun w' hS => ?_) ?_
      · obtain ⟨s0, s1, s2, s3, s4, s5, s6⟩ := hS; go_simp
      refine Z_one 10 rfl (by kernel_rfl) rfl ?_
      go_simp
      have HBA : Hid (Below W2.heap.size W2 ((W2.alloc (.cells #[.int .i64 0, .string { data := #[] }, .int .i64 0, .int .i64 0, .int .i64 0] 94)).drew)) := (kbelow_push W2 _).drew
      have hNA : ((W2.alloc (.cells #[.int .i64 0, .string { data := #[] }, .int .i64 0, .int .i64 0, .int .i64 0] 94)).drew).heap[w.heap.size + 1]? = some (.cells #[.int .i64 0, .string { data := #[] }, .int .i64 0, .int .i64 0, .int .i64 0] 94 (0, 0)) := by rw [← hz2]; exact heap_alloc_new W2 _
      have SA := HS.out _ HBA.out
      have hzA : ((W2.alloc (.cells #[.int .i64 0, .string { data := #[] }, .int .i64 0, .int .i64 0, .int .i64 0] 94)).drew).heap.size = w.heap.size + 2 := by rw [show ((W2.alloc (.cells #[.int .i64 0, .string { data := #[] }, .int .i64 0, .int .i64 0, .int .i64 0] 94)).drew).heap.size = W2.heap.size + 1 by simp [World.drew]]; omega
      generalize ((W2.alloc (.cells #[.int .i64 0, .string { data := #[] }, .int .i64 0, .int .i64 0, .int .i64 0] 94)).drew) = WA at *
      refine ⟨SA, ?_⟩
      refine Z_one 11 rfl (by kernel_rfl) rfl ?_
      have HNA := Lib.hid hNA
      obtain ⟨z0, z1, z2, z3, z4⟩ := cells5 hNA
      have fA : ∀ j, WA.frozen? ⟨w.heap.size + 1, j, none⟩ = false := fun j => frozen_of_row _ _ _ _ _ hNA
      clear hNA SA SS
      go_simp
      refine Z_done (by kernel_rfl) ?_
      unfold OnlyN
      simp only []
      change Exit.then _ _ .normal _ (set5 WA (w.heap.size + 1) (.int .i64 15) (.string tx) (.int .i64 tlo) (.int .i64 thi) (.int .i64 tp))
      have HB3 : Hid (Below W2.heap.size W2 (set5 WA (w.heap.size + 1) (.int .i64 15) (.string tx) (.int .i64 tlo) (.int .i64 thi) (.int .i64 tp))) := below_set5 HBA.out (by omega) _ _ _ _ _
      have HT3 := Lib.hid (set5_row HNA.out (.int .i64 15) (.string tx) (.int .i64 tlo) (.int .i64 thi) (.int .i64 tp))
      have hz3 : (set5 WA (w.heap.size + 1) (.int .i64 15) (.string tx) (.int .i64 tlo) (.int .i64 thi) (.int .i64 tp)).heap.size = w.heap.size + 2 := by rw [set5_size]; exact hzA
      clear z0 z1 z2 z3 z4 fA HBA HNA hzA
      generalize set5 WA (w.heap.size + 1) (.int .i64 15) (.string tx) (.int .i64 tlo) (.int .i64 thi) (.int .i64 tp) = W3 at *
      have HR3 := Lib.hid (HR2.out.below HB3.out)
      obtain ⟨_, _, _, _, c4⟩ := HR3.out.cells
      have f4 := HR3.out.fr 4
      obtain ⟨z0, z1, z2, z3, z4⟩ := cells5 HT3.out
      have HBX3 : Hid (Box5 W3 w.heap.size 24) := HBX2.out.fe (b := b) (Fe.of_below HB3.out) (by omega) (by omega)
      have HF4 : Hid (Fe b w (W3.setCell ⟨b, 4, none⟩ (.int .i64 ((h : Int) + 1)))) := (HF2.out.trans (Fe.of_below HB3.out)).set (.inl rfl) _ _
      have HR4 := Lib.hid (HR3.out.next (x := (h : Int) + 1) rfl)
      have HBX4 : Hid (Box5 (W3.setCell ⟨b, 4, none⟩ (.int .i64 ((h : Int) + 1))) w.heap.size 24) := HBX3.out.fe (b := b) ((Fe.refl b W3).set (.inl rfl) _ _) (by omega) (by omega)
      have HE : Hid (PFQ X b w o r (.returned (.agg #[.int .i64 5, .string noName, .int .i64 tlo, .int .i64 thi, .slice none 0 0])) (set5 (W3.setCell ⟨b, 4, none⟩ (.int .i64 ((h : Int) + 1))) w.heap.size (.int .i64 5) (.string noName) (.int .i64 tlo) (.int .i64 thi) (.slice none 0 0))) :=
        pf_end (s := .live u) (x := .mk 5 noName tlo thi []) (N := w.heap.size) (lo := w.heap.size + 1) HF4.out ⟨_, HR4.out⟩ (Nat.le_refl _) (by omega) hlt (RdN.nil _ _) (by rw [HRES2.out]) (fun ts _ => by rw [HRES2.out])
      have HQ := Lib.hid (HBX4.out.set (.int .i64 5) (.string noName) (.int .i64 tlo) (.int .i64 thi) (.slice none 0 0))
      obtain ⟨⟨x0, x1, x2, x3, x4, k0, k1, k2, k3, k4⟩, fN⟩ := HBX3.out.facts
      have hne1 : w.heap.size + 1 ≠ b := by omega
      have hne2 : w.heap.size ≠ b := by omega
      clear HR2 HR3 HB3 HT3 HF2 HF4 HR4 HBX2 HBX3 HBX4 HRES2 HS
      go_wp2_with fail
      change bodyPost _ _ _ _ _ (set5 (W3.setCell ⟨b, 4, none⟩ (.int .i64 ((h : Int) + 1))) w.heap.size (.int .i64 5) (.string noName) (.int .i64 tlo) (.int .i64 thi) (.slice none 0 0))
      generalize set5 (W3.setCell ⟨b, 4, none⟩ (.int .i64 ((h : Int) + 1))) w.heap.size (.int .i64 5) (.string noName) (.int .i64 tlo) (.int .i64 thi) (.slice none 0 0) = w5 at HE HQ ⊢
      obtain ⟨q0, q1, q2, q3, q4⟩ := cells5 HQ.out
      exact bodyPost_ret (v := .agg #[.int .i64 5, .string noName, .int .i64 tlo, .int .i64 thi, .slice none 0 0]) (by simp [results, Tryz.results137, go_sem, q0, q1, q2, q3, q4]) rfl HE.out
    · have g15 : (tk == 15) = false := by simpa using h15
      by_cases h1 : tk = 1
      · subst h1
        have HRES2 : Hid (r = (.mk 2 (strOfNums tt) 0 0 [], .live u)) := by
          show _ = _
          rw [HRES.out, Y.next_cons, if_neg (by simp), take_yes (by simp)]
          rfl
        clear HRES h15
        generalize htx : strOfNums tt = tx at *
        clear htx
        go_enter Tryz.func137, Tryz.ntmps137
        go_wp2_with fail
        change Calls _ _ _ (begN w) _
        generalize begN w = W1 at *
        refine (dkind_any HR1.out).mono ?_
        rintro e w2 ⟨rfl, q, rfl⟩
        rw [show kAt (⟨1, tt, tlo, thi, tp⟩ :: u) = 1 from rfl]
        go_wp2_with fail
        have HR2 := Lib.hid (HR1.out.drewN q)
        have HF2 : Hid (Fe b w (W1.drewN q)) := (Fe.of_below HW1.out).trans ((Fe.refl b W1).drewN q)
        have HBX2 := Lib.hid (HBX.out.fe ((Fe.refl b W1).drewN q) (by omega) (by omega))
        have hz2 : (W1.drewN q).heap.size = w.heap.size + 1 := hs1
        have HS : Hid (∀ w', Below (W1.drewN q).heap.size (W1.drewN q) w' → HeldR X b g off h 1 tx tlo thi tp w') := fun w' hb => HHD.out w' ((kbelow_drewN (Below.refl _ W1) q).trans hb)
        generalize W1.drewN q = W2 at *
        have SS : HeldR X b g off h 1 tx tlo thi tp W2.drew := HS.out _ (Below.refl _ _).drew
        clear HR1 HBX HW1 HHD
        refine region_plain (HeldR X b g off h 1 tx tlo thi tp) 11 12 (by kernel_rfl) rfl ?_
        refine Z_takeW 0 (v := .pointer (some ⟨b, 0, none⟩)) rfl (by kernel_rfl) (by kernel_rfl) (by kernel_rfl) (by kernel_rfl) (fun _ _ _ h => h) SS rfl (fun w' hS => ?_) ?_
        · obtain ⟨s0, s1, s2, s3, s4, s5, s6⟩ := hS; go_simp
        refine Z_takeW 1 (v := .pointer (some ⟨b, 0, none⟩)) rfl (by kernel_rfl) (by kernel_rfl) (by kernel_rfl) (by kernel_rfl) (fun _ _ _ h => h) SS rfl (fun w' hS => ?_) ?_
        · obtain ⟨s0, s1, s2, s3, s4, s5, s6⟩ := hS; go_simp
        refine Z_takeW 2 (v := .pointer (some ⟨b, 0, none⟩)) rfl (by kernel_rfl) (by kernel_rfl) (by kernel_rfl) (by kernel_rfl) (fun _ _ _ h => h) SS rfl (fun w' hS => ?_) ?_
        · obtain ⟨s0, s1, s2, s3, s4, s5, s6⟩ := hS; go_simp
        refine Z_takeW 3 (v := .slice (some ⟨g, off, none⟩) X.n X.c) rfl (by kernel_rfl) (by kernel_rfl) (by kernel_rfl) (by kernel_rfl) (fun _ _ _ h => h) SS rfl (fun w' hS => ?_) ?_
        · obtain ⟨s0, s1, s2, s3, s4, s5, s6⟩ := hS; go_simp
        refine Z_takeW 4 (v := .pointer (some ⟨b, 0, none⟩)) rfl (by kernel_rfl) (by kernel_rfl) (by kernel_rfl) (by kernel_rfl) (fun _ _ _ h => h) SS rfl (fun w' hS => ?_) ?_
        · obtain ⟨s0, s1, s2, s3, s4, s5, s6⟩ := hS; go_simp
        refine Z_takeW 5 (v := .pointer (some ⟨b, 0, none⟩)) rfl (by kernel_rfl) (by kernel_rfl) (by kernel_rfl) (by kernel_rfl) (fun _ _ _ h => h) SS rfl (fun w' hS => ?_) ?_
        · obtain ⟨s0, s1, s2, s3, s4, s5, s6⟩ := hS; go_simp
        refine Z_takeW 6 (v := .pointer (some ⟨b, 4, none⟩)) rfl (by kernel_rfl) (by kernel_rfl) (by kernel_rfl) (by kernel_rfl) (fun _ _ _ h => h) SS rfl (fun w' hS => ?_) ?_
        · obtain ⟨s0, s1, s2, s3, s4, s5, s6⟩ := hS; go_simp
        refine Z_takeW 7 (v := .int .i64 h) rfl (by kernel_rfl) (by kernel_rfl) (by kernel_rfl) (by kernel_rfl) (fun _ _ _ h => h) SS rfl (fun w' hS => ?_) ?_
        · obtain ⟨s0, s1, s2, s3, s4, s5, s6⟩ := hS; go_simp
        refine Z_takeW 8 (v := .pointer (some ⟨g, off + h * 5, none⟩)) rfl (by kernel_rfl) (by kernel_rfl) (by kernel_rfl) (by kernel_rfl) (fun _ _ _ h => h) SS rfl (fun w' hS => ?_) ?_
        · obtain ⟨s0, s1, s2, s3, s4, s5, s6⟩ := hS; go_simp
        refine Z_takeW 9 (v := .agg #[.int .i64 1, .string tx, .int .i64 tlo, .int .i64 thi, .int .i64 tp]) rfl (by kernel_rfl) (by kernel_rfl) (by kernel_rfl) (by kernel_rfl) (fun _ _ _ h => h) SS rfl (fun w' hS => ?_) ?_
        · obtain ⟨s0, s1, s2, s3, s4, s5, s6⟩ := hS; go_simp
        refine Z_one 10 rfl (by kernel_rfl) rfl ?_
        go_simp
        have HBA : Hid (Below W2.heap.size W2 ((W2.alloc (.cells #[.int .i64 0, .string { data := #[] }, .int .i64 0, .int .i64 0, .int .i64 0] 94)).drew)) := (kbelow_push W2 _).drew
        have hNA : ((W2.alloc (.cells #[.int .i64 0, .string { data := #[] }, .int .i64 0, .int .i64 0, .int .i64 0] 94)).drew).heap[w.heap.size + 1]? = some (.cells #[.int .i64 0, .string { data := #[] }, .int .i64 0, .int .i64 0, .int .i64 0] 94 (0, 0)) := by rw [← hz2]; exact heap_alloc_new W2 _
        have SA := HS.out _ HBA.out
        have hzA : ((W2.alloc (.cells #[.int .i64 0, .string { data := #[] }, .int .i64 0, .int .i64 0, .int .i64 0] 94)).drew).heap.size = w.heap.size + 2 := by rw [show ((W2.alloc (.cells #[.int .i64 0, .string { data := #[] }, .int .i64 0, .int .i64 0, .int .i64 0] 94)).drew).heap.size = W2.heap.size + 1 by simp [World.drew]]; omega
        generalize ((W2.alloc (.cells #[.int .i64 0, .string { data := #[] }, .int .i64 0, .int .i64 0, .int .i64 0] 94)).drew) = WA at *
        refine ⟨SA, ?_⟩
        refine Z_one 11 rfl (by kernel_rfl) rfl ?_
        have HNA := Lib.hid hNA
        obtain ⟨z0, z1, z2, z3, z4⟩ := cells5 hNA
        have fA : ∀ j, WA.frozen? ⟨w.heap.size + 1, j, none⟩ = false := fun j => frozen_of_row _ _ _ _ _ hNA
        clear hNA SA SS
        go_simp
        refine Z_done (by kernel_rfl) ?_
        unfold OnlyN
        simp only []
        change Exit.then _ _ .normal _ (set5 WA (w.heap.size + 1) (.int .i64 1) (.string tx) (.int .i64 tlo) (.int .i64 thi) (.int .i64 tp))
        have HB3 : Hid (Below W2.heap.size W2 (set5 WA (w.heap.size + 1) (.int .i64 1) (.string tx) (.int .i64 tlo) (.int .i64 thi) (.int .i64 tp))) := below_set5 HBA.out (by omega) _ _ _ _ _
        have HT3 := Lib.hid (set5_row HNA.out (.int .i64 1) (.string tx) (.int .i64 tlo) (.int .i64 thi) (.int .i64 tp))
        have hz3 : (set5 WA (w.heap.size + 1) (.int .i64 1) (.string tx) (.int .i64 tlo) (.int .i64 thi) (.int .i64 tp)).heap.size = w.heap.size + 2 := by rw [set5_size]; exact hzA
        clear z0 z1 z2 z3 z4 fA HBA HNA hzA
        generalize set5 WA (w.heap.size + 1) (.int .i64 1) (.string tx) (.int .i64 tlo) (.int .i64 thi) (.int .i64 tp) = W3 at *
        have HR3 := Lib.hid (HR2.out.below HB3.out)
        obtain ⟨_, _, _, _, c4⟩ := HR3.out.cells
        have f4 := HR3.out.fr 4
        obtain ⟨z0, z1, z2, z3, z4⟩ := cells5 HT3.out
        have HBX3 : Hid (Box5 W3 w.heap.size 24) := HBX2.out.fe (b := b) (Fe.of_below HB3.out) (by omega) (by omega)
        have HF4 : Hid (Fe b w (W3.setCell ⟨b, 4, none⟩ (.int .i64 ((h : Int) + 1)))) := (HF2.out.trans (Fe.of_below HB3.out)).set (.inl rfl) _ _
        have HR4 := Lib.hid (HR3.out.next (x := (h : Int) + 1) rfl)
        have HBX4 : Hid (Box5 (W3.setCell ⟨b, 4, none⟩ (.int .i64 ((h : Int) + 1))) w.heap.size 24) := HBX3.out.fe (b := b) ((Fe.refl b W3).set (.inl rfl) _ _) (by omega) (by omega)
        have HE : Hid (PFQ X b w o r (.returned (.agg #[.int .i64 2, .string tx, .int .i64 0, .int .i64 0, .slice none 0 0])) (set5 (W3.setCell ⟨b, 4, none⟩ (.int .i64 ((h : Int) + 1))) w.heap.size (.int .i64 2) (.string tx) (.int .i64 0) (.int .i64 0) (.slice none 0 0))) :=
          pf_end (s := .live u) (x := .mk 2 tx 0 0 []) (N := w.heap.size) (lo := w.heap.size + 1) HF4.out ⟨_, HR4.out⟩ (Nat.le_refl _) (by omega) hlt (RdN.nil _ _) (by rw [HRES2.out]) (fun ts _ => by rw [HRES2.out])
        have HQ := Lib.hid (HBX4.out.set (.int .i64 2) (.string tx) (.int .i64 0) (.int .i64 0) (.slice none 0 0))
        obtain ⟨⟨x0, x1, x2, x3, x4, k0, k1, k2, k3, k4⟩, fN⟩ := HBX3.out.facts
        have hne1 : w.heap.size + 1 ≠ b := by omega
        have hne2 : w.heap.size ≠ b := by omega
        clear HR2 HR3 HB3 HT3 HF2 HF4 HR4 HBX2 HBX3 HBX4 HRES2 HS
        go_wp2_with fail
        change bodyPost _ _ _ _ _ (set5 (W3.setCell ⟨b, 4, none⟩ (.int .i64 ((h : Int) + 1))) w.heap.size (.int .i64 2) (.string tx) (.int .i64 0) (.int .i64 0) (.slice none 0 0))
        generalize set5 (W3.setCell ⟨b, 4, none⟩ (.int .i64 ((h : Int) + 1))) w.heap.size (.int .i64 2) (.string tx) (.int .i64 0) (.int .i64 0) (.slice none 0 0) = w5 at HE HQ ⊢
        obtain ⟨q0, q1, q2, q3, q4⟩ := cells5 HQ.out
        exact bodyPost_ret (v := .agg #[.int .i64 2, .string tx, .int .i64 0, .int .i64 0, .slice none 0 0]) (by simp [results, Tryz.results137, go_sem, q0, q1, q2, q3, q4]) rfl HE.out
      · have g1 : (tk == 1) = false := by simpa using h1
        by_cases h13 : tk = 13
        · subst h13
          have hnx : nextP [13] (.live (⟨13, tt, tlo, thi, tp⟩ :: u)) = true := rfl
          have HRES2 : Hid (r = setP X.e m o (.live (⟨13, tt, tlo, thi, tp⟩ :: u))) := by show _ = _; rw [HRES.out, if_pos hnx]
          have HC : Hid (∀ q, _) := fun q => hset X b ((begN w).drewN q) o _ h (HR1.out.drewN q) ho hnx hl m (by omega)
          clear HRES h15 h1 hnx
          go_enter Tryz.func137, Tryz.ntmps137
          go_wp2_with fail
          change Calls _ _ _ (begN w) _
          generalize begN w = W1 at *
          refine (dkind_any HR1.out).mono ?_
          rintro e w2 ⟨rfl, q, rfl⟩
          rw [show kAt (⟨13, tt, tlo, thi, tp⟩ :: u) = 13 from rfl]
          go_wp2_with fail
          refine (HC.out q).mono ?_
          rintro en w3 ⟨v, x, rfl, ⟨A, n, c, rfl, hv⟩, hx, hr3, hf3⟩
          have HF03 : Hid (Fe b W1 w3) := ((Fe.refl b W1).drewN q).trans hf3
          have HF3 := Lib.hid ((Fe.of_below HW1.out).trans HF03.out)
          have HBX3 := Lib.hid (HBX.out.fe HF03.out (by omega) (by omega))
          have hv' : RdN w3 (In W1.heap.size w3.heap.size) A n c x.kids := hv
          rw [← HRES2.out] at hx hr3
          have HE : Hid (PFQ X b w o r (.returned (.agg #[.int .i64 x.kind, .string x.name, .int .i64 x.low, .int .i64 x.high, .slice A n c])) (set5 w3 w.heap.size (.int .i64 x.kind) (.string x.name) (.int .i64 x.low) (.int .i64 x.high) (.slice A n c))) :=
            pf_end (s := r.2) (x := x) (N := w.heap.size) (lo := W1.heap.size) HF3.out hr3 (Nat.le_refl _) (by omega) hlt hv' rfl hx
          obtain ⟨⟨x0, x1, x2, x3, x4, k0, k1, k2, k3, k4⟩, fN⟩ := HBX3.out.facts
          have HQ := Lib.hid (HBX3.out.set (.int .i64 x.kind) (.string x.name) (.int .i64 x.low) (.int .i64 x.high) (.slice A n c))
          clear hv hv' hx hr3 hf3 HC HF3 HF03 HBX3 HBX HR1 HRES2
          go_wp2_with fail
          change bodyPost _ _ _ _ _ (set5 w3 w.heap.size _ _ _ _ _)
          generalize set5 w3 w.heap.size (.int .i64 x.kind) (.string x.name) (.int .i64 x.low) (.int .i64 x.high) (.slice A n c) = w4 at HE HQ ⊢
          obtain ⟨q0, q1, q2, q3, q4⟩ := cells5 HQ.out
          exact bodyPost_ret (v := .agg #[.int .i64 x.kind, .string x.name, .int .i64 x.low, .int .i64 x.high, .slice A n c]) (by simp [results, Tryz.results137, go_sem, q0, q1, q2, q3, q4]) rfl HE.out
        · have g13 : (tk == 13) = false := by simpa using h13
          have HRES2 : Hid (r.2 = failP X.e 4 (.live (⟨tk, tt, tlo, thi, tp⟩ :: u))) := by
            show _ = _
            rw [HRES.out, Y.next_cons, if_neg (by simp; exact h13), Y.take_cons, if_neg (by simp; exact ⟨h15, h1⟩)]
            rfl
          clear HRES h15 h1 h13
          go_enter Tryz.func137, Tryz.ntmps137
          go_wp2_with fail
          change Calls _ _ _ (begN w) _
          generalize begN w = W1 at *
          refine (dkind_any HR1.out).mono ?_
          rintro e w2 ⟨rfl, q, rfl⟩
          rw [show kAt (⟨tk, tt, tlo, thi, tp⟩ :: u) = tk from rfl]
          go_wp2_with fail
          refine (podd_any (HR1.out.drewN q) (by omega)).mono ?_
          rintro e w3 ⟨rfl, hr3, hf3⟩
          have HF03 : Hid (Fe b W1 w3) := ((Fe.refl b W1).drewN q).trans hf3
          have HF3 := Lib.hid ((Fe.of_below HW1.out).trans HF03.out)
          have HBX3 := Lib.hid (HBX.out.fe HF03.out (by omega) (by omega))
          have HE : Hid (PFQ X b w o r (.returned (.agg #[.int .i64 0, .string noName, .int .i64 0, .int .i64 0, .slice none 0 0])) (set5 w3 w.heap.size (.int .i64 0) (.string noName) (.int .i64 0) (.int .i64 0) (.slice none 0 0))) :=
            pf_end (s := failP X.e 4 (.live (⟨tk, tt, tlo, thi, tp⟩ :: u))) (x := zeroN) (N := w.heap.size) (lo := w.heap.size + 1) HF3.out hr3 (Nat.le_refl _) (by omega) hlt (RdN.nil _ _) HRES2.out (fun ts h => by cases h)
          have HQ := Lib.hid (HBX3.out.set (.int .i64 0) (.string noName) (.int .i64 0) (.int .i64 0) (.slice none 0 0))
          obtain ⟨⟨x0, x1, x2, x3, x4, k0, k1, k2, k3, k4⟩, fN⟩ := HBX3.out.facts
          clear hr3 hf3 HF3 HF03 HBX3 HR1 HRES2 HBX
          go_wp2_with fail
          change bodyPost _ _ _ _ _ (set5 w3 w.heap.size (.int .i64 0) (.string noName) (.int .i64 0) (.int .i64 0) (.slice none 0 0))
          generalize set5 w3 w.heap.size (.int .i64 0) (.string noName) (.int .i64 0) (.int .i64 0) (.slice none 0 0) = w4 at HE HQ ⊢
          obtain ⟨q0, q1, q2, q3, q4⟩ := cells5 HQ.out
          exact bodyPost_ret (v := .agg #[.int .i64 0, .string noName, .int .i64 0, .int .i64 0, .slice none 0 0]) (by simp [results, Tryz.results137, go_sem, q0, q1, q2, q3, q4]) rfl HE.out
end Go.Proofs.YtmohefgdpddldaaGreatDoor
