/- The document's lexer of layer 5: Letters, note. The document's lexer of layer 5: step at a #, Of of all texts. The fixed fact of layer 7. The fixed fact of layer 7 holds. An append of items onto a row of one's own. How many nodes and letters a form has: the document's Weight. How many nodes a form has: the document's Size. Whether items are more than are looked at: the document's Great. How many items are looked at: the document's Great of layer 6. InkLines answers true. How an argument that is a slice of numbers is read: as a list of numbers in memory. -/
import Derived.Test.YtmohefgdpddldaaGreatDoorCL07
import Derived.Test.YtmohefgdpddldaaGreatDoorCL02
import Derived.Test.YtmohefgdpddldaaGreatDoorCL03
import Derived.Test.YtmohefgdpddldaaGreatDoorCL06
import Derived.Lib.SlBytesConst
import Derived.Maps.AppendAt
import Derived.Laws.OwnMore
import Derived.Test.YtmohefgdpddldaaGreatDoorCL01
import Derived.Deep.RegionHeldLaw
import Derived.IntWalk
import Derived.ProofKit
import Derived.Deep.Slices
import Derived.Deep.Fields
import Derived.ChangeSame
set_option maxRecDepth 100000
namespace Go.Proofs.YtmohefgdpddldaaGreatDoor
open Go.RowKit
open W (Tk St nameS setS numT noteS charsS signK outS inS stepS opn lastK lexS Lx markB dgB ltB smB nmB many numB noLf noBl lettersB allowB allowP)
theorem dsm_iff (c : Int) : smB c = true ↔ 97 ≤ c ∧ c ≤ 122 := by unfold W.smB; exact decide_eq_true_iff
set_option maxHeartbeats 1000000 in
theorem dletters_any {w : World} {s : ByteArray} {S : List Int} (h : StrIs s S) (hn : S.length ≤ 140737488355328) :
    Calls Tryz.prog 37 #[.string s] w fun e w' => e = .returned (.bool (lettersB S)) ∧ w = w' := by
  have HS := Lib.hid h
  have hsz := h.size
  generalize hl : S.length = n at hn hsz
  have HL := Lib.hid hl
  clear h hl
  go_enter Tryz.func37, Tryz.ntmps37
  go_wp2_with fail
  go_loopw [3] (fun iv wx => ∃ k : Nat, k ≤ n ∧ iv = .int .i64 k ∧ w = wx ∧ Hid (∀ j x, j < k → S[j]? = some x → smB x = true)) (fun iv _ => n - (intOf iv).toNat)
  case atStart => exact ⟨0, by omega, rfl, by trivial, fun j x hj => by omega⟩
  case round =>
    obtain ⟨k, hk, rfl, rfl, HD⟩ := hrel
    by_cases hlt : k < n
    · obtain ⟨x, hx⟩ : ∃ x, S[k]? = some x := ⟨S[k]'(by rw [HL.out]; exact hlt), List.getElem?_eq_getElem _⟩
      have g1 := HS.out.get hx
      obtain ⟨x0, x1⟩ := HS.out.byt x (List.mem_of_getElem? hx)
      have HX := Lib.hid hx
      clear hx
      have hlt2 : k < s.size := by omega
      by_cases hb : 97 ≤ x ∧ x ≤ 122
      · have HD2 : Hid (∀ j y, j < k + 1 → S[j]? = some y → smB y = true) := fun j y hj hy => by
          rcases Nat.lt_or_ge j k with h1 | h1
          · exact HD.out j y h1 hy
          · obtain rfl : j = k := by omega
            rw [HX.out] at hy; injection hy with hy; subst hy; exact (dsm_iff x).2 hb
        obtain ⟨b1, b2⟩ := hb
        clear HD
        go_wp2_with fail
        go_roundw
        case rel => exact ⟨k + 1, by omega, by go_num, by trivial, HD2.out⟩
        case measure => simp [intOf]; omega
      · have HF : Hid (lettersB S = false) := by
          show _ = _
          unfold W.lettersB
          have : S.all smB = false := by
            rw [← Bool.not_eq_true]
            intro h
            exact hb ((dsm_iff x).1 (List.all_eq_true.1 h x (List.mem_of_getElem? HX.out)))
          rw [this]; rfl
        have hb2 : x < 97 ∨ ¬ x < 97 ∧ 122 < x := by omega
        clear hb
        rcases hb2 with hb2 | ⟨hb2, hb3⟩
        · go_wp2_with fail
          go_ret
          exact ⟨ret_bool HF.out.symm, rfl⟩
        · go_wp2_with fail
          go_ret
          exact ⟨ret_bool HF.out.symm, rfl⟩
    · obtain rfl : k = n := by omega
      have HA : Hid (lettersB S = (decide (1 ≤ k) && decide (k ≤ 16))) := by
        show _ = _
        unfold W.lettersB
        have : S.all smB = true := List.all_eq_true.2 fun x hx => by
          obtain ⟨j, hj, e⟩ := List.getElem_of_mem hx
          exact HD.out j x (by rw [← HL.out]; exact hj) (by rw [List.getElem?_eq_getElem hj, e])
        rw [this, HL.out]; rfl
      clear HD
      by_cases h1 : 1 ≤ k
      · rw [decide_eq_true h1, Bool.true_and] at HA
        go_wp2_with fail
        go_ret
        exact ⟨ret_bool (by rw [HA.out, Bool.eq_iff_iff]; simp; try omega), rfl⟩
      · rw [decide_eq_false h1] at HA
        obtain rfl : k = 0 := by omega
        go_wp2_with fail
        go_ret
        exact ⟨ret_bool HA.out.symm, rfl⟩

theorem allow_bd : ∀ x ∈ allowP, 0 ≤ x ∧ x < 256 := by intro x hx; simp [W.allowP] at hx; omega
theorem RdK.zero {k : IntKind} {w : World} {B : Nat} {A : Option Addr} {c : Nat} (hc : c ≤ maxLen) : RdK k w B A 0 c [] := ⟨rfl, Nat.zero_le _, hc, fun h => absurd h (by omega)⟩
section
variable {X : Cx} {b : Nat} {w : World} {p o : Nat} {tv : Value} {ts : List Tk} {wr : Int}
/-- The run of characters of a line that a loop has gone through. -/
def LRun (q : Int → Bool) (L : List Int) (f t : Nat) : Prop := ∀ j y, f ≤ j → j < t → L[j]? = some y → q y = true
theorem LRun.step {q : Int → Bool} {L : List Int} {f t : Nat} {x : Int} (h : LRun q L f t) (hx : L[t]? = some x) (hd : q x = true) : LRun q L f (t + 1) := fun j y h1 h2 hy => by
  rcases Nat.lt_or_ge j t with h3 | h3
  · exact h j y h1 h3 hy
  · obtain rfl : j = t := by omega
    rw [hx] at hy; injection hy with hy; subst hy; exact hd
theorem LRun.many {q : Int → Bool} {L : List Int} {f t : Nat} (h : LRun q L f t) (hft : f ≤ t) (ht : t ≤ L.length) (he : ∀ x, L[t]? = some x → q x = false) : many q (L.drop f) = t - f :=
  W.many_at (fun j x hj hx => by rw [List.getElem?_drop] at hx; exact h (f + j) x (by omega) (by omega) hx) (by rw [List.length_drop]; omega) (fun x hx => he x (by rw [List.getElem?_drop] at hx; rwa [show f + (t - f) = t by omega] at hx))
set_option maxHeartbeats 8000000 in
theorem dnote_any (h : Rdx X b w p o tv ts wr 0) (hp : p < X.nc) (hts : ts.length ≤ 3000) (hc : X.L[p]? = some 35) :
    Calls Tryz.prog 86 #[.pointer (some ⟨b, 0, none⟩)] w (StepD X b w p o ts wr (noteS (X.L.drop p))) := by
  have HH := Lib.hid h
  obtain ⟨n1, n2, n3⟩ := h.nc
  have HN1 := Lib.hid n1
  obtain ⟨c0, c1, c2, c3, c4, c5, c6⟩ := h.cells
  have f2 := h.fr 2
  obtain ⟨bA, oA, y0, hA, hbA, _, _⟩ := h.chars.got hp
  rw [hA] at c0
  have HA := Lib.hid hA
  have hcc : X.nc ≤ X.cc := h.chars.cap
  have hpp : (p : Int) < 3000 := by omega
  have HCP := Lib.hid hc
  generalize hr : noteS (X.L.drop p) = r
  have HR := Lib.hid hr
  clear h hA hr n1 n3 hc
  go_enter Tryz.func86, Tryz.ntmps86
  go_wp2_with fail
  go_quiet (fail)
  have HB0 : Hid (Below b w (w.drewN nq)) := kbelow_drewN (Below.refl b w) nq
  have HH0 := Lib.hid (HH.out.drewN nq)
  clear HH c0 c1 c2 c3 c4 c5 c6 f2
  generalize w.drewN nq = W0 at *
  have HH := HH0
  clear HH0
  obtain ⟨c0, c1, c2, c3, c4, c5, c6⟩ := HH.out.cells
  rw [HA.out] at c0
  have f2 := HH.out.fr 2
  go_wp2_with fail
  go_loopw [3] (fun tv2 wx => ∃ t : Nat, p ≤ t ∧ t ≤ X.nc ∧ tv2 = .int .i64 t ∧ W0 = wx ∧ Hid (LRun noLf X.L p t)) (fun tv2 _ => X.nc - (intOf tv2).toNat)
  case atStart => exact ⟨p, by omega, by omega, by go_num, by trivial, fun j y h1 h2 => by omega⟩
  case round =>
    obtain ⟨t, ht1, ht2, rfl, rfl, HU⟩ := hrel
    by_cases hlt : t < X.nc
    · obtain ⟨b1, o1, y, hA1, _, hy, hcy⟩ := HH.out.chars.got hlt
      rw [HA.out] at hA1
      injection hA1 with hA1; injection hA1 with e1 e2 _; subst e1 e2
      have HY := Lib.hid hy
      clear hy
      by_cases h10 : y = 10
      · subst h10
        have HM : Hid (many noLf (X.L.drop p) = t - p) := HU.out.many ht1 (by rw [HN1.out]; exact ht2) (fun z hz => by rw [HY.out] at hz; injection hz with hz; subst hz; decide)
        have hpt : p < t := by
          rcases Nat.lt_or_ge p t with h1 | h1
          · exact h1
          · obtain rfl : p = t := by omega
            have := HCP.out; rw [HY.out] at this; cases this
        have HRx := Lib.hid (HH.out.at_ (q := t) ht2)
        have HBx : Hid (Below b w (W0.setCell ⟨b, 2, none⟩ (.int .i64 t))) := HB0.out.setCell (p := ⟨b, 2, none⟩) (Nat.le_refl _) _
        obtain ⟨l, hl⟩ : ∃ l, l = (X.L.drop p).take (t - p) := ⟨_, rfl⟩
        have HLN : Hid (l.length = t - p) := by show _ = _; rw [hl, List.length_take, List.length_drop, HN1.out]; omega
        have HRK : Hid (RdK .i64 (W0.setCell ⟨b, 2, none⟩ (.int .i64 t)) b (some ⟨bA, oA + p, none⟩) (t - p) (X.cc - p) l) := by
          have h1 := HRx.out.chars
          rw [HA.out] at h1
          show RdK _ _ _ _ _ _ _
          rw [hl]
          exact RdK.mid h1 (lo := p) (m := t - p) (by omega)
        have HTW : Hid ((X.L.drop p).takeWhile noLf = l) := by show _ = _; rw [← W.take_many, HM.out, hl]
        have HR1 : Hid (r = if l.take 7 = allowP then (match allowB (l.drop 7) with | some x => .tok 19 x.1 x.2 0 (t - p - 1) | none => .bad 0 4) else .skip (t - p - 1)) := by
          show _ = _
          rw [← HR.out]
          unfold W.noteS
          rw [HTW.out, HM.out]
          rfl
        have HOK : Hid (∀ x ∈ l, 0 ≤ x) := fun x hx => by
          rw [hl] at hx
          have h1 := ok_isC HH.out.ok.1 x (List.mem_of_mem_drop (List.mem_of_mem_take hx))
          unfold Q.isC at h1
          have := of_decide_eq_true h1
          omega
        go_upto_region 5 with (fail)
        change Code.wp _ _ _ _ (W0.setCell ⟨b, 2, none⟩ (.int .i64 t))
        clear c0 c1 c2 c3 c4 c5 c6 f2 HR HTW HM HB0 HH hl
        generalize W0.setCell ⟨b, 2, none⟩ (.int .i64 t) = W4 at *
        have hcl : t - p ≤ X.cc - p := by omega
        have hn1 : 1 ≤ t - p := by omega
        have hn3 : t - p ≤ 3000 := by omega
        obtain ⟨n, hn⟩ : ∃ n, t - p = n := ⟨_, rfl⟩
        rw [hn] at HR1 HRK HLN hcl hn1 hn3 ⊢
        generalize X.cc - p = cl at *
        generalize oA + p = ol at *
        have HN : Hid (t = p + n) := by show _ = _; omega
        clear hn hpt hcc ht1
        by_cases hn7 : n < 7
        · have HSK : Hid (r = .skip (n - 1)) := by
            show _ = _
            rw [HR1.out, if_neg]
            intro h
            have := congrArg List.length h
            rw [List.length_take, HLN.out] at this
            have e : allowP.length = 7 := rfl
            omega
          have hn7i : (n : Int) < 7 := by omega
          clear HR1
          have HE : Hid (StepD X b w p o ts wr r (.returned (.tuple #[])) W4) := by
            show StepD _ _ _ _ _ _ _ _ _ _
            rw [HSK.out]
            refine ⟨rfl, HBx.out, tv, ?_⟩
            rw [show p + (n - 1) + 1 = t by have := HN.out; omega]
            exact HRx.out
          clear HSK HRx HBx HRK
          go_wp2_with fail
          exact bodyPost_ret (v := .tuple #[]) (by simp [results, Tryz.results86, go_sem]) rfl HE.out
        · have hn7i : ¬ (n : Int) < 7 := by omega
          have HRK7 : Hid (RdK .i64 W4 b (some ⟨bA, ol, none⟩) 7 cl (l.take 7)) := HRK.out.take (by omega)
          have HAC := Lib.hid (dascii_any HRK7.out (by omega))
          have HX0 : Hid (∀ x ∈ l.take 7, 0 ≤ x) := fun x hx => HOK.out x (List.mem_of_mem_take hx)
          cases has : (l.take 7).all (fun x => decide (x < 128)) with
          | false =>
            have HSK : Hid (r = .skip (n - 1)) := by
              show _ = _
              rw [HR1.out, if_neg]
              intro h
              rw [h] at has
              exact absurd has (by decide)
            rw [has] at HAC
            clear has HR1
            go_wp2_with fail
            refine HAC.out.mono ?_
            rintro e w5 ⟨rfl, rfl⟩
            have HE : Hid (StepD X b w p o ts wr r (.returned (.tuple #[])) W4) := by
              show StepD _ _ _ _ _ _ _ _ _ _
              rw [HSK.out]
              refine ⟨rfl, HBx.out, tv, ?_⟩
              rw [show p + (n - 1) + 1 = t by have := HN.out; omega]
              exact HRx.out
            clear HSK HRx HBx HRK
            go_wp2_with fail
            exact bodyPost_ret (v := .tuple #[]) (by simp [results, Tryz.results86, go_sem]) rfl HE.out
          | true =>
            have HL7 : Hid (∀ x ∈ l.take 7, 0 ≤ x ∧ x < 128) := fun x hx => ⟨HX0.out x hx, of_decide_eq_true (List.all_eq_true.1 has x hx)⟩
            have HTC := Lib.hid (dtext_any HRK7.out (Nat.le_of_lt HRx.out.size) (by omega) HL7.out)
            rw [has] at HAC
            clear has
            go_wp2_with fail
            refine HAC.out.mono ?_
            rintro e w5 ⟨rfl, rfl⟩
            go_wp2_with fail
            refine HTC.out.mono ?_
            rintro e W5 ⟨rfl, hb5⟩
            have hb5' := hb5.mono (Nat.le_of_lt HRx.out.size)
            have HR5 := Lib.hid (HRx.out.below hb5)
            have HB5 := Lib.hid (HBx.out.trans hb5')
            have HK5 : Hid (RdK .i64 W5 b (some ⟨bA, ol, none⟩) n cl l) := HRK.out.keep (fun a ha => hb5'.cell ha)
            clear HRx HBx HRK hb5 hb5' HTC HAC HRK7
            have HRx := HR5
            have HBx := HB5
            have HRK := HK5
            clear HR5 HB5 HK5
            by_cases h7 : l.take 7 = allowP
            · have HR2 : Hid (r = (match allowB (l.drop 7) with | some x => .tok 19 x.1 x.2 0 (n - 1) | none => .bad 0 4)) := by show _ = _; rw [HR1.out, if_pos h7]
              rw [h7, show strOfNums allowP = ⟨#[35, 97, 108, 108, 111, 119, 32]⟩ from rfl]
              clear h7 HR1 HX0 HL7 HOK
              go_wp2_with fail
              go_loopw [5] (fun kv wx => ∃ k : Nat, 7 ≤ k ∧ k ≤ n ∧ kv = .int .i64 k ∧ W5 = wx ∧ Hid (LRun smB l 7 k)) (fun kv _ => n - (intOf kv).toNat)
              case atStart => exact ⟨7, by omega, by omega, by go_num, by trivial, fun j y h1 h2 => by omega⟩
              case round =>
                obtain ⟨k, hk7, hkn, rfl, rfl, HV⟩ := hrel
                by_cases hlt2 : k < n
                · obtain ⟨b2, o2, y, hA2, _, hy2, hcy⟩ := HRK.out.got hlt2
                  injection hA2 with hA2; injection hA2 with e1 e2 _; subst e1 e2
                  have HY := Lib.hid hy2
                  clear hy2
                  by_cases hy97 : 97 ≤ y
                  · by_cases hy122 : y ≤ 122
                    · have HV2 := Lib.hid (HV.out.step HY.out ((dsm_iff y).2 ⟨hy97, hy122⟩))
                      clear HV HY
                      go_wp2_with fail
                      go_roundw
                      case rel => exact ⟨k + 1, by omega, by omega, by go_num, by trivial, HV2.out⟩
                      case measure => simp [intOf]; omega
                    · have HAL : Hid (allowB (l.drop 7) = _) := W.allow_is (l := l.drop 7) (k := k - 7) (HV.out.many hk7 (by rw [HLN.out]; exact hkn) (fun x hx => by rw [HY.out] at hx; injection hx with hx; subst hx; rw [← Bool.not_eq_true, dsm_iff]; omega))
                      obtain ⟨xs, hxs⟩ : ∃ xs, xs = (l.drop 7).take (k - 7) := ⟨_, rfl⟩
                      have HXS : Hid (∀ x ∈ xs, smB x = true) := fun x hx => by
                        rw [hxs] at hx
                        obtain ⟨j, hj, e⟩ := List.getElem_of_mem hx
                        have hj2 := hj
                        rw [List.length_take, List.length_drop] at hj2
                        have h1 : ((l.drop 7).take (k - 7))[j]? = some x := by rw [List.getElem?_eq_getElem hj, e]
                        rw [List.getElem?_take_of_lt (by omega), List.getElem?_drop] at h1
                        exact HV.out (7 + j) x (by omega) (by omega) h1
                      have hxl : xs.length = k - 7 := by rw [hxs, List.length_take, List.length_drop, HLN.out]; omega
                      have HXE := Lib.hid hxs
                      clear hxs
                      have HRX : Hid (RdK .i64 W5 b (some ⟨bA, ol + 7, none⟩) (k - 7) (cl - 7) xs) := by
                        show RdK _ _ _ _ _ _ _
                        rw [HXE.out]
                        exact RdK.mid HRK.out (lo := 7) (m := k - 7) (by omega)
                      have hcl7 : ¬ cl = 7 := by omega
                      have HLT : Hid (∀ x ∈ xs, 0 ≤ x ∧ x < 128) := fun x hx => by
                        have h2 := (dsm_iff x).1 (HXS.out x hx)
                        omega
                      have HC := Lib.hid (dtext_any HRX.out (Nat.le_of_lt HRx.out.size) (by omega) HLT.out)
                      have HST8 : Hid (StrIs (strOfNums xs) xs) := ⟨rfl, fun x hx => by have := HLT.out x hx; omega⟩
                      have HXL := Lib.hid hxl
                      clear HXS HRX HLT hxl
                      generalize hs8 : strOfNums xs = s8 at HC HST8
                      go_wp2_with fail
                      refine HC.out.mono ?_
                      rintro e w6 ⟨rfl, hb6⟩
                      have hpt8 := kbelow_push w6 (.cells #[.int .i64 19, .string s8, .int .i64 (-1), .int .i64 0, .int .i64 0] 94)
                      have HT8 := Lib.hid (heap_alloc_new w6 (.cells #[.int .i64 19, .string s8, .int .i64 (-1), .int .i64 0, .int .i64 0] 94))
                      have hz5 := HRx.out.size
                      have hz6 := hb6.size
                      have HBs : Hid (Below b W5 (w6.alloc (.cells #[.int .i64 19, .string s8, .int .i64 (-1), .int .i64 0, .int .i64 0] 94))) := (hb6.mono (Nat.le_of_lt hz5)).trans (hpt8.mono (by omega))
                      have HRt := Lib.hid ((HRx.out.below hb6).below hpt8)
                      have HRS : Hid (∀ v, Rdx X b ((w6.alloc (.cells #[.int .i64 19, .string s8, .int .i64 (-1), .int .i64 0, .int .i64 0] 94)).setCell ⟨w6.heap.size, 2, none⟩ v) t o tv ts wr 0) := fun v => (HRx.out.below hb6).below (hpt8.setCell (p := ⟨w6.heap.size, 2, none⟩) (Nat.le_refl _) v)
                      have HBt : Hid (Below b w (w6.alloc (.cells #[.int .i64 19, .string s8, .int .i64 (-1), .int .i64 0, .int .i64 0] 94))) := HBx.out.trans HBs.out
                      have HRKt : Hid (RdK .i64 (w6.alloc (.cells #[.int .i64 19, .string s8, .int .i64 (-1), .int .i64 0, .int .i64 0] 94)) b (some ⟨bA, ol, none⟩) n cl l) := HRK.out.keep (fun a ha => HBs.out.cell ha)
                      have hcyT : (w6.alloc (.cells #[.int .i64 19, .string s8, .int .i64 (-1), .int .i64 0, .int .i64 0] 94)).cell? ⟨bA, ol + k, none⟩ = some (.int .i64 y) := (HBs.out.cell (p := ⟨bA, ol + k, none⟩) hbA).trans hcy
                      have gkn : ((k : Int) == (n : Int)) = false := by simp only [beq_eq_false_iff_ne]; omega
                      clear hcy
                      have hTB : b < w6.heap.size := by omega
                      have HS8 := Lib.hid hs8
                      clear hb6 hpt8 HBs HRx HBx HRK HC hz5 hz6 hs8
                      go_wp2_with fail
                      change Calls _ _ _ (w6.alloc (.cells #[.int .i64 19, .string s8, .int .i64 (-1), .int .i64 0, .int .i64 0] 94)) _
                      generalize (w6.alloc (.cells #[.int .i64 19, .string s8, .int .i64 (-1), .int .i64 0, .int .i64 0] 94)) = Wt at *
                      generalize w6.heap.size = TB at *
                      obtain ⟨k0, k1, k2, k3, k4⟩ := cells5 HT8.out
                      have fT : ∀ j, Wt.frozen? ⟨TB, j, none⟩ = false := fun j => frozen_of_row _ _ _ _ _ HT8.out
                      have HRx := HRt
                      have HBx := HBt
                      have HRK := HRKt
                      clear HRt HBt HRKt
                      have HLC := Lib.hid (dletters_any (w := Wt) HST8.out (by have := HXL.out; omega))
                      cases hlb : lettersB xs with
                      | false =>
                        have HBAD : Hid (r = .bad 0 4) := by
                          show _ = _
                          have hlb' : lettersB ((l.drop 7).take (k - 7)) = false := by rw [← HXE.out]; exact hlb
                          rw [HR2.out, HAL.out, if_neg (by rw [hlb']; intro h; cases h.1)]
                        rw [hlb] at HLC
                        clear hlb
                        refine HLC.out.mono ?_
                        rintro e w7 ⟨rfl, rfl⟩
                        clear HLC HRK
                        go_wp2_with fail
                        refine (dfail_any HRx.out (i := p) (Nat.le_of_lt hp) 4).mono ?_
                        rintro e w9 ⟨rfl, hR9, hb9⟩
                        rw [if_pos rfl, if_pos rfl] at hR9
                        have HE : Hid (StepD X b w p o ts wr r (.returned (.tuple #[])) w9) := by
                          show StepD _ _ _ _ _ _ _ _ _ _
                          rw [HBAD.out]
                          exact stepD_bad (k := 0) hR9 (HBx.out.trans hb9)
                        clear hR9 hb9 HBAD HRx HBx
                        go_wp2_with fail
                        exact bodyPost_ret (v := .tuple #[]) (by simp [results, Tryz.results86, go_sem]) rfl HE.out
                      | true =>
                        have HLB : Hid (lettersB ((l.drop 7).take (k - 7)) = true) := by show _ = _; rw [← HXE.out]; exact hlb
                        rw [hlb] at HLC
                        clear hlb
                        refine HLC.out.mono ?_
                        rintro e w7 ⟨rfl, rfl⟩
                        clear HLC
                        have hy32 : y ≠ 32 := by omega
                        have g32 : (y == 32) = false := by simpa using hy32
                        have HBAD : Hid (r = .bad 0 4) := by
                          show _ = _
                          rw [HR2.out, HAL.out, if_neg (by
                            rintro ⟨_, h⟩
                            rcases h with h | h
                            · rw [List.length_drop, HLN.out] at h; omega
                            · have h2 := h.1
                              rw [List.getElem?_drop, show 7 + (k - 7) = k by omega, HY.out] at h2
                              injection h2 with h2; exact hy32 h2)]
                        clear HLB HT8 hy32
                        go_wp2_with fail
                        refine (dfail_any HRx.out (i := p) (Nat.le_of_lt hp) 4).mono ?_
                        rintro e w9 ⟨rfl, hR9, hb9⟩
                        rw [if_pos rfl, if_pos rfl] at hR9
                        have HE : Hid (StepD X b w p o ts wr r (.returned (.tuple #[])) w9) := by
                          show StepD _ _ _ _ _ _ _ _ _ _
                          rw [HBAD.out]
                          exact stepD_bad (k := 0) hR9 (HBx.out.trans hb9)
                        clear hR9 hb9 HBAD HRx HBx
                        go_wp2_with fail
                        exact bodyPost_ret (v := .tuple #[]) (by simp [results, Tryz.results86, go_sem]) rfl HE.out
                  · have HAL : Hid (allowB (l.drop 7) = _) := W.allow_is (l := l.drop 7) (k := k - 7) (HV.out.many hk7 (by rw [HLN.out]; exact hkn) (fun x hx => by rw [HY.out] at hx; injection hx with hx; subst hx; rw [← Bool.not_eq_true, dsm_iff]; omega))
                    obtain ⟨xs, hxs⟩ : ∃ xs, xs = (l.drop 7).take (k - 7) := ⟨_, rfl⟩
                    have HXS : Hid (∀ x ∈ xs, smB x = true) := fun x hx => by
                      rw [hxs] at hx
                      obtain ⟨j, hj, e⟩ := List.getElem_of_mem hx
                      have hj2 := hj
                      rw [List.length_take, List.length_drop] at hj2
                      have h1 : ((l.drop 7).take (k - 7))[j]? = some x := by rw [List.getElem?_eq_getElem hj, e]
                      rw [List.getElem?_take_of_lt (by omega), List.getElem?_drop] at h1
                      exact HV.out (7 + j) x (by omega) (by omega) h1
                    have hxl : xs.length = k - 7 := by rw [hxs, List.length_take, List.length_drop, HLN.out]; omega
                    have HXE := Lib.hid hxs
                    clear hxs
                    have HRX : Hid (RdK .i64 W5 b (some ⟨bA, ol + 7, none⟩) (k - 7) (cl - 7) xs) := by
                      show RdK _ _ _ _ _ _ _
                      rw [HXE.out]
                      exact RdK.mid HRK.out (lo := 7) (m := k - 7) (by omega)
                    have hcl7 : ¬ cl = 7 := by omega
                    have HLT : Hid (∀ x ∈ xs, 0 ≤ x ∧ x < 128) := fun x hx => by
                      have h2 := (dsm_iff x).1 (HXS.out x hx)
                      omega
                    have HC := Lib.hid (dtext_any HRX.out (Nat.le_of_lt HRx.out.size) (by omega) HLT.out)
                    have HST8 : Hid (StrIs (strOfNums xs) xs) := ⟨rfl, fun x hx => by have := HLT.out x hx; omega⟩
                    have HXL := Lib.hid hxl
                    clear HXS HRX HLT hxl
                    generalize hs8 : strOfNums xs = s8 at HC HST8
                    go_wp2_with fail
                    refine HC.out.mono ?_
                    rintro e w6 ⟨rfl, hb6⟩
                    have hpt8 := kbelow_push w6 (.cells #[.int .i64 19, .string s8, .int .i64 (-1), .int .i64 0, .int .i64 0] 94)
                    have HT8 := Lib.hid (heap_alloc_new w6 (.cells #[.int .i64 19, .string s8, .int .i64 (-1), .int .i64 0, .int .i64 0] 94))
                    have hz5 := HRx.out.size
                    have hz6 := hb6.size
                    have HBs : Hid (Below b W5 (w6.alloc (.cells #[.int .i64 19, .string s8, .int .i64 (-1), .int .i64 0, .int .i64 0] 94))) := (hb6.mono (Nat.le_of_lt hz5)).trans (hpt8.mono (by omega))
                    have HRt := Lib.hid ((HRx.out.below hb6).below hpt8)
                    have HRS : Hid (∀ v, Rdx X b ((w6.alloc (.cells #[.int .i64 19, .string s8, .int .i64 (-1), .int .i64 0, .int .i64 0] 94)).setCell ⟨w6.heap.size, 2, none⟩ v) t o tv ts wr 0) := fun v => (HRx.out.below hb6).below (hpt8.setCell (p := ⟨w6.heap.size, 2, none⟩) (Nat.le_refl _) v)
                    have HBt : Hid (Below b w (w6.alloc (.cells #[.int .i64 19, .string s8, .int .i64 (-1), .int .i64 0, .int .i64 0] 94))) := HBx.out.trans HBs.out
                    have HRKt : Hid (RdK .i64 (w6.alloc (.cells #[.int .i64 19, .string s8, .int .i64 (-1), .int .i64 0, .int .i64 0] 94)) b (some ⟨bA, ol, none⟩) n cl l) := HRK.out.keep (fun a ha => HBs.out.cell ha)
                    have hcyT : (w6.alloc (.cells #[.int .i64 19, .string s8, .int .i64 (-1), .int .i64 0, .int .i64 0] 94)).cell? ⟨bA, ol + k, none⟩ = some (.int .i64 y) := (HBs.out.cell (p := ⟨bA, ol + k, none⟩) hbA).trans hcy
                    have gkn : ((k : Int) == (n : Int)) = false := by simp only [beq_eq_false_iff_ne]; omega
                    clear hcy
                    have hTB : b < w6.heap.size := by omega
                    have HS8 := Lib.hid hs8
                    clear hb6 hpt8 HBs HRx HBx HRK HC hz5 hz6 hs8
                    go_wp2_with fail
                    change Calls _ _ _ (w6.alloc (.cells #[.int .i64 19, .string s8, .int .i64 (-1), .int .i64 0, .int .i64 0] 94)) _
                    generalize (w6.alloc (.cells #[.int .i64 19, .string s8, .int .i64 (-1), .int .i64 0, .int .i64 0] 94)) = Wt at *
                    generalize w6.heap.size = TB at *
                    obtain ⟨k0, k1, k2, k3, k4⟩ := cells5 HT8.out
                    have fT : ∀ j, Wt.frozen? ⟨TB, j, none⟩ = false := fun j => frozen_of_row _ _ _ _ _ HT8.out
                    have HRx := HRt
                    have HBx := HBt
                    have HRK := HRKt
                    clear HRt HBt HRKt
                    have HLC := Lib.hid (dletters_any (w := Wt) HST8.out (by have := HXL.out; omega))
                    cases hlb : lettersB xs with
                    | false =>
                      have HBAD : Hid (r = .bad 0 4) := by
                        show _ = _
                        have hlb' : lettersB ((l.drop 7).take (k - 7)) = false := by rw [← HXE.out]; exact hlb
                        rw [HR2.out, HAL.out, if_neg (by rw [hlb']; intro h; cases h.1)]
                      rw [hlb] at HLC
                      clear hlb
                      refine HLC.out.mono ?_
                      rintro e w7 ⟨rfl, rfl⟩
                      clear HLC HRK
                      go_wp2_with fail
                      refine (dfail_any HRx.out (i := p) (Nat.le_of_lt hp) 4).mono ?_
                      rintro e w9 ⟨rfl, hR9, hb9⟩
                      rw [if_pos rfl, if_pos rfl] at hR9
                      have HE : Hid (StepD X b w p o ts wr r (.returned (.tuple #[])) w9) := by
                        show StepD _ _ _ _ _ _ _ _ _ _
                        rw [HBAD.out]
                        exact stepD_bad (k := 0) hR9 (HBx.out.trans hb9)
                      clear hR9 hb9 HBAD HRx HBx
                      go_wp2_with fail
                      exact bodyPost_ret (v := .tuple #[]) (by simp [results, Tryz.results86, go_sem]) rfl HE.out
                    | true =>
                      have HLB : Hid (lettersB ((l.drop 7).take (k - 7)) = true) := by show _ = _; rw [← HXE.out]; exact hlb
                      rw [hlb] at HLC
                      clear hlb
                      refine HLC.out.mono ?_
                      rintro e w7 ⟨rfl, rfl⟩
                      clear HLC
                      by_cases hy32 : y = 32
                      · subst hy32
                        by_cases hk1 : k + 1 < n
                        · obtain ⟨b3, o3, y2, hA3, _, hy2, hcy2⟩ := HRK.out.got hk1
                          injection hA3 with hA3; injection hA3 with e3 e4 _; subst e3 e4
                          have HY2 := Lib.hid hy2
                          clear hy2
                          have HDC := Lib.hid (ddigit_any y2 Wt)
                          cases hd2 : dgB y2 with
                          | false =>
                            have HBAD : Hid (r = .bad 0 4) := by
                              show _ = _
                              rw [HR2.out, HAL.out, if_neg (by
                                rintro ⟨_, h⟩
                                rcases h with h | h
                                · rw [List.length_drop, HLN.out] at h; omega
                                · have h2 := h.2.1
                                  rw [List.drop_drop, show 7 + (k - 7 + 1) = k + 1 by omega, W.num_none (W.many_at (k := 0) (fun j x hj => by omega) (Nat.zero_le _) (fun x hx => by rw [List.getElem?_drop] at hx; rw [show k + 1 + 0 = k + 1 from rfl, HY2.out] at hx; injection hx with hx; subst hx; exact hd2))] at h2
                                  cases h2)]
                            rw [hd2] at HDC
                            clear hd2 HLB HT8
                            go_wp2_with fail
                            refine HDC.out.mono ?_
                            rintro e w7 ⟨rfl, rfl⟩
                            clear HDC
                            go_wp2_with fail
                            refine (dfail_any HRx.out (i := p) (Nat.le_of_lt hp) 4).mono ?_
                            rintro e w9 ⟨rfl, hR9, hb9⟩
                            rw [if_pos rfl, if_pos rfl] at hR9
                            have HE : Hid (StepD X b w p o ts wr r (.returned (.tuple #[])) w9) := by
                              show StepD _ _ _ _ _ _ _ _ _ _
                              rw [HBAD.out]
                              exact stepD_bad (k := 0) hR9 (HBx.out.trans hb9)
                            clear hR9 hb9 HBAD HRx HBx
                            go_wp2_with fail
                            exact bodyPost_ret (v := .tuple #[]) (by simp [results, Tryz.results86, go_sem]) rfl HE.out
                          | true =>
                            have HNC := Lib.hid (dnumber_any HRK.out (by omega) HY2.out hd2)
                            rw [hd2] at HDC
                            clear hd2
                            obtain ⟨R, hR⟩ : ∃ R, numB (l.drop (k + 1)) = R := ⟨_, rfl⟩
                            rw [hR] at HNC
                            have HAL2 : Hid (allowB (l.drop 7) = if R.2.2 = 0 ∧ R.2.1 = n - (k + 1) then some (xs, R.1) else none) := by
                              show _ = _
                              rw [HAL.out]
                              have e1 : (l.drop 7).drop (k - 7 + 1) = l.drop (k + 1) := by rw [List.drop_drop]; congr 1; omega
                              have e2 : ¬ k - 7 = (l.drop 7).length := by rw [List.length_drop, HLN.out]; omega
                              have e3 : (l.drop 7)[k - 7]? = some 32 := by rw [List.getElem?_drop, show 7 + (k - 7) = k by omega]; exact HY.out
                              rw [e1, hR, if_neg e2, ← HXE.out]
                              have e4 : (l.drop (k + 1)).length = n - (k + 1) := by rw [List.length_drop, HLN.out]
                              rw [e4]
                              by_cases hc : R.2.2 = 0 ∧ R.2.1 = n - (k + 1)
                              · rw [if_pos hc, if_pos ⟨by rw [HXE.out]; exact HLB.out, .inr ⟨e3, hc.1, hc.2⟩⟩]
                              · rw [if_neg hc, if_neg]
                                rintro ⟨_, h | h⟩
                                · exact e2 h
                                · exact hc h.2
                            clear HAL HLB
                            have hkk : ((k + 1 : Nat) : Int) = (k : Int) + 1 := by omega
                            rw [hkk] at HNC
                            clear hkk hR
                            go_wp2_with fail
                            refine HDC.out.mono ?_
                            rintro e w7 ⟨rfl, rfl⟩
                            clear HDC
                            go_wp2_with fail
                            refine HNC.out.mono ?_
                            rintro e w7 ⟨rfl, x9, t9, rfl, ht9, hx9⟩
                            have HX9 := Lib.hid hx9
                            clear HNC hx9
                            have HRs : Hid (Rdx X b (Wt.setCell ⟨TB, 2, none⟩ (.int .i64 x9)) t o tv ts wr 0) := HRS.out _
                            have HBs : Hid (Below b w (Wt.setCell ⟨TB, 2, none⟩ (.int .i64 x9))) := HBx.out.setCell (p := ⟨TB, 2, none⟩) (Nat.le_of_lt hTB) _
                            have HTs : Hid ((Wt.setCell ⟨TB, 2, none⟩ (.int .i64 x9)).heap[TB]? = some (.cells #[.int .i64 19, .string s8, .int .i64 x9, .int .i64 0, .int .i64 0] 94 (0, 0))) := by
                              show _ = _
                              rw [heap_setCell_same _ _ _ _ _ _ HT8.out]; rfl
                            go_upto_region 14 with (fail)
                            change Code.wp _ _ _ _ (Wt.setCell ⟨TB, 2, none⟩ (.int .i64 x9))
                            clear k0 k1 k2 k3 k4 fT HT8 HRx HBx HRK hcy2
                            generalize Wt.setCell ⟨TB, 2, none⟩ (.int .i64 x9) = Ws at *
                            obtain ⟨k0, k1, k2, k3, k4⟩ := cells5 HTs.out
                            have HRx := HRs
                            have HBx := HBs
                            clear HRs HBs HTs
                            by_cases he0 : R.2.2 = 0
                            · obtain ⟨hx0, ht0⟩ := HX9.out he0
                              by_cases hte : t9 = n
                              · have HGOOD : Hid (r = .tok 19 xs x9 0 (n - 1)) := by
                                  show _ = _
                                  rw [HR2.out, HAL2.out, if_pos ⟨he0, by omega⟩, hx0]
                                have HXF : strOfNums xs = s8 := HS8.out
                                subst HXF
                                rw [he0]
                                have htn : ((t9 : Int) == (n : Int)) = true := by rw [hte]; simp
                                clear HAL2 HX9 hx0 ht0 he0 hte
                                go_wp2_with fail
                                refine (dput_any HRx.out 19 x9 0 0 xs (i := p) (Nat.le_of_lt hp) hts).mono ?_
                                rintro e w9 ⟨rfl, ⟨tv9, hR9⟩, hb9⟩
                                have HE : Hid (StepD X b w p o ts wr r (.returned (.tuple #[])) w9) := by
                                  show StepD _ _ _ _ _ _ _ _ _ _
                                  rw [HGOOD.out]
                                  refine ⟨rfl, HBx.out.trans hb9, tv9, ?_⟩
                                  rw [show p + (n - 1) + 1 = t by have := HN.out; omega]
                                  exact hR9
                                clear hR9 hb9 HGOOD HRx HBx
                                go_wp2_with fail
                                exact bodyPost_ret (v := .tuple #[]) (by simp [results, Tryz.results86, go_sem]) rfl HE.out
                              · have HBAD : Hid (r = .bad 0 4) := by
                                  show _ = _
                                  rw [HR2.out, HAL2.out, if_neg (by rintro ⟨_, h⟩; omega)]
                                have g9 : ((t9 : Int) == (n : Int)) = false := by simp only [beq_eq_false_iff_ne]; omega
                                rw [he0]
                                clear HAL2 HX9 hx0 ht0 he0 hte
                                go_wp2_with fail
                                refine (dfail_any HRx.out (i := p) (Nat.le_of_lt hp) 4).mono ?_
                                rintro e w9 ⟨rfl, hR9, hb9⟩
                                rw [if_pos rfl, if_pos rfl] at hR9
                                have HE : Hid (StepD X b w p o ts wr r (.returned (.tuple #[])) w9) := by
                                  show StepD _ _ _ _ _ _ _ _ _ _
                                  rw [HBAD.out]
                                  exact stepD_bad (k := 0) hR9 (HBx.out.trans hb9)
                                clear hR9 hb9 HBAD HRx HBx
                                go_wp2_with fail
                                exact bodyPost_ret (v := .tuple #[]) (by simp [results, Tryz.results86, go_sem]) rfl HE.out
                            · have HBAD : Hid (r = .bad 0 4) := by
                                show _ = _
                                rw [HR2.out, HAL2.out, if_neg (by rintro ⟨h, _⟩; exact he0 h)]
                              have g9 : (R.2.2 == 0) = false := by simpa using he0
                              clear HAL2 HX9 he0
                              generalize R.2.2 = e9 at *
                              go_wp2_with fail
                              refine (dfail_any HRx.out (i := p) (Nat.le_of_lt hp) 4).mono ?_
                              rintro e w9 ⟨rfl, hR9, hb9⟩
                              rw [if_pos rfl, if_pos rfl] at hR9
                              have HE : Hid (StepD X b w p o ts wr r (.returned (.tuple #[])) w9) := by
                                show StepD _ _ _ _ _ _ _ _ _ _
                                rw [HBAD.out]
                                exact stepD_bad (k := 0) hR9 (HBx.out.trans hb9)
                              clear hR9 hb9 HBAD HRx HBx
                              go_wp2_with fail
                              exact bodyPost_ret (v := .tuple #[]) (by simp [results, Tryz.results86, go_sem]) rfl HE.out
                        · skip
                          have HBAD : Hid (r = .bad 0 4) := by
                            show _ = _
                            rw [HR2.out, HAL.out, if_neg (by
                              rintro ⟨_, h⟩
                              rcases h with h | h
                              · rw [List.length_drop, HLN.out] at h; omega
                              · have h2 := h.2.1
                                have e0 : (l.drop 7).drop (k - 7 + 1) = [] := List.drop_eq_nil_of_le (by rw [List.length_drop, HLN.out]; omega)
                                rw [e0] at h2
                                cases h2)]
                          have hk1i : ¬ (k : Int) + 1 < (n : Int) := by omega
                          clear HLB HT8 hk1
                          go_wp2_with fail
                          refine (dfail_any HRx.out (i := p) (Nat.le_of_lt hp) 4).mono ?_
                          rintro e w9 ⟨rfl, hR9, hb9⟩
                          rw [if_pos rfl, if_pos rfl] at hR9
                          have HE : Hid (StepD X b w p o ts wr r (.returned (.tuple #[])) w9) := by
                            show StepD _ _ _ _ _ _ _ _ _ _
                            rw [HBAD.out]
                            exact stepD_bad (k := 0) hR9 (HBx.out.trans hb9)
                          clear hR9 hb9 HBAD HRx HBx
                          go_wp2_with fail
                          exact bodyPost_ret (v := .tuple #[]) (by simp [results, Tryz.results86, go_sem]) rfl HE.out
                      · have g32 : (y == 32) = false := by simpa using hy32
                        have HBAD : Hid (r = .bad 0 4) := by
                          show _ = _
                          rw [HR2.out, HAL.out, if_neg (by
                            rintro ⟨_, h⟩
                            rcases h with h | h
                            · rw [List.length_drop, HLN.out] at h; omega
                            · have h2 := h.1
                              rw [List.getElem?_drop, show 7 + (k - 7) = k by omega, HY.out] at h2
                              injection h2 with h2; exact hy32 h2)]
                        clear HLB HT8 hy32
                        go_wp2_with fail
                        refine (dfail_any HRx.out (i := p) (Nat.le_of_lt hp) 4).mono ?_
                        rintro e w9 ⟨rfl, hR9, hb9⟩
                        rw [if_pos rfl, if_pos rfl] at hR9
                        have HE : Hid (StepD X b w p o ts wr r (.returned (.tuple #[])) w9) := by
                          show StepD _ _ _ _ _ _ _ _ _ _
                          rw [HBAD.out]
                          exact stepD_bad (k := 0) hR9 (HBx.out.trans hb9)
                        clear hR9 hb9 HBAD HRx HBx
                        go_wp2_with fail
                        exact bodyPost_ret (v := .tuple #[]) (by simp [results, Tryz.results86, go_sem]) rfl HE.out
                · have HAL : Hid (allowB (l.drop 7) = _) := W.allow_is (l := l.drop 7) (k := k - 7) (HV.out.many hk7 (by rw [HLN.out]; exact hkn) (fun x hx => by have := (List.getElem?_eq_some_iff.1 hx).1; rw [HLN.out] at this; omega))
                  have HKE : Hid (k = n) := by show _ = _; omega
                  have gkn : ((k : Int) == (n : Int)) = true := by simp only [beq_iff_eq]; omega
                  obtain ⟨xs, hxs⟩ : ∃ xs, xs = (l.drop 7).take (k - 7) := ⟨_, rfl⟩
                  have HXS : Hid (∀ x ∈ xs, smB x = true) := fun x hx => by
                    rw [hxs] at hx
                    obtain ⟨j, hj, e⟩ := List.getElem_of_mem hx
                    have hj2 := hj
                    rw [List.length_take, List.length_drop] at hj2
                    have h1 : ((l.drop 7).take (k - 7))[j]? = some x := by rw [List.getElem?_eq_getElem hj, e]
                    rw [List.getElem?_take_of_lt (by omega), List.getElem?_drop] at h1
                    exact HV.out (7 + j) x (by omega) (by omega) h1
                  have hxl : xs.length = k - 7 := by rw [hxs, List.length_take, List.length_drop, HLN.out]; omega
                  have HXE := Lib.hid hxs
                  clear hxs
                  by_cases hcl7 : cl = 7
                  · subst hcl7
                    obtain rfl : k = 7 := by have := HKE.out; omega
                    obtain rfl : n = 7 := by omega
                    clear gkn
                    have HRX : Hid (RdK .i64 W5 b (some ⟨bA, ol, none⟩) 0 0 xs) := by
                      show RdK _ _ _ _ _ _ _
                      obtain rfl : xs = [] := List.eq_nil_of_length_eq_zero (by omega)
                      exact RdK.zero (by unfold maxLen; omega)
                    have HLT : Hid (∀ x ∈ xs, 0 ≤ x ∧ x < 128) := fun x hx => by
                      have h2 := (dsm_iff x).1 (HXS.out x hx)
                      omega
                    have HC := Lib.hid (dtext_any HRX.out (Nat.le_of_lt HRx.out.size) (by omega) HLT.out)
                    have HST8 : Hid (StrIs (strOfNums xs) xs) := ⟨rfl, fun x hx => by have := HLT.out x hx; omega⟩
                    have HXL := Lib.hid hxl
                    clear HXS HRX HLT hxl
                    generalize hs8 : strOfNums xs = s8 at HC HST8
                    go_wp2_with fail
                    refine HC.out.mono ?_
                    rintro e w6 ⟨rfl, hb6⟩
                    have hpt8 := kbelow_push w6 (.cells #[.int .i64 19, .string s8, .int .i64 (-1), .int .i64 0, .int .i64 0] 94)
                    have HT8 := Lib.hid (heap_alloc_new w6 (.cells #[.int .i64 19, .string s8, .int .i64 (-1), .int .i64 0, .int .i64 0] 94))
                    have hz5 := HRx.out.size
                    have hz6 := hb6.size
                    have HBs : Hid (Below b W5 (w6.alloc (.cells #[.int .i64 19, .string s8, .int .i64 (-1), .int .i64 0, .int .i64 0] 94))) := (hb6.mono (Nat.le_of_lt hz5)).trans (hpt8.mono (by omega))
                    have HRt := Lib.hid ((HRx.out.below hb6).below hpt8)
                    have HRS : Hid (∀ v, Rdx X b ((w6.alloc (.cells #[.int .i64 19, .string s8, .int .i64 (-1), .int .i64 0, .int .i64 0] 94)).setCell ⟨w6.heap.size, 2, none⟩ v) t o tv ts wr 0) := fun v => (HRx.out.below hb6).below (hpt8.setCell (p := ⟨w6.heap.size, 2, none⟩) (Nat.le_refl _) v)
                    have HBt : Hid (Below b w (w6.alloc (.cells #[.int .i64 19, .string s8, .int .i64 (-1), .int .i64 0, .int .i64 0] 94))) := HBx.out.trans HBs.out
                    have HRKt : Hid (RdK .i64 (w6.alloc (.cells #[.int .i64 19, .string s8, .int .i64 (-1), .int .i64 0, .int .i64 0] 94)) b (some ⟨bA, ol, none⟩) 7 7 l) := HRK.out.keep (fun a ha => HBs.out.cell ha)
                    have hTB : b < w6.heap.size := by omega
                    have HS8 := Lib.hid hs8
                    clear hb6 hpt8 HBs HRx HBx HRK HC hz5 hz6 hs8
                    go_wp2_with fail
                    change Calls _ _ _ (w6.alloc (.cells #[.int .i64 19, .string s8, .int .i64 (-1), .int .i64 0, .int .i64 0] 94)) _
                    generalize (w6.alloc (.cells #[.int .i64 19, .string s8, .int .i64 (-1), .int .i64 0, .int .i64 0] 94)) = Wt at *
                    generalize w6.heap.size = TB at *
                    obtain ⟨k0, k1, k2, k3, k4⟩ := cells5 HT8.out
                    have fT : ∀ j, Wt.frozen? ⟨TB, j, none⟩ = false := fun j => frozen_of_row _ _ _ _ _ HT8.out
                    have HRx := HRt
                    have HBx := HBt
                    have HRK := HRKt
                    clear HRt HBt HRKt
                    have HLC := Lib.hid (dletters_any (w := Wt) HST8.out (by have := HXL.out; omega))
                    cases hlb : lettersB xs with
                    | false =>
                      have HBAD : Hid (r = .bad 0 4) := by
                        show _ = _
                        have hlb' : lettersB ((l.drop 7).take (7 - 7)) = false := by rw [← HXE.out]; exact hlb
                        rw [HR2.out, HAL.out, if_neg (by rw [hlb']; intro h; cases h.1)]
                      rw [hlb] at HLC
                      clear hlb
                      refine HLC.out.mono ?_
                      rintro e w7 ⟨rfl, rfl⟩
                      clear HLC HRK
                      go_wp2_with fail
                      refine (dfail_any HRx.out (i := p) (Nat.le_of_lt hp) 4).mono ?_
                      rintro e w9 ⟨rfl, hR9, hb9⟩
                      rw [if_pos rfl, if_pos rfl] at hR9
                      have HE : Hid (StepD X b w p o ts wr r (.returned (.tuple #[])) w9) := by
                        show StepD _ _ _ _ _ _ _ _ _ _
                        rw [HBAD.out]
                        exact stepD_bad (k := 0) hR9 (HBx.out.trans hb9)
                      clear hR9 hb9 HBAD HRx HBx
                      go_wp2_with fail
                      exact bodyPost_ret (v := .tuple #[]) (by simp [results, Tryz.results86, go_sem]) rfl HE.out
                    | true =>
                      have HLB : Hid (lettersB ((l.drop 7).take (7 - 7)) = true) := by show _ = _; rw [← HXE.out]; exact hlb
                      rw [hlb] at HLC
                      clear hlb
                      refine HLC.out.mono ?_
                      rintro e w7 ⟨rfl, rfl⟩
                      clear HLC
                      have HGOOD : Hid (r = .tok 19 xs (-1) 0 (7 - 1)) := by
                        show _ = _
                        rw [HR2.out, HAL.out, if_pos ⟨HLB.out, .inl (by rw [List.length_drop, HLN.out])⟩, HXE.out]
                        show St.tok 19 _ (if 7 - 7 = (l.drop 7).length then -1 else _) 0 (7 - 1) = _
                        rw [if_pos (by rw [List.length_drop, HLN.out])]
                      have HXF : strOfNums xs = s8 := HS8.out
                      subst HXF
                      clear HRK HLB HT8
                      go_wp2_with fail
                      refine (dput_any HRx.out 19 (-1) 0 0 xs (i := p) (Nat.le_of_lt hp) hts).mono ?_
                      rintro e w9 ⟨rfl, ⟨tv9, hR9⟩, hb9⟩
                      have HE : Hid (StepD X b w p o ts wr r (.returned (.tuple #[])) w9) := by
                        show StepD _ _ _ _ _ _ _ _ _ _
                        rw [HGOOD.out]
                        refine ⟨rfl, HBx.out.trans hb9, tv9, ?_⟩
                        rw [show p + (7 - 1) + 1 = t by have := HN.out; omega]
                        exact hR9
                      clear hR9 hb9 HGOOD HRx HBx
                      go_wp2_with fail
                      exact bodyPost_ret (v := .tuple #[]) (by simp [results, Tryz.results86, go_sem]) rfl HE.out
                  · skip
                    have HRX : Hid (RdK .i64 W5 b (some ⟨bA, ol + 7, none⟩) (k - 7) (cl - 7) xs) := by
                      show RdK _ _ _ _ _ _ _
                      rw [HXE.out]
                      exact RdK.mid HRK.out (lo := 7) (m := k - 7) (by omega)
                    have HLT : Hid (∀ x ∈ xs, 0 ≤ x ∧ x < 128) := fun x hx => by
                      have h2 := (dsm_iff x).1 (HXS.out x hx)
                      omega
                    have HC := Lib.hid (dtext_any HRX.out (Nat.le_of_lt HRx.out.size) (by omega) HLT.out)
                    have HST8 : Hid (StrIs (strOfNums xs) xs) := ⟨rfl, fun x hx => by have := HLT.out x hx; omega⟩
                    have HXL := Lib.hid hxl
                    clear HXS HRX HLT hxl
                    generalize hs8 : strOfNums xs = s8 at HC HST8
                    go_wp2_with fail
                    refine HC.out.mono ?_
                    rintro e w6 ⟨rfl, hb6⟩
                    have hpt8 := kbelow_push w6 (.cells #[.int .i64 19, .string s8, .int .i64 (-1), .int .i64 0, .int .i64 0] 94)
                    have HT8 := Lib.hid (heap_alloc_new w6 (.cells #[.int .i64 19, .string s8, .int .i64 (-1), .int .i64 0, .int .i64 0] 94))
                    have hz5 := HRx.out.size
                    have hz6 := hb6.size
                    have HBs : Hid (Below b W5 (w6.alloc (.cells #[.int .i64 19, .string s8, .int .i64 (-1), .int .i64 0, .int .i64 0] 94))) := (hb6.mono (Nat.le_of_lt hz5)).trans (hpt8.mono (by omega))
                    have HRt := Lib.hid ((HRx.out.below hb6).below hpt8)
                    have HRS : Hid (∀ v, Rdx X b ((w6.alloc (.cells #[.int .i64 19, .string s8, .int .i64 (-1), .int .i64 0, .int .i64 0] 94)).setCell ⟨w6.heap.size, 2, none⟩ v) t o tv ts wr 0) := fun v => (HRx.out.below hb6).below (hpt8.setCell (p := ⟨w6.heap.size, 2, none⟩) (Nat.le_refl _) v)
                    have HBt : Hid (Below b w (w6.alloc (.cells #[.int .i64 19, .string s8, .int .i64 (-1), .int .i64 0, .int .i64 0] 94))) := HBx.out.trans HBs.out
                    have HRKt : Hid (RdK .i64 (w6.alloc (.cells #[.int .i64 19, .string s8, .int .i64 (-1), .int .i64 0, .int .i64 0] 94)) b (some ⟨bA, ol, none⟩) n cl l) := HRK.out.keep (fun a ha => HBs.out.cell ha)
                    have hTB : b < w6.heap.size := by omega
                    have HS8 := Lib.hid hs8
                    clear hb6 hpt8 HBs HRx HBx HRK HC hz5 hz6 hs8
                    go_wp2_with fail
                    change Calls _ _ _ (w6.alloc (.cells #[.int .i64 19, .string s8, .int .i64 (-1), .int .i64 0, .int .i64 0] 94)) _
                    generalize (w6.alloc (.cells #[.int .i64 19, .string s8, .int .i64 (-1), .int .i64 0, .int .i64 0] 94)) = Wt at *
                    generalize w6.heap.size = TB at *
                    obtain ⟨k0, k1, k2, k3, k4⟩ := cells5 HT8.out
                    have fT : ∀ j, Wt.frozen? ⟨TB, j, none⟩ = false := fun j => frozen_of_row _ _ _ _ _ HT8.out
                    have HRx := HRt
                    have HBx := HBt
                    have HRK := HRKt
                    clear HRt HBt HRKt
                    have HLC := Lib.hid (dletters_any (w := Wt) HST8.out (by have := HXL.out; omega))
                    cases hlb : lettersB xs with
                    | false =>
                      have HBAD : Hid (r = .bad 0 4) := by
                        show _ = _
                        have hlb' : lettersB ((l.drop 7).take (k - 7)) = false := by rw [← HXE.out]; exact hlb
                        rw [HR2.out, HAL.out, if_neg (by rw [hlb']; intro h; cases h.1)]
                      rw [hlb] at HLC
                      clear hlb
                      refine HLC.out.mono ?_
                      rintro e w7 ⟨rfl, rfl⟩
                      clear HLC HRK
                      go_wp2_with fail
                      refine (dfail_any HRx.out (i := p) (Nat.le_of_lt hp) 4).mono ?_
                      rintro e w9 ⟨rfl, hR9, hb9⟩
                      rw [if_pos rfl, if_pos rfl] at hR9
                      have HE : Hid (StepD X b w p o ts wr r (.returned (.tuple #[])) w9) := by
                        show StepD _ _ _ _ _ _ _ _ _ _
                        rw [HBAD.out]
                        exact stepD_bad (k := 0) hR9 (HBx.out.trans hb9)
                      clear hR9 hb9 HBAD HRx HBx
                      go_wp2_with fail
                      exact bodyPost_ret (v := .tuple #[]) (by simp [results, Tryz.results86, go_sem]) rfl HE.out
                    | true =>
                      have HLB : Hid (lettersB ((l.drop 7).take (k - 7)) = true) := by show _ = _; rw [← HXE.out]; exact hlb
                      rw [hlb] at HLC
                      clear hlb
                      refine HLC.out.mono ?_
                      rintro e w7 ⟨rfl, rfl⟩
                      clear HLC
                      have HGOOD : Hid (r = .tok 19 xs (-1) 0 (n - 1)) := by
                        show _ = _
                        rw [HR2.out, HAL.out, if_pos ⟨HLB.out, .inl (by rw [List.length_drop, HLN.out]; have := HKE.out; omega)⟩, HXE.out]
                        show St.tok 19 _ (if k - 7 = (l.drop 7).length then -1 else _) 0 (n - 1) = _
                        rw [if_pos (by rw [List.length_drop, HLN.out]; have := HKE.out; omega)]
                      have HXF : strOfNums xs = s8 := HS8.out
                      subst HXF
                      clear HRK HLB HT8
                      go_wp2_with fail
                      refine (dput_any HRx.out 19 (-1) 0 0 xs (i := p) (Nat.le_of_lt hp) hts).mono ?_
                      rintro e w9 ⟨rfl, ⟨tv9, hR9⟩, hb9⟩
                      have HE : Hid (StepD X b w p o ts wr r (.returned (.tuple #[])) w9) := by
                        show StepD _ _ _ _ _ _ _ _ _ _
                        rw [HGOOD.out]
                        refine ⟨rfl, HBx.out.trans hb9, tv9, ?_⟩
                        rw [show p + (n - 1) + 1 = t by have := HN.out; omega]
                        exact hR9
                      clear hR9 hb9 HGOOD HRx HBx
                      go_wp2_with fail
                      exact bodyPost_ret (v := .tuple #[]) (by simp [results, Tryz.results86, go_sem]) rfl HE.out
            · have HSK : Hid (r = .skip (n - 1)) := by show _ = _; rw [HR1.out, if_neg h7]
              have g7 : ((strOfNums (l.take 7)).toList == [35, 97, 108, 108, 111, 119, 32]) = false := by
                have e : ([35, 97, 108, 108, 111, 119, 32] : List UInt8) = (strOfNums allowP).toList := by kernel_rfl
                rw [e, str_eqB (fun x hx => by have := HL7.out x hx; omega) allow_bd]; exact decide_eq_false h7
              clear h7 HR1 HX0 HL7 HOK
              generalize strOfNums (l.take 7) = s7 at *
              have HE : Hid (StepD X b w p o ts wr r (.returned (.tuple #[])) W5) := by
                show StepD _ _ _ _ _ _ _ _ _ _
                rw [HSK.out]
                refine ⟨rfl, HBx.out, tv, ?_⟩
                rw [show p + (n - 1) + 1 = t by have := HN.out; omega]
                exact HRx.out
              clear HSK HRx HBx HRK
              go_wp2_with fail
              exact bodyPost_ret (v := .tuple #[]) (by simp [results, Tryz.results86, go_sem]) rfl HE.out
      · have g10 : (y == 10) = false := by simpa using h10
        have g10' : (y != 10) = true := by simpa using h10
        have HU2 := Lib.hid (HU.out.step HY.out (by unfold W.noLf; exact decide_eq_true h10))
        clear HU HY h10
        go_wp2_with fail
        go_roundw
        case rel => exact ⟨t + 1, by omega, by omega, by go_num, by trivial, HU2.out⟩
        case measure => simp [intOf]; omega
    · have HM : Hid (many noLf (X.L.drop p) = t - p) := HU.out.many ht1 (by rw [HN1.out]; exact ht2) (fun z hz => by have := (List.getElem?_eq_some_iff.1 hz).1; rw [HN1.out] at this; omega)
      have hpt : p < t := by
        rcases Nat.lt_or_ge p t with h1 | h1
        · exact h1
        · obtain rfl : p = t := by omega
          omega
      have HRx := Lib.hid (HH.out.at_ (q := t) ht2)
      have HBx : Hid (Below b w (W0.setCell ⟨b, 2, none⟩ (.int .i64 t))) := HB0.out.setCell (p := ⟨b, 2, none⟩) (Nat.le_refl _) _
      obtain ⟨l, hl⟩ : ∃ l, l = (X.L.drop p).take (t - p) := ⟨_, rfl⟩
      have HLN : Hid (l.length = t - p) := by show _ = _; rw [hl, List.length_take, List.length_drop, HN1.out]; omega
      have HRK : Hid (RdK .i64 (W0.setCell ⟨b, 2, none⟩ (.int .i64 t)) b (some ⟨bA, oA + p, none⟩) (t - p) (X.cc - p) l) := by
        have h1 := HRx.out.chars
        rw [HA.out] at h1
        show RdK _ _ _ _ _ _ _
        rw [hl]
        exact RdK.mid h1 (lo := p) (m := t - p) (by omega)
      have HTW : Hid ((X.L.drop p).takeWhile noLf = l) := by show _ = _; rw [← W.take_many, HM.out, hl]
      have HR1 : Hid (r = if l.take 7 = allowP then (match allowB (l.drop 7) with | some x => .tok 19 x.1 x.2 0 (t - p - 1) | none => .bad 0 4) else .skip (t - p - 1)) := by
        show _ = _
        rw [← HR.out]
        unfold W.noteS
        rw [HTW.out, HM.out]
        rfl
      have HOK : Hid (∀ x ∈ l, 0 ≤ x) := fun x hx => by
        rw [hl] at hx
        have h1 := ok_isC HH.out.ok.1 x (List.mem_of_mem_drop (List.mem_of_mem_take hx))
        unfold Q.isC at h1
        have := of_decide_eq_true h1
        omega
      go_upto_region 5 with (fail)
      change Code.wp _ _ _ _ (W0.setCell ⟨b, 2, none⟩ (.int .i64 t))
      clear c0 c1 c2 c3 c4 c5 c6 f2 HR HTW HM HB0 HH hl
      generalize W0.setCell ⟨b, 2, none⟩ (.int .i64 t) = W4 at *
      have hcl : t - p ≤ X.cc - p := by omega
      have hn1 : 1 ≤ t - p := by omega
      have hn3 : t - p ≤ 3000 := by omega
      obtain ⟨n, hn⟩ : ∃ n, t - p = n := ⟨_, rfl⟩
      rw [hn] at HR1 HRK HLN hcl hn1 hn3 ⊢
      generalize X.cc - p = cl at *
      generalize oA + p = ol at *
      have HN : Hid (t = p + n) := by show _ = _; omega
      clear hn hpt hcc ht1
      by_cases hn7 : n < 7
      · have HSK : Hid (r = .skip (n - 1)) := by
          show _ = _
          rw [HR1.out, if_neg]
          intro h
          have := congrArg List.length h
          rw [List.length_take, HLN.out] at this
          have e : allowP.length = 7 := rfl
          omega
        have hn7i : (n : Int) < 7 := by omega
        clear HR1
        have HE : Hid (StepD X b w p o ts wr r (.returned (.tuple #[])) W4) := by
          show StepD _ _ _ _ _ _ _ _ _ _
          rw [HSK.out]
          refine ⟨rfl, HBx.out, tv, ?_⟩
          rw [show p + (n - 1) + 1 = t by have := HN.out; omega]
          exact HRx.out
        clear HSK HRx HBx HRK
        go_wp2_with fail
        exact bodyPost_ret (v := .tuple #[]) (by simp [results, Tryz.results86, go_sem]) rfl HE.out
      · have hn7i : ¬ (n : Int) < 7 := by omega
        have HRK7 : Hid (RdK .i64 W4 b (some ⟨bA, ol, none⟩) 7 cl (l.take 7)) := HRK.out.take (by omega)
        have HAC := Lib.hid (dascii_any HRK7.out (by omega))
        have HX0 : Hid (∀ x ∈ l.take 7, 0 ≤ x) := fun x hx => HOK.out x (List.mem_of_mem_take hx)
        cases has : (l.take 7).all (fun x => decide (x < 128)) with
        | false =>
          have HSK : Hid (r = .skip (n - 1)) := by
            show _ = _
            rw [HR1.out, if_neg]
            intro h
            rw [h] at has
            exact absurd has (by decide)
          rw [has] at HAC
          clear has HR1
          go_wp2_with fail
          refine HAC.out.mono ?_
          rintro e w5 ⟨rfl, rfl⟩
          have HE : Hid (StepD X b w p o ts wr r (.returned (.tuple #[])) W4) := by
            show StepD _ _ _ _ _ _ _ _ _ _
            rw [HSK.out]
            refine ⟨rfl, HBx.out, tv, ?_⟩
            rw [show p + (n - 1) + 1 = t by have := HN.out; omega]
            exact HRx.out
          clear HSK HRx HBx HRK
          go_wp2_with fail
          exact bodyPost_ret (v := .tuple #[]) (by simp [results, Tryz.results86, go_sem]) rfl HE.out
        | true =>
          have HL7 : Hid (∀ x ∈ l.take 7, 0 ≤ x ∧ x < 128) := fun x hx => ⟨HX0.out x hx, of_decide_eq_true (List.all_eq_true.1 has x hx)⟩
          have HTC := Lib.hid (dtext_any HRK7.out (Nat.le_of_lt HRx.out.size) (by omega) HL7.out)
          rw [has] at HAC
          clear has
          go_wp2_with fail
          refine HAC.out.mono ?_
          rintro e w5 ⟨rfl, rfl⟩
          go_wp2_with fail
          refine HTC.out.mono ?_
          rintro e W5 ⟨rfl, hb5⟩
          have hb5' := hb5.mono (Nat.le_of_lt HRx.out.size)
          have HR5 := Lib.hid (HRx.out.below hb5)
          have HB5 := Lib.hid (HBx.out.trans hb5')
          have HK5 : Hid (RdK .i64 W5 b (some ⟨bA, ol, none⟩) n cl l) := HRK.out.keep (fun a ha => hb5'.cell ha)
          clear HRx HBx HRK hb5 hb5' HTC HAC HRK7
          have HRx := HR5
          have HBx := HB5
          have HRK := HK5
          clear HR5 HB5 HK5
          by_cases h7 : l.take 7 = allowP
          · have HR2 : Hid (r = (match allowB (l.drop 7) with | some x => .tok 19 x.1 x.2 0 (n - 1) | none => .bad 0 4)) := by show _ = _; rw [HR1.out, if_pos h7]
            rw [h7, show strOfNums allowP = ⟨#[35, 97, 108, 108, 111, 119, 32]⟩ from rfl]
            clear h7 HR1 HX0 HL7 HOK
            go_wp2_with fail
            go_loopw [5] (fun kv wx => ∃ k : Nat, 7 ≤ k ∧ k ≤ n ∧ kv = .int .i64 k ∧ W5 = wx ∧ Hid (LRun smB l 7 k)) (fun kv _ => n - (intOf kv).toNat)
            case atStart => exact ⟨7, by omega, by omega, by go_num, by trivial, fun j y h1 h2 => by omega⟩
            case round =>
              obtain ⟨k, hk7, hkn, rfl, rfl, HV⟩ := hrel
              by_cases hlt2 : k < n
              · obtain ⟨b2, o2, y, hA2, _, hy2, hcy⟩ := HRK.out.got hlt2
                injection hA2 with hA2; injection hA2 with e1 e2 _; subst e1 e2
                have HY := Lib.hid hy2
                clear hy2
                by_cases hy97 : 97 ≤ y
                · by_cases hy122 : y ≤ 122
                  · have HV2 := Lib.hid (HV.out.step HY.out ((dsm_iff y).2 ⟨hy97, hy122⟩))
                    clear HV HY
                    go_wp2_with fail
                    go_roundw
                    case rel => exact ⟨k + 1, by omega, by omega, by go_num, by trivial, HV2.out⟩
                    case measure => simp [intOf]; omega
                  · have HAL : Hid (allowB (l.drop 7) = _) := W.allow_is (l := l.drop 7) (k := k - 7) (HV.out.many hk7 (by rw [HLN.out]; exact hkn) (fun x hx => by rw [HY.out] at hx; injection hx with hx; subst hx; rw [← Bool.not_eq_true, dsm_iff]; omega))
                    obtain ⟨xs, hxs⟩ : ∃ xs, xs = (l.drop 7).take (k - 7) := ⟨_, rfl⟩
                    have HXS : Hid (∀ x ∈ xs, smB x = true) := fun x hx => by
                      rw [hxs] at hx
                      obtain ⟨j, hj, e⟩ := List.getElem_of_mem hx
                      have hj2 := hj
                      rw [List.length_take, List.length_drop] at hj2
                      have h1 : ((l.drop 7).take (k - 7))[j]? = some x := by rw [List.getElem?_eq_getElem hj, e]
                      rw [List.getElem?_take_of_lt (by omega), List.getElem?_drop] at h1
                      exact HV.out (7 + j) x (by omega) (by omega) h1
                    have hxl : xs.length = k - 7 := by rw [hxs, List.length_take, List.length_drop, HLN.out]; omega
                    have HXE := Lib.hid hxs
                    clear hxs
                    have HRX : Hid (RdK .i64 W5 b (some ⟨bA, ol + 7, none⟩) (k - 7) (cl - 7) xs) := by
                      show RdK _ _ _ _ _ _ _
                      rw [HXE.out]
                      exact RdK.mid HRK.out (lo := 7) (m := k - 7) (by omega)
                    have hcl7 : ¬ cl = 7 := by omega
                    have HLT : Hid (∀ x ∈ xs, 0 ≤ x ∧ x < 128) := fun x hx => by
                      have h2 := (dsm_iff x).1 (HXS.out x hx)
                      omega
                    have HC := Lib.hid (dtext_any HRX.out (Nat.le_of_lt HRx.out.size) (by omega) HLT.out)
                    have HST8 : Hid (StrIs (strOfNums xs) xs) := ⟨rfl, fun x hx => by have := HLT.out x hx; omega⟩
                    have HXL := Lib.hid hxl
                    clear HXS HRX HLT hxl
                    generalize hs8 : strOfNums xs = s8 at HC HST8
                    go_wp2_with fail
                    refine HC.out.mono ?_
                    rintro e w6 ⟨rfl, hb6⟩
                    have hpt8 := kbelow_push w6 (.cells #[.int .i64 19, .string s8, .int .i64 (-1), .int .i64 0, .int .i64 0] 94)
                    have HT8 := Lib.hid (heap_alloc_new w6 (.cells #[.int .i64 19, .string s8, .int .i64 (-1), .int .i64 0, .int .i64 0] 94))
                    have hz5 := HRx.out.size
                    have hz6 := hb6.size
                    have HBs : Hid (Below b W5 (w6.alloc (.cells #[.int .i64 19, .string s8, .int .i64 (-1), .int .i64 0, .int .i64 0] 94))) := (hb6.mono (Nat.le_of_lt hz5)).trans (hpt8.mono (by omega))
                    have HRt := Lib.hid ((HRx.out.below hb6).below hpt8)
                    have HRS : Hid (∀ v, Rdx X b ((w6.alloc (.cells #[.int .i64 19, .string s8, .int .i64 (-1), .int .i64 0, .int .i64 0] 94)).setCell ⟨w6.heap.size, 2, none⟩ v) t o tv ts wr 0) := fun v => (HRx.out.below hb6).below (hpt8.setCell (p := ⟨w6.heap.size, 2, none⟩) (Nat.le_refl _) v)
                    have HBt : Hid (Below b w (w6.alloc (.cells #[.int .i64 19, .string s8, .int .i64 (-1), .int .i64 0, .int .i64 0] 94))) := HBx.out.trans HBs.out
                    have HRKt : Hid (RdK .i64 (w6.alloc (.cells #[.int .i64 19, .string s8, .int .i64 (-1), .int .i64 0, .int .i64 0] 94)) b (some ⟨bA, ol, none⟩) n cl l) := HRK.out.keep (fun a ha => HBs.out.cell ha)
                    have hcyT : (w6.alloc (.cells #[.int .i64 19, .string s8, .int .i64 (-1), .int .i64 0, .int .i64 0] 94)).cell? ⟨bA, ol + k, none⟩ = some (.int .i64 y) := (HBs.out.cell (p := ⟨bA, ol + k, none⟩) hbA).trans hcy
                    have gkn : ((k : Int) == (n : Int)) = false := by simp only [beq_eq_false_iff_ne]; omega
                    clear hcy
                    have hTB : b < w6.heap.size := by omega
                    have HS8 := Lib.hid hs8
                    clear hb6 hpt8 HBs HRx HBx HRK HC hz5 hz6 hs8
                    go_wp2_with fail
                    change Calls _ _ _ (w6.alloc (.cells #[.int .i64 19, .string s8, .int .i64 (-1), .int .i64 0, .int .i64 0] 94)) _
                    generalize (w6.alloc (.cells #[.int .i64 19, .string s8, .int .i64 (-1), .int .i64 0, .int .i64 0] 94)) = Wt at *
                    generalize w6.heap.size = TB at *
                    obtain ⟨k0, k1, k2, k3, k4⟩ := cells5 HT8.out
                    have fT : ∀ j, Wt.frozen? ⟨TB, j, none⟩ = false := fun j => frozen_of_row _ _ _ _ _ HT8.out
                    have HRx := HRt
                    have HBx := HBt
                    have HRK := HRKt
                    clear HRt HBt HRKt
                    have HLC := Lib.hid (dletters_any (w := Wt) HST8.out (by have := HXL.out; omega))
                    cases hlb : lettersB xs with
                    | false =>
                      have HBAD : Hid (r = .bad 0 4) := by
                        show _ = _
                        have hlb' : lettersB ((l.drop 7).take (k - 7)) = false := by rw [← HXE.out]; exact hlb
                        rw [HR2.out, HAL.out, if_neg (by rw [hlb']; intro h; cases h.1)]
                      rw [hlb] at HLC
                      clear hlb
                      refine HLC.out.mono ?_
                      rintro e w7 ⟨rfl, rfl⟩
                      clear HLC HRK
                      go_wp2_with fail
                      refine (dfail_any HRx.out (i := p) (Nat.le_of_lt hp) 4).mono ?_
                      rintro e w9 ⟨rfl, hR9, hb9⟩
                      rw [if_pos rfl, if_pos rfl] at hR9
                      have HE : Hid (StepD X b w p o ts wr r (.returned (.tuple #[])) w9) := by
                        show StepD _ _ _ _ _ _ _ _ _ _
                        rw [HBAD.out]
                        exact stepD_bad (k := 0) hR9 (HBx.out.trans hb9)
                      clear hR9 hb9 HBAD HRx HBx
                      go_wp2_with fail
                      exact bodyPost_ret (v := .tuple #[]) (by simp [results, Tryz.results86, go_sem]) rfl HE.out
                    | true =>
                      have HLB : Hid (lettersB ((l.drop 7).take (k - 7)) = true) := by show _ = _; rw [← HXE.out]; exact hlb
                      rw [hlb] at HLC
                      clear hlb
                      refine HLC.out.mono ?_
                      rintro e w7 ⟨rfl, rfl⟩
                      clear HLC
                      have hy32 : y ≠ 32 := by omega
                      have g32 : (y == 32) = false := by simpa using hy32
                      have HBAD : Hid (r = .bad 0 4) := by
                        show _ = _
                        rw [HR2.out, HAL.out, if_neg (by
                          rintro ⟨_, h⟩
                          rcases h with h | h
                          · rw [List.length_drop, HLN.out] at h; omega
                          · have h2 := h.1
                            rw [List.getElem?_drop, show 7 + (k - 7) = k by omega, HY.out] at h2
                            injection h2 with h2; exact hy32 h2)]
                      clear HLB HT8 hy32
                      go_wp2_with fail
                      refine (dfail_any HRx.out (i := p) (Nat.le_of_lt hp) 4).mono ?_
                      rintro e w9 ⟨rfl, hR9, hb9⟩
                      rw [if_pos rfl, if_pos rfl] at hR9
                      have HE : Hid (StepD X b w p o ts wr r (.returned (.tuple #[])) w9) := by
                        show StepD _ _ _ _ _ _ _ _ _ _
                        rw [HBAD.out]
                        exact stepD_bad (k := 0) hR9 (HBx.out.trans hb9)
                      clear hR9 hb9 HBAD HRx HBx
                      go_wp2_with fail
                      exact bodyPost_ret (v := .tuple #[]) (by simp [results, Tryz.results86, go_sem]) rfl HE.out
                · have HAL : Hid (allowB (l.drop 7) = _) := W.allow_is (l := l.drop 7) (k := k - 7) (HV.out.many hk7 (by rw [HLN.out]; exact hkn) (fun x hx => by rw [HY.out] at hx; injection hx with hx; subst hx; rw [← Bool.not_eq_true, dsm_iff]; omega))
                  obtain ⟨xs, hxs⟩ : ∃ xs, xs = (l.drop 7).take (k - 7) := ⟨_, rfl⟩
                  have HXS : Hid (∀ x ∈ xs, smB x = true) := fun x hx => by
                    rw [hxs] at hx
                    obtain ⟨j, hj, e⟩ := List.getElem_of_mem hx
                    have hj2 := hj
                    rw [List.length_take, List.length_drop] at hj2
                    have h1 : ((l.drop 7).take (k - 7))[j]? = some x := by rw [List.getElem?_eq_getElem hj, e]
                    rw [List.getElem?_take_of_lt (by omega), List.getElem?_drop] at h1
                    exact HV.out (7 + j) x (by omega) (by omega) h1
                  have hxl : xs.length = k - 7 := by rw [hxs, List.length_take, List.length_drop, HLN.out]; omega
                  have HXE := Lib.hid hxs
                  clear hxs
                  have HRX : Hid (RdK .i64 W5 b (some ⟨bA, ol + 7, none⟩) (k - 7) (cl - 7) xs) := by
                    show RdK _ _ _ _ _ _ _
                    rw [HXE.out]
                    exact RdK.mid HRK.out (lo := 7) (m := k - 7) (by omega)
                  have hcl7 : ¬ cl = 7 := by omega
                  have HLT : Hid (∀ x ∈ xs, 0 ≤ x ∧ x < 128) := fun x hx => by
                    have h2 := (dsm_iff x).1 (HXS.out x hx)
                    omega
                  have HC := Lib.hid (dtext_any HRX.out (Nat.le_of_lt HRx.out.size) (by omega) HLT.out)
                  have HST8 : Hid (StrIs (strOfNums xs) xs) := ⟨rfl, fun x hx => by have := HLT.out x hx; omega⟩
                  have HXL := Lib.hid hxl
                  clear HXS HRX HLT hxl
                  generalize hs8 : strOfNums xs = s8 at HC HST8
                  go_wp2_with fail
                  refine HC.out.mono ?_
                  rintro e w6 ⟨rfl, hb6⟩
                  have hpt8 := kbelow_push w6 (.cells #[.int .i64 19, .string s8, .int .i64 (-1), .int .i64 0, .int .i64 0] 94)
                  have HT8 := Lib.hid (heap_alloc_new w6 (.cells #[.int .i64 19, .string s8, .int .i64 (-1), .int .i64 0, .int .i64 0] 94))
                  have hz5 := HRx.out.size
                  have hz6 := hb6.size
                  have HBs : Hid (Below b W5 (w6.alloc (.cells #[.int .i64 19, .string s8, .int .i64 (-1), .int .i64 0, .int .i64 0] 94))) := (hb6.mono (Nat.le_of_lt hz5)).trans (hpt8.mono (by omega))
                  have HRt := Lib.hid ((HRx.out.below hb6).below hpt8)
                  have HRS : Hid (∀ v, Rdx X b ((w6.alloc (.cells #[.int .i64 19, .string s8, .int .i64 (-1), .int .i64 0, .int .i64 0] 94)).setCell ⟨w6.heap.size, 2, none⟩ v) t o tv ts wr 0) := fun v => (HRx.out.below hb6).below (hpt8.setCell (p := ⟨w6.heap.size, 2, none⟩) (Nat.le_refl _) v)
                  have HBt : Hid (Below b w (w6.alloc (.cells #[.int .i64 19, .string s8, .int .i64 (-1), .int .i64 0, .int .i64 0] 94))) := HBx.out.trans HBs.out
                  have HRKt : Hid (RdK .i64 (w6.alloc (.cells #[.int .i64 19, .string s8, .int .i64 (-1), .int .i64 0, .int .i64 0] 94)) b (some ⟨bA, ol, none⟩) n cl l) := HRK.out.keep (fun a ha => HBs.out.cell ha)
                  have hcyT : (w6.alloc (.cells #[.int .i64 19, .string s8, .int .i64 (-1), .int .i64 0, .int .i64 0] 94)).cell? ⟨bA, ol + k, none⟩ = some (.int .i64 y) := (HBs.out.cell (p := ⟨bA, ol + k, none⟩) hbA).trans hcy
                  have gkn : ((k : Int) == (n : Int)) = false := by simp only [beq_eq_false_iff_ne]; omega
                  clear hcy
                  have hTB : b < w6.heap.size := by omega
                  have HS8 := Lib.hid hs8
                  clear hb6 hpt8 HBs HRx HBx HRK HC hz5 hz6 hs8
                  go_wp2_with fail
                  change Calls _ _ _ (w6.alloc (.cells #[.int .i64 19, .string s8, .int .i64 (-1), .int .i64 0, .int .i64 0] 94)) _
                  generalize (w6.alloc (.cells #[.int .i64 19, .string s8, .int .i64 (-1), .int .i64 0, .int .i64 0] 94)) = Wt at *
                  generalize w6.heap.size = TB at *
                  obtain ⟨k0, k1, k2, k3, k4⟩ := cells5 HT8.out
                  have fT : ∀ j, Wt.frozen? ⟨TB, j, none⟩ = false := fun j => frozen_of_row _ _ _ _ _ HT8.out
                  have HRx := HRt
                  have HBx := HBt
                  have HRK := HRKt
                  clear HRt HBt HRKt
                  have HLC := Lib.hid (dletters_any (w := Wt) HST8.out (by have := HXL.out; omega))
                  cases hlb : lettersB xs with
                  | false =>
                    have HBAD : Hid (r = .bad 0 4) := by
                      show _ = _
                      have hlb' : lettersB ((l.drop 7).take (k - 7)) = false := by rw [← HXE.out]; exact hlb
                      rw [HR2.out, HAL.out, if_neg (by rw [hlb']; intro h; cases h.1)]
                    rw [hlb] at HLC
                    clear hlb
                    refine HLC.out.mono ?_
                    rintro e w7 ⟨rfl, rfl⟩
                    clear HLC HRK
                    go_wp2_with fail
                    refine (dfail_any HRx.out (i := p) (Nat.le_of_lt hp) 4).mono ?_
                    rintro e w9 ⟨rfl, hR9, hb9⟩
                    rw [if_pos rfl, if_pos rfl] at hR9
                    have HE : Hid (StepD X b w p o ts wr r (.returned (.tuple #[])) w9) := by
                      show StepD _ _ _ _ _ _ _ _ _ _
                      rw [HBAD.out]
                      exact stepD_bad (k := 0) hR9 (HBx.out.trans hb9)
                    clear hR9 hb9 HBAD HRx HBx
                    go_wp2_with fail
                    exact bodyPost_ret (v := .tuple #[]) (by simp [results, Tryz.results86, go_sem]) rfl HE.out
                  | true =>
                    have HLB : Hid (lettersB ((l.drop 7).take (k - 7)) = true) := by show _ = _; rw [← HXE.out]; exact hlb
                    rw [hlb] at HLC
                    clear hlb
                    refine HLC.out.mono ?_
                    rintro e w7 ⟨rfl, rfl⟩
                    clear HLC
                    by_cases hy32 : y = 32
                    · subst hy32
                      by_cases hk1 : k + 1 < n
                      · obtain ⟨b3, o3, y2, hA3, _, hy2, hcy2⟩ := HRK.out.got hk1
                        injection hA3 with hA3; injection hA3 with e3 e4 _; subst e3 e4
                        have HY2 := Lib.hid hy2
                        clear hy2
                        have HDC := Lib.hid (ddigit_any y2 Wt)
                        cases hd2 : dgB y2 with
                        | false =>
                          have HBAD : Hid (r = .bad 0 4) := by
                            show _ = _
                            rw [HR2.out, HAL.out, if_neg (by
                              rintro ⟨_, h⟩
                              rcases h with h | h
                              · rw [List.length_drop, HLN.out] at h; omega
                              · have h2 := h.2.1
                                rw [List.drop_drop, show 7 + (k - 7 + 1) = k + 1 by omega, W.num_none (W.many_at (k := 0) (fun j x hj => by omega) (Nat.zero_le _) (fun x hx => by rw [List.getElem?_drop] at hx; rw [show k + 1 + 0 = k + 1 from rfl, HY2.out] at hx; injection hx with hx; subst hx; exact hd2))] at h2
                                cases h2)]
                          rw [hd2] at HDC
                          clear hd2 HLB HT8
                          go_wp2_with fail
                          refine HDC.out.mono ?_
                          rintro e w7 ⟨rfl, rfl⟩
                          clear HDC
                          go_wp2_with fail
                          refine (dfail_any HRx.out (i := p) (Nat.le_of_lt hp) 4).mono ?_
                          rintro e w9 ⟨rfl, hR9, hb9⟩
                          rw [if_pos rfl, if_pos rfl] at hR9
                          have HE : Hid (StepD X b w p o ts wr r (.returned (.tuple #[])) w9) := by
                            show StepD _ _ _ _ _ _ _ _ _ _
                            rw [HBAD.out]
                            exact stepD_bad (k := 0) hR9 (HBx.out.trans hb9)
                          clear hR9 hb9 HBAD HRx HBx
                          go_wp2_with fail
                          exact bodyPost_ret (v := .tuple #[]) (by simp [results, Tryz.results86, go_sem]) rfl HE.out
                        | true =>
                          have HNC := Lib.hid (dnumber_any HRK.out (by omega) HY2.out hd2)
                          rw [hd2] at HDC
                          clear hd2
                          obtain ⟨R, hR⟩ : ∃ R, numB (l.drop (k + 1)) = R := ⟨_, rfl⟩
                          rw [hR] at HNC
                          have HAL2 : Hid (allowB (l.drop 7) = if R.2.2 = 0 ∧ R.2.1 = n - (k + 1) then some (xs, R.1) else none) := by
                            show _ = _
                            rw [HAL.out]
                            have e1 : (l.drop 7).drop (k - 7 + 1) = l.drop (k + 1) := by rw [List.drop_drop]; congr 1; omega
                            have e2 : ¬ k - 7 = (l.drop 7).length := by rw [List.length_drop, HLN.out]; omega
                            have e3 : (l.drop 7)[k - 7]? = some 32 := by rw [List.getElem?_drop, show 7 + (k - 7) = k by omega]; exact HY.out
                            rw [e1, hR, if_neg e2, ← HXE.out]
                            have e4 : (l.drop (k + 1)).length = n - (k + 1) := by rw [List.length_drop, HLN.out]
                            rw [e4]
                            by_cases hc : R.2.2 = 0 ∧ R.2.1 = n - (k + 1)
                            · rw [if_pos hc, if_pos ⟨by rw [HXE.out]; exact HLB.out, .inr ⟨e3, hc.1, hc.2⟩⟩]
                            · rw [if_neg hc, if_neg]
                              rintro ⟨_, h | h⟩
                              · exact e2 h
                              · exact hc h.2
                          clear HAL HLB
                          have hkk : ((k + 1 : Nat) : Int) = (k : Int) + 1 := by omega
                          rw [hkk] at HNC
                          clear hkk hR
                          go_wp2_with fail
                          refine HDC.out.mono ?_
                          rintro e w7 ⟨rfl, rfl⟩
                          clear HDC
                          go_wp2_with fail
                          refine HNC.out.mono ?_
                          rintro e w7 ⟨rfl, x9, t9, rfl, ht9, hx9⟩
                          have HX9 := Lib.hid hx9
                          clear HNC hx9
                          have HRs : Hid (Rdx X b (Wt.setCell ⟨TB, 2, none⟩ (.int .i64 x9)) t o tv ts wr 0) := HRS.out _
                          have HBs : Hid (Below b w (Wt.setCell ⟨TB, 2, none⟩ (.int .i64 x9))) := HBx.out.setCell (p := ⟨TB, 2, none⟩) (Nat.le_of_lt hTB) _
                          have HTs : Hid ((Wt.setCell ⟨TB, 2, none⟩ (.int .i64 x9)).heap[TB]? = some (.cells #[.int .i64 19, .string s8, .int .i64 x9, .int .i64 0, .int .i64 0] 94 (0, 0))) := by
                            show _ = _
                            rw [heap_setCell_same _ _ _ _ _ _ HT8.out]; rfl
                          go_upto_region 14 with (fail)
                          change Code.wp _ _ _ _ (Wt.setCell ⟨TB, 2, none⟩ (.int .i64 x9))
                          clear k0 k1 k2 k3 k4 fT HT8 HRx HBx HRK hcy2
                          generalize Wt.setCell ⟨TB, 2, none⟩ (.int .i64 x9) = Ws at *
                          obtain ⟨k0, k1, k2, k3, k4⟩ := cells5 HTs.out
                          have HRx := HRs
                          have HBx := HBs
                          clear HRs HBs HTs
                          by_cases he0 : R.2.2 = 0
                          · obtain ⟨hx0, ht0⟩ := HX9.out he0
                            by_cases hte : t9 = n
                            · have HGOOD : Hid (r = .tok 19 xs x9 0 (n - 1)) := by
                                show _ = _
                                rw [HR2.out, HAL2.out, if_pos ⟨he0, by omega⟩, hx0]
                              have HXF : strOfNums xs = s8 := HS8.out
                              subst HXF
                              rw [he0]
                              have htn : ((t9 : Int) == (n : Int)) = true := by rw [hte]; simp
                              clear HAL2 HX9 hx0 ht0 he0 hte
                              go_wp2_with fail
                              refine (dput_any HRx.out 19 x9 0 0 xs (i := p) (Nat.le_of_lt hp) hts).mono ?_
                              rintro e w9 ⟨rfl, ⟨tv9, hR9⟩, hb9⟩
                              have HE : Hid (StepD X b w p o ts wr r (.returned (.tuple #[])) w9) := by
                                show StepD _ _ _ _ _ _ _ _ _ _
                                rw [HGOOD.out]
                                refine ⟨rfl, HBx.out.trans hb9, tv9, ?_⟩
                                rw [show p + (n - 1) + 1 = t by have := HN.out; omega]
                                exact hR9
                              clear hR9 hb9 HGOOD HRx HBx
                              go_wp2_with fail
                              exact bodyPost_ret (v := .tuple #[]) (by simp [results, Tryz.results86, go_sem]) rfl HE.out
                            · have HBAD : Hid (r = .bad 0 4) := by
                                show _ = _
                                rw [HR2.out, HAL2.out, if_neg (by rintro ⟨_, h⟩; omega)]
                              have g9 : ((t9 : Int) == (n : Int)) = false := by simp only [beq_eq_false_iff_ne]; omega
                              rw [he0]
                              clear HAL2 HX9 hx0 ht0 he0 hte
                              go_wp2_with fail
                              refine (dfail_any HRx.out (i := p) (Nat.le_of_lt hp) 4).mono ?_
                              rintro e w9 ⟨rfl, hR9, hb9⟩
                              rw [if_pos rfl, if_pos rfl] at hR9
                              have HE : Hid (StepD X b w p o ts wr r (.returned (.tuple #[])) w9) := by
                                show StepD _ _ _ _ _ _ _ _ _ _
                                rw [HBAD.out]
                                exact stepD_bad (k := 0) hR9 (HBx.out.trans hb9)
                              clear hR9 hb9 HBAD HRx HBx
                              go_wp2_with fail
                              exact bodyPost_ret (v := .tuple #[]) (by simp [results, Tryz.results86, go_sem]) rfl HE.out
                          · have HBAD : Hid (r = .bad 0 4) := by
                              show _ = _
                              rw [HR2.out, HAL2.out, if_neg (by rintro ⟨h, _⟩; exact he0 h)]
                            have g9 : (R.2.2 == 0) = false := by simpa using he0
                            clear HAL2 HX9 he0
                            generalize R.2.2 = e9 at *
                            go_wp2_with fail
                            refine (dfail_any HRx.out (i := p) (Nat.le_of_lt hp) 4).mono ?_
                            rintro e w9 ⟨rfl, hR9, hb9⟩
                            rw [if_pos rfl, if_pos rfl] at hR9
                            have HE : Hid (StepD X b w p o ts wr r (.returned (.tuple #[])) w9) := by
                              show StepD _ _ _ _ _ _ _ _ _ _
                              rw [HBAD.out]
                              exact stepD_bad (k := 0) hR9 (HBx.out.trans hb9)
                            clear hR9 hb9 HBAD HRx HBx
                            go_wp2_with fail
                            exact bodyPost_ret (v := .tuple #[]) (by simp [results, Tryz.results86, go_sem]) rfl HE.out
                      · skip
                        have HBAD : Hid (r = .bad 0 4) := by
                          show _ = _
                          rw [HR2.out, HAL.out, if_neg (by
                            rintro ⟨_, h⟩
                            rcases h with h | h
                            · rw [List.length_drop, HLN.out] at h; omega
                            · have h2 := h.2.1
                              have e0 : (l.drop 7).drop (k - 7 + 1) = [] := List.drop_eq_nil_of_le (by rw [List.length_drop, HLN.out]; omega)
                              rw [e0] at h2
                              cases h2)]
                        have hk1i : ¬ (k : Int) + 1 < (n : Int) := by omega
                        clear HLB HT8 hk1
                        go_wp2_with fail
                        refine (dfail_any HRx.out (i := p) (Nat.le_of_lt hp) 4).mono ?_
                        rintro e w9 ⟨rfl, hR9, hb9⟩
                        rw [if_pos rfl, if_pos rfl] at hR9
                        have HE : Hid (StepD X b w p o ts wr r (.returned (.tuple #[])) w9) := by
                          show StepD _ _ _ _ _ _ _ _ _ _
                          rw [HBAD.out]
                          exact stepD_bad (k := 0) hR9 (HBx.out.trans hb9)
                        clear hR9 hb9 HBAD HRx HBx
                        go_wp2_with fail
                        exact bodyPost_ret (v := .tuple #[]) (by simp [results, Tryz.results86, go_sem]) rfl HE.out
                    · have g32 : (y == 32) = false := by simpa using hy32
                      have HBAD : Hid (r = .bad 0 4) := by
                        show _ = _
                        rw [HR2.out, HAL.out, if_neg (by
                          rintro ⟨_, h⟩
                          rcases h with h | h
                          · rw [List.length_drop, HLN.out] at h; omega
                          · have h2 := h.1
                            rw [List.getElem?_drop, show 7 + (k - 7) = k by omega, HY.out] at h2
                            injection h2 with h2; exact hy32 h2)]
                      clear HLB HT8 hy32
                      go_wp2_with fail
                      refine (dfail_any HRx.out (i := p) (Nat.le_of_lt hp) 4).mono ?_
                      rintro e w9 ⟨rfl, hR9, hb9⟩
                      rw [if_pos rfl, if_pos rfl] at hR9
                      have HE : Hid (StepD X b w p o ts wr r (.returned (.tuple #[])) w9) := by
                        show StepD _ _ _ _ _ _ _ _ _ _
                        rw [HBAD.out]
                        exact stepD_bad (k := 0) hR9 (HBx.out.trans hb9)
                      clear hR9 hb9 HBAD HRx HBx
                      go_wp2_with fail
                      exact bodyPost_ret (v := .tuple #[]) (by simp [results, Tryz.results86, go_sem]) rfl HE.out
              · have HAL : Hid (allowB (l.drop 7) = _) := W.allow_is (l := l.drop 7) (k := k - 7) (HV.out.many hk7 (by rw [HLN.out]; exact hkn) (fun x hx => by have := (List.getElem?_eq_some_iff.1 hx).1; rw [HLN.out] at this; omega))
                have HKE : Hid (k = n) := by show _ = _; omega
                have gkn : ((k : Int) == (n : Int)) = true := by simp only [beq_iff_eq]; omega
                obtain ⟨xs, hxs⟩ : ∃ xs, xs = (l.drop 7).take (k - 7) := ⟨_, rfl⟩
                have HXS : Hid (∀ x ∈ xs, smB x = true) := fun x hx => by
                  rw [hxs] at hx
                  obtain ⟨j, hj, e⟩ := List.getElem_of_mem hx
                  have hj2 := hj
                  rw [List.length_take, List.length_drop] at hj2
                  have h1 : ((l.drop 7).take (k - 7))[j]? = some x := by rw [List.getElem?_eq_getElem hj, e]
                  rw [List.getElem?_take_of_lt (by omega), List.getElem?_drop] at h1
                  exact HV.out (7 + j) x (by omega) (by omega) h1
                have hxl : xs.length = k - 7 := by rw [hxs, List.length_take, List.length_drop, HLN.out]; omega
                have HXE := Lib.hid hxs
                clear hxs
                by_cases hcl7 : cl = 7
                · subst hcl7
                  obtain rfl : k = 7 := by have := HKE.out; omega
                  obtain rfl : n = 7 := by omega
                  clear gkn
                  have HRX : Hid (RdK .i64 W5 b (some ⟨bA, ol, none⟩) 0 0 xs) := by
                    show RdK _ _ _ _ _ _ _
                    obtain rfl : xs = [] := List.eq_nil_of_length_eq_zero (by omega)
                    exact RdK.zero (by unfold maxLen; omega)
                  have HLT : Hid (∀ x ∈ xs, 0 ≤ x ∧ x < 128) := fun x hx => by
                    have h2 := (dsm_iff x).1 (HXS.out x hx)
                    omega
                  have HC := Lib.hid (dtext_any HRX.out (Nat.le_of_lt HRx.out.size) (by omega) HLT.out)
                  have HST8 : Hid (StrIs (strOfNums xs) xs) := ⟨rfl, fun x hx => by have := HLT.out x hx; omega⟩
                  have HXL := Lib.hid hxl
                  clear HXS HRX HLT hxl
                  generalize hs8 : strOfNums xs = s8 at HC HST8
                  go_wp2_with fail
                  refine HC.out.mono ?_
                  rintro e w6 ⟨rfl, hb6⟩
                  have hpt8 := kbelow_push w6 (.cells #[.int .i64 19, .string s8, .int .i64 (-1), .int .i64 0, .int .i64 0] 94)
                  have HT8 := Lib.hid (heap_alloc_new w6 (.cells #[.int .i64 19, .string s8, .int .i64 (-1), .int .i64 0, .int .i64 0] 94))
                  have hz5 := HRx.out.size
                  have hz6 := hb6.size
                  have HBs : Hid (Below b W5 (w6.alloc (.cells #[.int .i64 19, .string s8, .int .i64 (-1), .int .i64 0, .int .i64 0] 94))) := (hb6.mono (Nat.le_of_lt hz5)).trans (hpt8.mono (by omega))
                  have HRt := Lib.hid ((HRx.out.below hb6).below hpt8)
                  have HRS : Hid (∀ v, Rdx X b ((w6.alloc (.cells #[.int .i64 19, .string s8, .int .i64 (-1), .int .i64 0, .int .i64 0] 94)).setCell ⟨w6.heap.size, 2, none⟩ v) t o tv ts wr 0) := fun v => (HRx.out.below hb6).below (hpt8.setCell (p := ⟨w6.heap.size, 2, none⟩) (Nat.le_refl _) v)
                  have HBt : Hid (Below b w (w6.alloc (.cells #[.int .i64 19, .string s8, .int .i64 (-1), .int .i64 0, .int .i64 0] 94))) := HBx.out.trans HBs.out
                  have HRKt : Hid (RdK .i64 (w6.alloc (.cells #[.int .i64 19, .string s8, .int .i64 (-1), .int .i64 0, .int .i64 0] 94)) b (some ⟨bA, ol, none⟩) 7 7 l) := HRK.out.keep (fun a ha => HBs.out.cell ha)
                  have hTB : b < w6.heap.size := by omega
                  have HS8 := Lib.hid hs8
                  clear hb6 hpt8 HBs HRx HBx HRK HC hz5 hz6 hs8
                  go_wp2_with fail
                  change Calls _ _ _ (w6.alloc (.cells #[.int .i64 19, .string s8, .int .i64 (-1), .int .i64 0, .int .i64 0] 94)) _
                  generalize (w6.alloc (.cells #[.int .i64 19, .string s8, .int .i64 (-1), .int .i64 0, .int .i64 0] 94)) = Wt at *
                  generalize w6.heap.size = TB at *
                  obtain ⟨k0, k1, k2, k3, k4⟩ := cells5 HT8.out
                  have fT : ∀ j, Wt.frozen? ⟨TB, j, none⟩ = false := fun j => frozen_of_row _ _ _ _ _ HT8.out
                  have HRx := HRt
                  have HBx := HBt
                  have HRK := HRKt
                  clear HRt HBt HRKt
                  have HLC := Lib.hid (dletters_any (w := Wt) HST8.out (by have := HXL.out; omega))
                  cases hlb : lettersB xs with
                  | false =>
                    have HBAD : Hid (r = .bad 0 4) := by
                      show _ = _
                      have hlb' : lettersB ((l.drop 7).take (7 - 7)) = false := by rw [← HXE.out]; exact hlb
                      rw [HR2.out, HAL.out, if_neg (by rw [hlb']; intro h; cases h.1)]
                    rw [hlb] at HLC
                    clear hlb
                    refine HLC.out.mono ?_
                    rintro e w7 ⟨rfl, rfl⟩
                    clear HLC HRK
                    go_wp2_with fail
                    refine (dfail_any HRx.out (i := p) (Nat.le_of_lt hp) 4).mono ?_
                    rintro e w9 ⟨rfl, hR9, hb9⟩
                    rw [if_pos rfl, if_pos rfl] at hR9
                    have HE : Hid (StepD X b w p o ts wr r (.returned (.tuple #[])) w9) := by
                      show StepD _ _ _ _ _ _ _ _ _ _
                      rw [HBAD.out]
                      exact stepD_bad (k := 0) hR9 (HBx.out.trans hb9)
                    clear hR9 hb9 HBAD HRx HBx
                    go_wp2_with fail
                    exact bodyPost_ret (v := .tuple #[]) (by simp [results, Tryz.results86, go_sem]) rfl HE.out
                  | true =>
                    have HLB : Hid (lettersB ((l.drop 7).take (7 - 7)) = true) := by show _ = _; rw [← HXE.out]; exact hlb
                    rw [hlb] at HLC
                    clear hlb
                    refine HLC.out.mono ?_
                    rintro e w7 ⟨rfl, rfl⟩
                    clear HLC
                    have HGOOD : Hid (r = .tok 19 xs (-1) 0 (7 - 1)) := by
                      show _ = _
                      rw [HR2.out, HAL.out, if_pos ⟨HLB.out, .inl (by rw [List.length_drop, HLN.out])⟩, HXE.out]
                      show St.tok 19 _ (if 7 - 7 = (l.drop 7).length then -1 else _) 0 (7 - 1) = _
                      rw [if_pos (by rw [List.length_drop, HLN.out])]
                    have HXF : strOfNums xs = s8 := HS8.out
                    subst HXF
                    clear HRK HLB HT8
                    go_wp2_with fail
                    refine (dput_any HRx.out 19 (-1) 0 0 xs (i := p) (Nat.le_of_lt hp) hts).mono ?_
                    rintro e w9 ⟨rfl, ⟨tv9, hR9⟩, hb9⟩
                    have HE : Hid (StepD X b w p o ts wr r (.returned (.tuple #[])) w9) := by
                      show StepD _ _ _ _ _ _ _ _ _ _
                      rw [HGOOD.out]
                      refine ⟨rfl, HBx.out.trans hb9, tv9, ?_⟩
                      rw [show p + (7 - 1) + 1 = t by have := HN.out; omega]
                      exact hR9
                    clear hR9 hb9 HGOOD HRx HBx
                    go_wp2_with fail
                    exact bodyPost_ret (v := .tuple #[]) (by simp [results, Tryz.results86, go_sem]) rfl HE.out
                · skip
                  have HRX : Hid (RdK .i64 W5 b (some ⟨bA, ol + 7, none⟩) (k - 7) (cl - 7) xs) := by
                    show RdK _ _ _ _ _ _ _
                    rw [HXE.out]
                    exact RdK.mid HRK.out (lo := 7) (m := k - 7) (by omega)
                  have HLT : Hid (∀ x ∈ xs, 0 ≤ x ∧ x < 128) := fun x hx => by
                    have h2 := (dsm_iff x).1 (HXS.out x hx)
                    omega
                  have HC := Lib.hid (dtext_any HRX.out (Nat.le_of_lt HRx.out.size) (by omega) HLT.out)
                  have HST8 : Hid (StrIs (strOfNums xs) xs) := ⟨rfl, fun x hx => by have := HLT.out x hx; omega⟩
                  have HXL := Lib.hid hxl
                  clear HXS HRX HLT hxl
                  generalize hs8 : strOfNums xs = s8 at HC HST8
                  go_wp2_with fail
                  refine HC.out.mono ?_
                  rintro e w6 ⟨rfl, hb6⟩
                  have hpt8 := kbelow_push w6 (.cells #[.int .i64 19, .string s8, .int .i64 (-1), .int .i64 0, .int .i64 0] 94)
                  have HT8 := Lib.hid (heap_alloc_new w6 (.cells #[.int .i64 19, .string s8, .int .i64 (-1), .int .i64 0, .int .i64 0] 94))
                  have hz5 := HRx.out.size
                  have hz6 := hb6.size
                  have HBs : Hid (Below b W5 (w6.alloc (.cells #[.int .i64 19, .string s8, .int .i64 (-1), .int .i64 0, .int .i64 0] 94))) := (hb6.mono (Nat.le_of_lt hz5)).trans (hpt8.mono (by omega))
                  have HRt := Lib.hid ((HRx.out.below hb6).below hpt8)
                  have HRS : Hid (∀ v, Rdx X b ((w6.alloc (.cells #[.int .i64 19, .string s8, .int .i64 (-1), .int .i64 0, .int .i64 0] 94)).setCell ⟨w6.heap.size, 2, none⟩ v) t o tv ts wr 0) := fun v => (HRx.out.below hb6).below (hpt8.setCell (p := ⟨w6.heap.size, 2, none⟩) (Nat.le_refl _) v)
                  have HBt : Hid (Below b w (w6.alloc (.cells #[.int .i64 19, .string s8, .int .i64 (-1), .int .i64 0, .int .i64 0] 94))) := HBx.out.trans HBs.out
                  have HRKt : Hid (RdK .i64 (w6.alloc (.cells #[.int .i64 19, .string s8, .int .i64 (-1), .int .i64 0, .int .i64 0] 94)) b (some ⟨bA, ol, none⟩) n cl l) := HRK.out.keep (fun a ha => HBs.out.cell ha)
                  have hTB : b < w6.heap.size := by omega
                  have HS8 := Lib.hid hs8
                  clear hb6 hpt8 HBs HRx HBx HRK HC hz5 hz6 hs8
                  go_wp2_with fail
                  change Calls _ _ _ (w6.alloc (.cells #[.int .i64 19, .string s8, .int .i64 (-1), .int .i64 0, .int .i64 0] 94)) _
                  generalize (w6.alloc (.cells #[.int .i64 19, .string s8, .int .i64 (-1), .int .i64 0, .int .i64 0] 94)) = Wt at *
                  generalize w6.heap.size = TB at *
                  obtain ⟨k0, k1, k2, k3, k4⟩ := cells5 HT8.out
                  have fT : ∀ j, Wt.frozen? ⟨TB, j, none⟩ = false := fun j => frozen_of_row _ _ _ _ _ HT8.out
                  have HRx := HRt
                  have HBx := HBt
                  have HRK := HRKt
                  clear HRt HBt HRKt
                  have HLC := Lib.hid (dletters_any (w := Wt) HST8.out (by have := HXL.out; omega))
                  cases hlb : lettersB xs with
                  | false =>
                    have HBAD : Hid (r = .bad 0 4) := by
                      show _ = _
                      have hlb' : lettersB ((l.drop 7).take (k - 7)) = false := by rw [← HXE.out]; exact hlb
                      rw [HR2.out, HAL.out, if_neg (by rw [hlb']; intro h; cases h.1)]
                    rw [hlb] at HLC
                    clear hlb
                    refine HLC.out.mono ?_
                    rintro e w7 ⟨rfl, rfl⟩
                    clear HLC HRK
                    go_wp2_with fail
                    refine (dfail_any HRx.out (i := p) (Nat.le_of_lt hp) 4).mono ?_
                    rintro e w9 ⟨rfl, hR9, hb9⟩
                    rw [if_pos rfl, if_pos rfl] at hR9
                    have HE : Hid (StepD X b w p o ts wr r (.returned (.tuple #[])) w9) := by
                      show StepD _ _ _ _ _ _ _ _ _ _
                      rw [HBAD.out]
                      exact stepD_bad (k := 0) hR9 (HBx.out.trans hb9)
                    clear hR9 hb9 HBAD HRx HBx
                    go_wp2_with fail
                    exact bodyPost_ret (v := .tuple #[]) (by simp [results, Tryz.results86, go_sem]) rfl HE.out
                  | true =>
                    have HLB : Hid (lettersB ((l.drop 7).take (k - 7)) = true) := by show _ = _; rw [← HXE.out]; exact hlb
                    rw [hlb] at HLC
                    clear hlb
                    refine HLC.out.mono ?_
                    rintro e w7 ⟨rfl, rfl⟩
                    clear HLC
                    have HGOOD : Hid (r = .tok 19 xs (-1) 0 (n - 1)) := by
                      show _ = _
                      rw [HR2.out, HAL.out, if_pos ⟨HLB.out, .inl (by rw [List.length_drop, HLN.out]; have := HKE.out; omega)⟩, HXE.out]
                      show St.tok 19 _ (if k - 7 = (l.drop 7).length then -1 else _) 0 (n - 1) = _
                      rw [if_pos (by rw [List.length_drop, HLN.out]; have := HKE.out; omega)]
                    have HXF : strOfNums xs = s8 := HS8.out
                    subst HXF
                    clear HRK HLB HT8
                    go_wp2_with fail
                    refine (dput_any HRx.out 19 (-1) 0 0 xs (i := p) (Nat.le_of_lt hp) hts).mono ?_
                    rintro e w9 ⟨rfl, ⟨tv9, hR9⟩, hb9⟩
                    have HE : Hid (StepD X b w p o ts wr r (.returned (.tuple #[])) w9) := by
                      show StepD _ _ _ _ _ _ _ _ _ _
                      rw [HGOOD.out]
                      refine ⟨rfl, HBx.out.trans hb9, tv9, ?_⟩
                      rw [show p + (n - 1) + 1 = t by have := HN.out; omega]
                      exact hR9
                    clear hR9 hb9 HGOOD HRx HBx
                    go_wp2_with fail
                    exact bodyPost_ret (v := .tuple #[]) (by simp [results, Tryz.results86, go_sem]) rfl HE.out
          · have HSK : Hid (r = .skip (n - 1)) := by show _ = _; rw [HR1.out, if_neg h7]
            have g7 : ((strOfNums (l.take 7)).toList == [35, 97, 108, 108, 111, 119, 32]) = false := by
              have e : ([35, 97, 108, 108, 111, 119, 32] : List UInt8) = (strOfNums allowP).toList := by kernel_rfl
              rw [e, str_eqB (fun x hx => by have := HL7.out x hx; omega) allow_bd]; exact decide_eq_false h7
            clear h7 HR1 HX0 HL7 HOK
            generalize strOfNums (l.take 7) = s7 at *
            have HE : Hid (StepD X b w p o ts wr r (.returned (.tuple #[])) W5) := by
              show StepD _ _ _ _ _ _ _ _ _ _
              rw [HSK.out]
              refine ⟨rfl, HBx.out, tv, ?_⟩
              rw [show p + (n - 1) + 1 = t by have := HN.out; omega]
              exact HRx.out
            clear HSK HRx HBx HRK
            go_wp2_with fail
            exact bodyPost_ret (v := .tuple #[]) (by simp [results, Tryz.results86, go_sem]) rfl HE.out
end
end Go.Proofs.YtmohefgdpddldaaGreatDoor
namespace Go.Proofs.YtmohefgdpddldaaGreatDoor
open Go.RowKit
open W (Tk St nameS setS numT noteS charsS signK outS inS stepS opn lastK lexS Lx markB dgB ltB smB nmB many numB noLf noBl lettersB allowB allowP)
section
variable {X : Cx} {b : Nat} {w : World} {p o : Nat} {tv : Value} {ts : List Tk} {wr : Int}
set_option maxHeartbeats 2000000 in
theorem dstep_hash (h : Rdx X b w p o tv ts wr 0) (hp : p < X.nc) (hts : ts.length ≤ 3000) (ho : o ≤ 4000) {c : Int} (hc : X.L[p]? = some c) (h35 : c = 35) :
    Calls Tryz.prog 45 #[.pointer (some ⟨b, 0, none⟩)] w (StepD X b w p o ts wr (outS c (X.L.drop (p + 1)))) := by
  obtain ⟨c0, c1, c2, c3, c4, c5, c6⟩ := h.cells
  have hsz := h.size
  obtain ⟨n1, n2, n3⟩ := h.nc
  obtain ⟨bc, offc, xc, hAc, _, hxc, hcell⟩ := h.chars.got hp
  obtain rfl : c = xc := by rw [hc] at hxc; exact Option.some.inj hxc
  rw [hAc] at c0
  have hp0 : (0 : Int) ≤ (p : Int) := by omega
  have hpn : (p : Int) < 3000 := by omega
  have HCO := Lib.hid (drop_at hc)
  have HH := Lib.hid h
  have HN1 := Lib.hid n1
  have HX := Lib.hid hc
  have HA := Lib.hid hAc
  have g35 : (c == 35) = true := by simpa using h35
  have g10 : (c == 10) = false := by rw [h35]; decide
  have H35 := Lib.hid h35
  have HCC := Lib.hid hc
  clear h35
  clear h hAc hxc hc n1 n3
  generalize hr : outS c (X.L.drop (p + 1)) = r
  have HR := Lib.hid hr
  clear hr
  go_enter Tryz.func45, Tryz.ntmps45
  go_wp2_with fail
  go_quiet (fail)
  go_wp2_with fail
  have HLR : Hid (RdK .i64 ((w.drewN nq).alloc (.cells #[.int .i64 61, .int .i64 215, .int .i64 247, .int .i64 40, .int .i64 41, .int .i64 124, .int .i64 42, .int .i64 43, .int .i64 63, .int .i64 46] 3)) ((w.drewN nq).alloc (.cells #[.int .i64 61, .int .i64 215, .int .i64 247, .int .i64 40, .int .i64 41, .int .i64 124, .int .i64 42, .int .i64 43, .int .i64 63, .int .i64 46] 3)).heap.size (some ⟨w.heap.size, 0, none⟩) 10 10 signL) := rd_lit_k (w.drewN nq) w.heap.size rfl .i64 signL 3 _ rfl (by decide)
  have HRW := Lib.hid ((HH.out.drewN nq).below (kbelow_push _ (.cells #[.int .i64 61, .int .i64 215, .int .i64 247, .int .i64 40, .int .i64 41, .int .i64 124, .int .i64 42, .int .i64 43, .int .i64 63, .int .i64 46] 3)))
  have HBW : Hid (Below b w ((w.drewN nq).alloc (.cells #[.int .i64 61, .int .i64 215, .int .i64 247, .int .i64 40, .int .i64 41, .int .i64 124, .int .i64 42, .int .i64 43, .int .i64 63, .int .i64 46] 3))) := (kbelow_drewN (Below.refl b w) nq).trans ((kbelow_push _ _).mono (by show b ≤ w.heap.size; omega))
  generalize (w.drewN nq).alloc (.cells #[.int .i64 61, .int .i64 215, .int .i64 247, .int .i64 40, .int .i64 41, .int .i64 124, .int .i64 42, .int .i64 43, .int .i64 63, .int .i64 46] 3) = W1 at *
  clear c0 c1 c2 c3 c4 c5 c6 hcell
  go_loopw [5] (fun kv wx => ∃ k : Nat, k ≤ 10 ∧ kv = .int .i64 k ∧ W1 = wx ∧ Hid (∀ j y, j < k → signL[j]? = some y → y ≠ c)) (fun kv _ => 10 - (intOf kv).toNat)
  case atStart => exact ⟨0, by omega, rfl, by trivial, fun j y h => by omega⟩
  case round =>
    obtain ⟨k, hk, rfl, rfl, HN⟩ := hrel
    obtain ⟨c0, c1, c2, c3, c4, c5, c6⟩ := HRW.out.cells
    rw [HA.out] at c0
    by_cases hlt : k < 10
    · obtain ⟨bL, oL, z, hAL, _, hz, hcz⟩ := HLR.out.got hlt
      injection hAL with hAL
      injection hAL with e1 e2 _
      subst e1 e2
      rw [Nat.zero_add] at hcz
      have hzc : z ≠ c := fun e => by
        obtain ⟨_, _, _, q4, _⟩ := sign_at hz
        rw [e] at q4
        exact q4 H35.out
      have qz : (z == c) = false := by simpa using hzc
      have HN2 : Hid (∀ j y, j < k + 1 → signL[j]? = some y → y ≠ c) := fun j y hj hy => by
        rcases Nat.lt_or_ge j k with h1 | h1
        · exact HN.out j y h1 hy
        · obtain rfl : j = k := by omega
          rw [hz] at hy; injection hy with hy; subst hy; exact hzc
      clear HN hz hzc
      go_wp2_with fail
      go_roundw
      case rel => exact ⟨k + 1, by omega, by go_num, by trivial, HN2.out⟩
      case measure => simp [intOf]; omega
    · obtain rfl : k = 10 := by omega
      clear HN
      have HNC := Lib.hid (dnote_any HRW.out hp hts (by rw [HCC.out, H35.out]))
      have HS : Hid (r = noteS (X.L.drop p)) := by
        show _ = _
        rw [← HR.out, H35.out]
        unfold W.outS
        rw [if_neg (by decide), if_neg (by decide), if_neg (by decide), if_pos rfl, ← H35.out, ← HCO.out]
      go_wp2_with fail
      refine HNC.out.mono ?_
      rintro e w3 hq
      have HE : Hid (StepD X b w p o ts wr r e w3) := by show StepD _ _ _ _ _ _ _ _ _ _; rw [HS.out]; exact hq.on HBW.out
      obtain rfl := hq.1
      clear hq HNC HS HR
      go_wp2_with fail
      exact bodyPost_ret (v := .tuple #[]) (by simp [results, Tryz.results45, go_sem]) rfl HE.out
theorem dstep_all (h : Rdx X b w p o tv ts wr 0) (hp : p < X.nc) (hts : ts.length ≤ 3000) (ho : o ≤ 4000) {c : Int} (hc : X.L[p]? = some c) :
    Calls Tryz.prog 45 #[.pointer (some ⟨b, 0, none⟩)] w (StepD X b w p o ts wr (outS c (X.L.drop (p + 1)))) := by
  by_cases h35 : c = 35
  · exact dstep_hash h hp hts ho hc h35
  · exact dstep_any h hp hts ho hc h35
end
set_option maxHeartbeats 8000000 in
theorem dof_all {w : World} {A : Option Addr} {n c : Nat} {Bs : List Int} (h : RdK .u8 w w.heap.size A n c Bs) (hb : Byt Bs) :
    Calls Tryz.prog 18 #[.slice A n c] w (OfP5 w Bs) := by
  have hdec := Lib.hid (rdecode_any h hb)
  clear h hb
  go_enter Tryz.func18, Tryz.ntmps18
  go_wp2_with fail
  refine hdec.out.mono ?_
  rintro e w1 ⟨A1, A2, n1, c1, n2, c2, cs, ats, x, er, rfl, r1, r2, hd, hb1⟩
  have HB1 := Lib.hid hb1
  have HD := Lib.hid hd
  by_cases he : er = 0
  · subst he
    obtain ⟨o1, o2, o3, o4⟩ := dec_ok HD.out rfl
    have hx1 : x = -1 := by cases hd; rfl
    subst hx1
    have hk : ∀ q : Addr, q.block < w1.heap.size → (w1.alloc (.cells #[.slice A1 n1 c1, .slice A2 n2 c2, .int .i64 0, .int .i64 0, .slice none 0 0, .int .i64 0, .int .i64 0] 72)).cell? q = w1.cell? q := fun q hq => (kbelow_push w1 (.cells #[.slice A1 n1 c1, .slice A2 n2 c2, .int .i64 0, .int .i64 0, .slice none 0 0, .int .i64 0, .int .i64 0] 72)).cell hq
    have hR0 : Rdx ⟨none, 0, 0, Bs, A1, n1, c1, cs, A2, n2, c2, ats⟩ w1.heap.size (w1.alloc (.cells #[.slice A1 n1 c1, .slice A2 n2 c2, .int .i64 0, .int .i64 0, .slice none 0 0, .int .i64 0, .int .i64 0] 72)) 0 0 (.slice none 0 0) [] 0 0 :=
      ⟨⟨o1, o2, o3, o4⟩, by simp, r1.keep hk, r2.keep hk, Nat.zero_le _, heap_alloc_new w1 _, OwnT.nil _ _⟩
    obtain ⟨R, hR⟩ : ∃ R, lexS cs 0 0 [] = R := ⟨_, rfl⟩
    have HR := Lib.hid hR
    have HA0 : Hid (AtD ⟨none, 0, 0, Bs, A1, n1, c1, cs, A2, n2, c2, ats⟩ w1.heap.size (w1.alloc (.cells #[.slice A1 n1 c1, .slice A2 n2 c2, .int .i64 0, .int .i64 0, .slice none 0 0, .int .i64 0, .int .i64 0] 72)) R (w1.alloc (.cells #[.slice A1 n1 c1, .slice A2 n2 c2, .int .i64 0, .int .i64 0, .slice none 0 0, .int .i64 0, .int .i64 0] 72)) 0 0 (.slice none 0 0) [] 0 0) :=
      ⟨hR0, Below.refl _ _, fun _ => ⟨by rw [List.drop_zero]; exact hR, Nat.le_refl _, Nat.le_refl _, fun h => absurd h (by omega)⟩, fun h => absurd rfl h⟩
    have HBW : Hid (∀ w', Below w1.heap.size (w1.alloc (.cells #[.slice A1 n1 c1, .slice A2 n2 c2, .int .i64 0, .int .i64 0, .slice none 0 0, .int .i64 0, .int .i64 0] 72)) w' → Below w.heap.size w w') := fun w' h => HB1.out.trans (((kbelow_push w1 (.cells #[.slice A1 n1 c1, .slice A2 n2 c2, .int .i64 0, .int .i64 0, .slice none 0 0, .int .i64 0, .int .i64 0] 72)).trans h).mono HB1.out.size)
    have hcl := r1.len
    have HCL := Lib.hid hcl
    clear o1 o2 o3 o4 hk hR0 r1 r2 hd hb1 hdec hR hcl HB1
    go_wp2_with fail
    obtain ⟨X, hX⟩ : ∃ X : Cx, X = ⟨none, 0, 0, Bs, A1, n1, c1, cs, A2, n2, c2, ats⟩ := ⟨_, rfl⟩
    have x1 : X.Ac = A1 := by rw [hX]
    have x2 : X.nc = n1 := by rw [hX]
    have x3 : X.cc = c1 := by rw [hX]
    have x4 : X.L = cs := by rw [hX]
    rw [← hX] at HA0
    have HX := Lib.hid hX
    generalize w1.alloc (.cells #[.slice A1 n1 c1, .slice A2 n2 c2, .int .i64 0, .int .i64 0, .slice none 0 0, .int .i64 0, .int .i64 0] 72) = W0 at *
    generalize w1.heap.size = N at *
    clear hX
    have HX1 := Lib.hid x1
    clear x1
    subst x2 x3 x4
    go_loopw [] (fun wx => ∃ (p o : Nat) (tv : Value) (ts : List Tk) (wrg er : Int), Hid (AtD X N W0 R wx p o tv ts wrg er)) (fun wx => dmeas X.nc N wx)
    case atStart => exact ⟨0, 0, .slice none 0 0, [], 0, 0, HA0.out⟩
    case round =>
      obtain ⟨p, o, tv, ts, wrg, er, HA⟩ := hrel
      obtain ⟨c0, c1, c2, c3, c4, c5, c6⟩ := HA.out.rd.cells
      have f2 := HA.out.rd.fr 2
      have hple := HA.out.rd.le
      obtain ⟨q1, q2, q3⟩ := HA.out.rd.nc
      have HQ1 := Lib.hid q1
      clear q1 q3
      by_cases he : er = 0
      · subst he
        obtain ⟨hl, h1, h2, h3⟩ := HA.out.live rfl
        have HL := Lib.hid hl
        have H3 := Lib.hid h3
        clear hl h3
        by_cases hlt : p < X.nc
        · obtain ⟨bA, oA, x, hA, _, hx, hcx⟩ := HA.out.rd.chars.got hlt
          have HCx := Lib.hid hx
          obtain rfl := HX1.out.symm.trans hA
          have hpi : (p : Int) < (X.nc : Int) := by omega
          have hp0 : (0 : Int) ≤ (p : Int) := by omega
          by_cases hbl : x = 32 ∨ x = 9
          · have hA2 := HA.out.blank hlt HCx.out hbl
            have HA2 := Lib.hid hA2
            have HM2 : Hid (dmeas X.nc N (wr.setCell ⟨N, 2, none⟩ (.int .i64 ((p : Int) + 1))) < dmeas X.nc N wr) := by
              show _ < _
              rw [dmeas_at hA2.rd, dmeas_at HA.out.rd, if_pos rfl, if_pos rfl]
              omega
            clear hx hA2
            have HRR := HA
            rcases hbl with rfl | rfl
            all_goals
              go_wp2_with fail
              go_roundw
              case rel => exact ⟨p + 1, o, tv, ts, wrg, 0, HA2.out⟩
              case measure => exact HM2.out
          · have qb1 : (x == 32) = false := by simp; omega
            have qb2 : (x == 9) = false := by simp; omega
            clear hx
            by_cases ho : 0 < o
            · have hoi : (0 : Int) < (o : Int) := by omega
              have hs := dset_any HA.out.rd hlt (by omega) (by omega) ho (H3.out ho) HCx.out
              rw [show inS (lastK ts) x (X.L.drop (p + 1)) = stepS o ts x (X.L.drop (p + 1)) by unfold W.stepS; rw [if_pos ho]] at hs
              have HS := Lib.hid hs
              have HDM : Hid (dmeas X.nc N wr = X.nc + 1 - p) := by show _ = _; rw [dmeas_at HA.out.rd, if_pos rfl]
              have HNX : Hid (∀ e w2, StepD X N wr p o ts wrg (stepS o ts x (X.L.drop (p + 1))) e w2 → e = .returned (.tuple #[]) ∧ ∃ p' o' tv' ts' wr' er', AtD X N W0 R w2 p' o' tv' ts' wr' er' ∧ dmeas X.nc N w2 < X.nc + 1 - p) := fun e w2 h => HA.out.step hlt HCx.out hbl h
              clear hs HCx
              go_wp2_with fail
              refine HS.out.mono ?_
              intro e w2 hP
              obtain ⟨rfl, p', o', tv', ts', wr', er', hA2, hm2⟩ := HNX.out e w2 hP
              have HA2 := Lib.hid hA2
              have HM2 := Lib.hid hm2
              clear hP hA2 hm2 HS HNX
              go_wp2_with fail
              go_roundw
              case rel => exact ⟨p', o', tv', ts', wr', er', HA2.out⟩
              case measure =>
                show dmeas X.nc N _ < dmeas X.nc N _
                rw [HDM.out]; exact HM2.out
            · have hoi : ¬ (0 : Int) < (o : Int) := by omega
              have hs := dstep_all HA.out.rd hlt (by omega) (by omega) HCx.out
              rw [show outS x (X.L.drop (p + 1)) = stepS o ts x (X.L.drop (p + 1)) by unfold W.stepS; rw [if_neg ho]] at hs
              have HS := Lib.hid hs
              have HDM : Hid (dmeas X.nc N wr = X.nc + 1 - p) := by show _ = _; rw [dmeas_at HA.out.rd, if_pos rfl]
              have HNX : Hid (∀ e w2, StepD X N wr p o ts wrg (stepS o ts x (X.L.drop (p + 1))) e w2 → e = .returned (.tuple #[]) ∧ ∃ p' o' tv' ts' wr' er', AtD X N W0 R w2 p' o' tv' ts' wr' er' ∧ dmeas X.nc N w2 < X.nc + 1 - p) := fun e w2 h => HA.out.step hlt HCx.out hbl h
              clear hs HCx
              go_wp2_with fail
              refine HS.out.mono ?_
              intro e w2 hP
              obtain ⟨rfl, p', o', tv', ts', wr', er', hA2, hm2⟩ := HNX.out e w2 hP
              have HA2 := Lib.hid hA2
              have HM2 := Lib.hid hm2
              clear hP hA2 hm2 HS HNX
              go_wp2_with fail
              go_roundw
              case rel => exact ⟨p', o', tv', ts', wr', er', HA2.out⟩
              case measure =>
                show dmeas X.nc N _ < dmeas X.nc N _
                rw [HDM.out]; exact HM2.out
        · obtain rfl : p = X.nc := by omega
          rw [List.drop_eq_nil_of_le (by rw [HQ1.out]; exact Nat.le_refl _), W.lexS_nil] at HL
          have HBL := Lib.hid HA.out.bel
          by_cases ho : 0 < o
          · have hoi : (0 : Int) < (o : Int) := by omega
            have hRb := HL.out
            rw [if_pos ho] at hRb
            have hfail := Lib.hid (dfail_any HA.out.rd (i := X.nc) (Nat.le_refl _) 5)
            have HE0 : Hid (∀ w', Below N W0 w' → OfP5 w Bs (.returned (.tuple #[.slice none 0 0, .int .i64 (plc X.L X.nc : Nat), .int .i64 5])) w') := fun w' h => ⟨none, 0, 0, [], _, 5, rfl, RdT.nil _ _, .bad X.L ats (-1) HD.out X.nc 5 (HR.out.trans hRb.symm), HBW.out w' h⟩
            clear HD HR HBW hRb HL H3
            go_wp2_with fail
            refine hfail.out.mono ?_
            rintro e w2 ⟨rfl, hR2, hb2⟩
            rw [if_pos rfl, if_pos rfl] at hR2
            clear c0 c1 c2 c3 c4 c5 c6
            obtain ⟨c0, c1, c2, c3, c4, c5, c6⟩ := hR2.cells
            have HB2 := Lib.hid (HBL.out.trans hb2)
            clear hR2 hb2 hfail HA
            go_wp2_with fail
            go_quiet (fail)
            have HE := Lib.hid (HE0.out _ (kbelow_drewN HB2.out nq))
            clear HE0 HB2
            go_wp2_with fail
            exact bodyPost_ret (v := .tuple #[.slice none 0 0, .int .i64 (plc X.L X.nc : Nat), .int .i64 5]) (by simp [results, Tryz.results18, go_sem]) rfl HE.out
          · have hoi : ¬ (0 : Int) < (o : Int) := by omega
            have hRb := HL.out
            rw [if_neg ho] at hRb
            obtain ⟨Av, cv, htv, hrd⟩ := HA.out.rd.row.rd
            rw [List.length_map] at htv hrd
            subst htv
            have HE : Hid (OfP5 w Bs (.returned (.tuple #[.slice Av ts.length cv, .int .i64 (-1), .int .i64 0])) wr) := ⟨Av, ts.length, cv, placed X.L ts, -1, 0, rfl, by rw [HX.out] at hrd; rw [HX.out]; exact hrd, .ok X.L ats (-1) HD.out ts (HR.out.trans hRb.symm), HBW.out wr HBL.out⟩
            clear HD HR HBW hRb HL H3 hrd HA
            go_wp2_with fail
            exact bodyPost_ret (v := .tuple #[.slice Av ts.length cv, .int .i64 (-1), .int .i64 0]) (by simp [results, Tryz.results18, go_sem]) rfl HE.out
      · obtain ⟨k, hRb, hwr⟩ := HA.out.dead he
        have HE0 : Hid (∀ w', Below N W0 w' → OfP5 w Bs (.returned (.tuple #[.slice none 0 0, .int .i64 wrg, .int .i64 er])) w') := fun w' h => ⟨none, 0, 0, [], wrg, er, rfl, RdT.nil _ _, by rw [hwr]; exact .bad X.L ats (-1) HD.out k er (HR.out.trans hRb), HBW.out w' h⟩
        have HBL := Lib.hid HA.out.bel
        have g1 : (er == 0) = false := by simpa using he
        have g2 : (er != 0) = true := by rw [bne_iff_ne]; exact he
        by_cases ho : 0 < o
        · have hoi : (0 : Int) < (o : Int) := by omega
          have hfail := Lib.hid (dfail_any HA.out.rd (i := X.nc) (Nat.le_refl _) 5)
          clear HD HR HBW hRb hwr
          go_wp2_with fail
          refine hfail.out.mono ?_
          rintro e w2 ⟨rfl, hR2, hb2⟩
          rw [if_neg he, if_neg he] at hR2
          clear c0 c1 c2 c3 c4 c5 c6
          obtain ⟨c0, c1, c2, c3, c4, c5, c6⟩ := hR2.cells
          have HB2 := Lib.hid (HBL.out.trans hb2)
          clear hR2 hb2 hfail HA
          go_wp2_with fail
          go_quiet (fail)
          have HE := Lib.hid (HE0.out _ (kbelow_drewN HB2.out nq))
          clear HE0 HB2
          go_wp2_with fail
          exact bodyPost_ret (v := .tuple #[.slice none 0 0, .int .i64 wrg, .int .i64 er]) (by simp [results, Tryz.results18, go_sem]) rfl HE.out
        · have hoi : ¬ (0 : Int) < (o : Int) := by omega
          clear HD HR HBW hRb hwr HA
          go_wp2_with fail
          go_quiet (fail)
          have HE := Lib.hid (HE0.out _ (kbelow_drewN HBL.out nq))
          clear HE0 HBL
          go_wp2_with fail
          exact bodyPost_ret (v := .tuple #[.slice none 0 0, .int .i64 wrg, .int .i64 er]) (by simp [results, Tryz.results18, go_sem]) rfl HE.out
  · have g1 : (er != 0) = true := by simpa using he
    have HE : Hid (OfP5 w Bs (.returned (.tuple #[.slice none 0 0, .int .i64 x, .int .i64 er])) w1) := ⟨none, 0, 0, [], x, er, rfl, RdT.nil _ _, .dec cs ats x er HD.out he, HB1.out⟩
    clear r1 r2 hd hb1 hdec
    go_wp2_with fail
    exact bodyPost_ret (v := .tuple #[.slice none 0 0, .int .i64 x, .int .i64 er]) (by simp [results, Tryz.results18, go_sem]) rfl HE.out
end Go.Proofs.YtmohefgdpddldaaGreatDoor
namespace Go.Proofs.YtmohefgdpddldaaGreatDoor
open Go.RowKit
open Y (Nd It noName zeroN)
open E (okb encB flat offs DecIs Upto)
open W (Tk lexS)
open K (numsOf threeB twoB behindT betweenT brkB rngT txt kidsT partT anyB decT fracL numT lineT itemsT rightB noneB numOk mayB nameB)

def al7B : List Int := [36, 97, 61, 91, 97, 45, 99, 38, 98, 32, 120, 93, 10, 51, 32, 40, 36, 97, 124, 46, 41, 42, 32, 46, 124, 40, 36, 97, 32, 36, 97, 41, 63, 32, 195, 183, 10, 35, 97, 108, 108, 111, 119, 32, 100, 101, 97, 100, 32, 51, 46, 49, 48]
def al7C : List Int := [36, 97, 61, 91, 97, 45, 99, 38, 98, 32, 120, 93, 10, 51, 32, 40, 36, 97, 124, 46, 41, 42, 32, 46, 124, 40, 36, 97, 32, 36, 97, 41, 63, 32, 247, 10, 35, 97, 108, 108, 111, 119, 32, 100, 101, 97, 100, 32, 51, 46, 49, 48]
theorem al7_dec : DecIs al7B al7C (offs 0 al7C ++ [(al7B.length : Int)]) (-1) 0 := .ok al7C (by decide) ⟨fun c hc => List.all_eq_true.1 (show al7C.all okb = true by decide) c hc, by decide, by decide⟩
theorem al7_lex : lexS al7C 0 0 [] = .ok (lexL al7C) := by kernel_rfl
def al7I : List It := (allS al7B.length 540 54 (placed al7C (lexL al7C))).1
def sumI (x : It) : Int × List Int × Int × Bool × List Int × List Int × Bool × Nat := (x.kind, numsOf x.name, x.number, x.cut, txt x.before, txt x.after, mayB x, x.name.size)
def lineU (u : Int × List Int × Int × Bool × List Int × List Int × Bool × Nat) : List Int :=
  if u.1 = 1 then 36 :: u.2.1 ++ [32, 61, 32] ++ u.2.2.2.2.1
  else if u.1 = 2 then numT u.2.2.1 ++ [32] ++ u.2.2.2.2.1 ++ (if u.2.2.2.1 = true then [32, 195, 183, 32] else [32, 195, 151, 32]) ++ u.2.2.2.2.2.1
  else K.allowT ++ u.2.1 ++ if u.2.2.1 = -1 then [] else 32 :: numT u.2.2.1
theorem itemsU_of (l : List It) : itemsT l = (l.map sumI).flatMap fun u => lineU u ++ [10] := by
  unfold K.itemsT
  rw [List.flatMap_map]; rfl
theorem al7_sum : al7I.map sumI = [(1, [97], 0, false, [91, 97, 45, 99, 38, 98, 32, 120, 93], [], true, 1), (2, [], 3000, true, [40, 36, 97, 32, 124, 32, 46, 41, 42, 32, 46, 32, 124, 32, 40, 36, 97, 32, 36, 97, 41, 63], [40, 41], true, 0), (3, [100, 101, 97, 100], 3100, false, [], [], true, 4)] := by kernel_rfl
theorem al7_rest : (allS al7B.length 540 54 (placed al7C (lexL al7C))).2 = (-1, 0) := by kernel_rfl
theorem dd3 : Lib.decDigits 3 = [51] := by rw [Lib.decDigits]; rfl
theorem dd10 : Lib.decDigits 10 = [49, 48] := by rw [Lib.decDigits, dif_neg (by decide), show 10 / 10 = 1 by rfl, Lib.decDigits]; rfl
theorem dd100 : Lib.decDigits 100 = [49, 48, 48] := by rw [Lib.decDigits, dif_neg (by decide), show 100 / 10 = 10 by rfl, dd10]; rfl
theorem dd1000 : Lib.decDigits 1000 = [49, 48, 48, 48] := by rw [Lib.decDigits, dif_neg (by decide), show 1000 / 10 = 100 by rfl, dd100]; rfl
theorem dd11 : Lib.decDigits 11 = [49, 49] := by rw [Lib.decDigits, dif_neg (by decide), show 11 / 10 = 1 by rfl, Lib.decDigits]; rfl
theorem dd110 : Lib.decDigits 110 = [49, 49, 48] := by rw [Lib.decDigits, dif_neg (by decide), show 110 / 10 = 11 by rfl, dd11]; rfl
theorem dd1100 : Lib.decDigits 1100 = [49, 49, 48, 48] := by rw [Lib.decDigits, dif_neg (by decide), show 1100 / 10 = 110 by rfl, dd110]; rfl
theorem num3000 : numT 3000 = [51] := by
  have e1 : Lib.itoa ((3000 : Int) / 1000) = [51] := by show Lib.itoa 3 = _; unfold Lib.itoa; rw [if_neg (by decide)]; exact dd3
  have e2 : Lib.itoa (1000 + (3000 : Int) % 1000) = [49, 48, 48, 48] := by show Lib.itoa 1000 = _; unfold Lib.itoa; rw [if_neg (by decide)]; exact dd1000
  unfold K.numT K.decT K.fracL
  rw [e1, e2]
  rfl
theorem num3100 : numT 3100 = [51, 46, 49] := by
  have e1 : Lib.itoa ((3100 : Int) / 1000) = [51] := by show Lib.itoa 3 = _; unfold Lib.itoa; rw [if_neg (by decide)]; exact dd3
  have e2 : Lib.itoa (1000 + (3100 : Int) % 1000) = [49, 49, 48, 48] := by show Lib.itoa 1100 = _; unfold Lib.itoa; rw [if_neg (by decide)]; exact dd1100
  unfold K.numT K.decT K.fracL
  rw [e1, e2]
  rfl
theorem al7_len : al7I.length = 3 := by have := congrArg List.length al7_sum; rwa [List.length_map] at this
theorem al7_all : al7I.all mayB = true := by
  have : al7I.all mayB = (al7I.map sumI).all fun u => u.2.2.2.2.2.2.1 := by rw [List.all_map]; rfl
  rw [this, al7_sum]; rfl
theorem al7_name : ∀ x ∈ al7I, x.name.size ≤ 140737488355328 := fun x hx => by
  have h : sumI x ∈ al7I.map sumI := List.mem_map_of_mem hx
  rw [al7_sum] at h
  have h2 : x.name.size = (sumI x).2.2.2.2.2.2.2 := rfl
  rw [h2]
  simp only [List.mem_cons, List.not_mem_nil, or_false] at h
  rcases h with h | h | h <;> rw [h] <;> decide
def al7T : List Int := [36, 97, 32, 61, 32, 91, 97, 45, 99, 38, 98, 32, 120, 93, 10, 51, 32, 40, 36, 97, 32, 124, 32, 46, 41, 42, 32, 46, 32, 124, 32, 40, 36, 97, 32, 36, 97, 41, 63, 32, 195, 183, 32, 40, 41, 10, 35, 97, 108, 108, 111, 119, 32, 100, 101, 97, 100, 32, 51, 46, 49, 10]
theorem al7_text : itemsT al7I = al7T := by
  rw [itemsU_of, al7_sum]
  simp only [List.flatMap_cons, List.flatMap_nil]
  unfold lineU
  simp only [num3000, num3100]
  rfl
theorem al7_items : K.itemsR al7I = (al7T, 0) := by
  unfold K.itemsR K.okL
  rw [al7_all, al7_len, al7_text]
  rfl
end Go.Proofs.YtmohefgdpddldaaGreatDoor
namespace Go.Proofs.YtmohefgdpddldaaGreatDoor
open Go.RowKit
open Y (Nd It noName zeroN)
open E (okb encB flat offs DecIs Upto)
open W (Tk lexS)
open K (numsOf threeB twoB behindT betweenT brkB rngT txt kidsT partT anyB decT fracL numT lineT itemsT rightB noneB numOk mayB nameB)

theorem form5 : K.formR (.mk 5 noName 0 0 []) = ([], 1) := by kernel_rfl
theorem form1 : K.formR (.mk 1 noName 0 0 []) = ([40, 41], 0) := by kernel_rfl
theorem right3 : rightB (.mk 3 noName 0 0 []) = true := by kernel_rfl
theorem leaf_rd (k : Int) (W : World) : RdN W (Lt W) none 0 0 (Nd.mk k noName 0 0 []).kids := RdN.nil _ _
set_option maxHeartbeats 8000000 in
theorem alive7_any {w : World} (hT : TbB w.heap.size w) : Calls Tryz.prog 7 #[] w (BooK w true) := by
  have HT := Lib.hid hT
  clear hT
  go_enter Tryz.func7, Tryz.ntmps7
  have q0 := Lib.run_convert_bytes_const w 41 5 #[.int .u8 36, .int .u8 97, .int .u8 61, .int .u8 91, .int .u8 97, .int .u8 45, .int .u8 99, .int .u8 38, .int .u8 98, .int .u8 32, .int .u8 120, .int .u8 93, .int .u8 10, .int .u8 51, .int .u8 32, .int .u8 40, .int .u8 36, .int .u8 97, .int .u8 124, .int .u8 46, .int .u8 41, .int .u8 42, .int .u8 32, .int .u8 46, .int .u8 124, .int .u8 40, .int .u8 36, .int .u8 97, .int .u8 32, .int .u8 36, .int .u8 97, .int .u8 41, .int .u8 63, .int .u8 32, .int .u8 195, .int .u8 183, .int .u8 10, .int .u8 35, .int .u8 97, .int .u8 108, .int .u8 108, .int .u8 111, .int .u8 119, .int .u8 32, .int .u8 100, .int .u8 101, .int .u8 97, .int .u8 100, .int .u8 32, .int .u8 51, .int .u8 46, .int .u8 49, .int .u8 48] 53 53 Tryz.underlying41 Tryz.underlying5
  go_wp2_with fail
  clear q0
  refine (pof_any (rd_lit_m w (53, 54) .u8 al7B _ _ rfl (by decide)) (dof_all (rd_lit_m w (53, 54) .u8 al7B _ _ rfl (by decide)) (byt_of (by decide))) (by decide) 540 54 (by decide) (by decide)).mono ?_
  rintro e w1 ⟨r, hi, A1, c1, rfl, hr, hb⟩
  obtain rfl := items_one al7_dec al7_lex hi
  rw [al7_rest]
  have hr' : RdI6 w1 (Lt w1) A1 (allS al7B.length 540 54 (placed al7C (lexL al7C))).1.length c1 al7I := hr.keep (fun _ hi => hi.2) (fun _ _ => rfl)
  have hl3 : (allS al7B.length 540 54 (placed al7C (lexL al7C))).1.length = 3 := al7_len
  rw [hl3] at hr' ⊢
  have HB1 := Lib.hid ((kbelow_push w _).trans (hb.mono (by simp)))
  have HR1 := Lib.hid hr'
  have hit := iitems_any hr' al7_name (HT.out.up HB1.out)
  rw [al7_items] at hit
  have HIT := Lib.hid hit
  clear hi hr hr' hl3 hb hit
  go_wp2_with fail
  refine HIT.out.mono ?_
  rintro e w2 ⟨rfl, hb⟩
  have HB2 := Lib.hid (HB1.out.trans (hb.mono HB1.out.size))
  have HR2 := Lib.hid (HR1.out.on hb)
  have hf5 := iform_any (leaf_rd 5 w2) (HT.out.up HB2.out)
  rw [form5] at hf5
  have HF5 := Lib.hid hf5
  have hstr : strOfNums al7T = ⟨#[36, 97, 32, 61, 32, 91, 97, 45, 99, 38, 98, 32, 120, 93, 10, 51, 32, 40, 36, 97, 32, 124, 32, 46, 41, 42, 32, 46, 32, 124, 32, 40, 36, 97, 32, 36, 97, 41, 63, 32, 195, 183, 32, 40, 41, 10, 35, 97, 108, 108, 111, 119, 32, 100, 101, 97, 100, 32, 51, 46, 49, 10]⟩ := by kernel_rfl
  have HS1 := Lib.hid hstr
  rw [show (al7T, (0 : Int)).1 = al7T from rfl, hstr]
  clear hb HB1 HR1 HIT hf5 hstr
  go_wp2_with fail
  refine HF5.out.mono ?_
  rintro e w3 ⟨rfl, hb⟩
  have HB3 := Lib.hid (HB2.out.trans (hb.mono HB2.out.size))
  have HR3 := Lib.hid (HR2.out.on hb)
  have hf1 := iform_any (leaf_rd 1 w3) (HT.out.up HB3.out)
  rw [form1] at hf1
  have HF1 := Lib.hid hf1
  clear hb HB2 HR2 HF5 hf1
  go_wp2_with fail
  refine HF1.out.mono ?_
  rintro e w4 ⟨rfl, hb⟩
  have HB4 := Lib.hid (HB3.out.trans (hb.mono HB3.out.size))
  have HR4 := Lib.hid (HR3.out.on hb)
  have hr3 := right_any (leaf_rd 3 w4)
  rw [right3] at hr3
  have HRI := Lib.hid hr3
  have hs40 : strOfNums [40, 41] = ⟨#[40, 41]⟩ := rfl
  rw [show (([40, 41] : List Int), (0 : Int)).1 = [40, 41] from rfl, hs40]
  clear hb HB3 HR3 HF1 hr3 hs40
  go_wp2_with fail
  refine HRI.out.mono ?_
  rintro e w5 ⟨rfl, hb⟩
  have HB5 := Lib.hid (HB4.out.trans (hb.mono HB4.out.size))
  have HR5 := HR4.out.on hb
  obtain ⟨b1, o1, x, Ab, Aa, nb, cb, na, ca, hA, hb1, hx, hk1, hk2, hc1⟩ := HR5.got (i := 0) (by decide)
  subst hA
  simp only [Nat.zero_mul, Nat.add_zero] at hc1
  obtain ⟨s0, s1, s2, s3, s4, s5, s6, s7, s8, s9, s10, s11, s12, s13, s14⟩ := it_cells hc1
  have hm := may_any (al7_name x (List.mem_of_getElem? hx)) hk1 hk2
  rw [List.all_eq_true.1 al7_all x (List.mem_of_getElem? hx)] at hm
  have HM := Lib.hid hm
  clear hb HB4 HR4 HR5 HRI hx hk1 hk2 hc1 hm hb1
  go_wp2_with fail
  refine HM.out.mono ?_
  rintro e w6 ⟨rfl, hb⟩
  have HB6 := Lib.hid (HB5.out.trans (hb.mono HB5.out.size))
  clear hb HM HB5
  go_wp2_with fail
  go_ret
  exact ⟨rfl, HB6.out⟩
end Go.Proofs.YtmohefgdpddldaaGreatDoor
namespace Go.Proofs.YtmohefgdpddldaaGreatDoor
open Go.RowKit
open Y (Nd It noName)

/-- Cells of several of fifteen each. -/
def cells15L (f : Nat → List Value) (m : Nat) : List Value := (List.range m).flatMap f
theorem cells15L_succ (f : Nat → List Value) (m : Nat) : cells15L f (m + 1) = cells15L f m ++ f m := by unfold cells15L; rw [List.range_succ, List.flatMap_append]; simp
theorem cells15L_len {f : Nat → List Value} : ∀ (m : Nat), (∀ i, i < m → (f i).length = 15) → (cells15L f m).length = m * 15
  | 0, _ => rfl
  | m + 1, h => by
    rw [cells15L_succ, List.length_append, cells15L_len m (fun i hi => h i (by omega)), h m (by omega)]; omega
theorem cells15L_at {f : Nat → List Value} : ∀ (m : Nat), (∀ i, i < m → (f i).length = 15) → ∀ i k, i < m → k < 15 → (cells15L f m)[i * 15 + k]? = (f i)[k]?
  | 0, _, i, k, hi, _ => absurd hi (by omega)
  | m + 1, h, i, k, hi, hk => by
    have hl := cells15L_len m (fun i hi => h i (by omega))
    rw [cells15L_succ]
    rcases Nat.lt_or_ge i m with h1 | h1
    · rw [List.getElem?_append_left (by omega)]
      exact cells15L_at m (fun i hi => h i (by omega)) i k h1 hk
    · obtain rfl : i = m := by omega
      rw [List.getElem?_append_right (by omega), hl]
      congr 1; omega
theorem cells15L_cut {f : Nat → List Value} {m : Nat} (h : ∀ i, i < m → (f i).length = 15) {i : Nat} (hi : i < m) : ((cells15L f m).drop (i * 15)).take 15 = f i := by
  refine List.ext_getElem? fun k => ?_
  rcases Nat.lt_or_ge k 15 with hk | hk
  · rw [List.getElem?_take_of_lt hk, List.getElem?_drop, cells15L_at m h i k hi hk]
  · rw [List.getElem?_eq_none (by rw [List.length_take]; omega), List.getElem?_eq_none (by rw [h i hi]; exact hk)]
/-- A row of items of one's own, whose forms lie elsewhere. -/
def OwnA (w : World) (B : Nat) (S : Nat → Prop) (v : Value) (l : List It) : Prop := ∃ cs, w.ownsRow B 35 15 v l.length cs ∧ ∀ i x, l[i]? = some x → ItAt w S ((cs.drop (i * 15)).take 15) x
theorem OwnA.lit (w : World) (S : Nat → Prop) : OwnA (w.alloc (.cells #[] 35)) w.heap.size S (.slice (some ⟨w.heap.size, 0, none⟩) 0 0) [] :=
  ⟨[], World.ownsRow_lit w #[] 0 (Nat.le_refl _) (by unfold maxLen; omega) rfl, fun i x hx => by simp at hx⟩
theorem OwnA.rd {w : World} {B : Nat} {S : Nat → Prop} {v : Value} {l : List It} (h : OwnA w B S v l) (hS : ∀ b, S b → b < w.heap.size) : ∃ A c, v = .slice A l.length c ∧ RdI6 w (Lt w) A l.length c l := by
  obtain ⟨cs, ho, hk⟩ := h
  have hs : ∀ i x, l[i]? = some x → ItAt w (Lt w) ((cs.drop (i * 15)).take 15) x := fun i x hx => (hk i x hx).keep hS (fun _ _ => rfl)
  rcases ho.2 with ⟨h1, h2⟩ | ⟨g, cap, cur, h1, hB, hg, h3, h4, _, _⟩
  · subst h1
    have : l = [] := List.eq_nil_of_length_eq_zero h2
    subst this
    exact ⟨none, 0, rfl, RdI6.nil _ _⟩
  · subst h1
    have hlt : g < w.heap.size := by
      rcases Nat.lt_or_ge g w.heap.size with hlt | hge
      · exact hlt
      · rw [Array.getElem?_eq_none hge] at hg; cases hg
    refine ⟨_, cap, rfl, rfl, h3, h4, fun i => (cs.drop (i * 15)).take 15, fun _ => ⟨g, 0, rfl, hlt, fun i hi j u hu => ?_⟩, hs⟩
    rw [← kadd_none]
    have hj : j < 15 := by
      have := (List.getElem?_eq_some_iff.1 hu).1; rw [List.length_take] at this; omega
    rw [List.getElem?_take_of_lt hj, List.getElem?_drop] at hu
    exact World.ownsRow.cells ho (g := g) rfl _ _ hu
theorem OwnA.block {w : World} {B : Nat} {S : Nat → Prop} {v : Value} {l : List It} (h : OwnA w B S v l) : ∀ i, v.ownBlock = some i → B ≤ i ∧ i < w.heap.size := by
  obtain ⟨cs, ho, _⟩ := h
  exact World.ownsRow.lt ho
theorem itAt_cells {w : World} {S : Nat → Prop} {cs : List Value} {x : It} (h : ItAt w S cs x) : cs.length = 15 ∧ ∀ u ∈ cs, u.oneCell' = true := by
  obtain ⟨Ab, nb, cb, Aa, na, ca, rfl, _, _⟩ := h
  refine ⟨rfl, fun u hu => ?_⟩
  unfold itC at hu
  simp only [List.mem_cons, List.not_mem_nil, or_false] at hu
  rcases hu with rfl | rfl | rfl | rfl | rfl | rfl | rfl | rfl | rfl | rfl | rfl | rfl | rfl | rfl | rfl <;> rfl
/-- What an append of items, of which there may be none, comes to. -/
theorem run_app_its {w : World} (ty : TypeId) {B : Nat} {S : Nat → Prop} (hSB : ∀ b, S b → b < B) {v : Value} {l : List It} (hown : OwnA w B S v l) {A : Option Addr} {m c : Nat} {news : List It} (hr : RdI6 w S A m c news) (h63 : l.length + m ≤ 1000000) (hbase : B ≤ w.heap.size) :
    ∃ v' w', (Builtin.append_ #[25, 25] ty #[v, .slice A m c]).run Tryz.prog w = .ok v' w' ∧ OwnA w' B S v' (l ++ news) ∧ w.grownBy w' v.ownBlock := by
  obtain ⟨i0, hi0, hz0, hz1, hz2⟩ := info_k info_it
  obtain ⟨cs, ho, hk⟩ := hown
  have hkeep : ∀ {w' : World} {cs' : List Value} {x : It}, w.grownBy w' v.ownBlock → ItAt w S cs' x → ItAt w' S cs' x := fun hg h => h.keep (fun _ h => h) fun p hp => World.cell?_of_block (hg.block p.block (by have := hSB _ hp; omega) (fun e => by have := (World.ownsRow.lt ho _ e.symm).1; have := hSB _ hp; omega))
  rcases Nat.eq_zero_or_pos m with h0 | h0
  · subst h0
    obtain rfl : news = [] := List.eq_nil_of_length_eq_zero hr.len
    rw [List.append_nil]
    cases A with
    | none =>
      refine ⟨v, w, ?_, ⟨cs, ho, hk⟩, grown_refl w _⟩
      rcases ho.2 with ⟨rfl, h1⟩ | ⟨g, cap, cur, rfl, _, _, hnc, _⟩
      · rw [h1] at *
        simp [Builtin.append_, run_underlying Tryz.underlying25, sizeOf, typeInfo, hi0, Builtin.lenOf, Builtin.firstCells]
      · simp [Builtin.append_, run_underlying Tryz.underlying25, sizeOf, typeInfo, hi0, Builtin.lenOf, Builtin.firstCells, hnc, storeCells]
    | some ad =>
      obtain ⟨v', w', hrun, h2, h3, _, _⟩ := run_append_own_at (P := Tryz.prog) w B 25 ty 35 i0 _ 15 176 Tryz.underlying25 hi0 hz0 hz1 hz2 rfl (by decide) v l.length cs ho ad 0 c [] rfl (fun j u hu => by simp at hu) (fun u hu => by simp at hu) (by unfold maxLen; omega) (by omega) hbase
      refine ⟨v', w', hrun, ⟨cs, by simpa using h2, fun i x hx => hkeep h3 (hk i x hx)⟩, h3⟩
  · obtain ⟨hl, hc, hcm, f, hat, hit⟩ := hr
    obtain ⟨b, off, rfl, hb, hcc⟩ := hat h0
    have hf : ∀ i, i < m → (f i).length = 15 := fun i hi => (itAt_cells (hit i _ (List.getElem?_eq_getElem (by omega)))).1
    have hnl := cells15L_len m hf
    obtain ⟨v', w', hrun, h2, h3, _, _⟩ := run_append_own_at (P := Tryz.prog) w B 25 ty 35 i0 _ 15 176 Tryz.underlying25 hi0 hz0 hz1 hz2 rfl (by decide) v l.length cs ho ⟨b, off, none⟩ m c (cells15L f m) hnl
      (fun j u hu => by
        have hj : j < m * 15 := by rw [← hnl]; exact (List.getElem?_eq_some_iff.1 hu).1
        have hjm : j / 15 < m := by omega
        have e : j = j / 15 * 15 + j % 15 := by omega
        rw [e, cells15L_at m hf _ _ hjm (by omega)] at hu
        rw [kadd_none]
        have := hcc (j / 15) hjm (j % 15) u hu
        rwa [← e] at this)
      (fun u hu => by
        unfold cells15L at hu
        obtain ⟨i, hi, hu⟩ := List.mem_flatMap.1 hu
        rw [List.mem_range] at hi
        exact (itAt_cells (hit i _ (List.getElem?_eq_getElem (by omega)))).2 u hu)
      (by unfold maxLen; omega) (by omega) hbase
    refine ⟨v', w', hrun, ⟨cs ++ cells15L f m, by rw [List.length_append, hl]; exact h2, fun i y hy => ?_⟩, h3⟩
    have hcl : cs.length = l.length * 15 := ho.1
    rcases Nat.lt_or_ge i l.length with hi | hi
    · rw [List.getElem?_append_left hi] at hy
      rw [List.drop_append_of_le_length (by omega), List.take_append_of_le_length (by rw [List.length_drop]; omega)]
      exact hkeep h3 (hk i y hy)
    · rw [List.getElem?_append_right hi] at hy
      have him : i - l.length < m := by have := (List.getElem?_eq_some_iff.1 hy).1; omega
      have e : (cs ++ cells15L f m).drop (i * 15) = (cells15L f m).drop ((i - l.length) * 15) := by
        rw [List.drop_append, List.drop_eq_nil_of_le (by omega), List.nil_append, hcl]
        congr 1; omega
      rw [e, cells15L_cut hf him]
      exact hkeep h3 (hit _ _ hy)
theorem app_its {w : World} {ops : Array Oper} {rest : List Oper} {o : Oper} {a : Act} {Q : Exit → Act → World → Prop} (hgd : o.guard = none) (s x : Operand)
    (ho : o.op = .call { callee := .builtin .append, args := #[s, x], argTypes := #[25, 25] })
    (B : Nat) (S : Nat → Prop) (hSB : ∀ b, S b → b < B) (v : Value) (l : List It) (hs : a.eval s = v) (hown : OwnA w B S v l) (A : Option Addr) (m c : Nat) (news : List It) (hx : a.eval x = .slice A m c) (hr : RdI6 w S A m c news) (h63 : l.length + m ≤ 1000000) (hbase : B ≤ w.heap.size)
    (h : ∀ v' w', OwnA w' B S v' (l ++ news) → w.grownBy w' v.ownBlock → wpList Tryz.prog ops Q rest (a.put o.dst v') w') : wpList Tryz.prog ops Q (o :: rest) a w := by
  refine wpList_plain hgd fun K hK => ?_
  obtain ⟨v', w', hrun, h2, h3⟩ := run_app_its o.type hSB hown hr h63 hbase
  unfold Oper.wp execOp
  simp only [ho, resolve, invoke, builtin, Sem.run_bind, Sem.run_pure, Result.andThen_ok, List.map_toArray, List.map_cons, List.map_nil, hs, hx, hrun]
  exact hK _ _ (h v' w' h2 h3)
end Go.Proofs.YtmohefgdpddldaaGreatDoor
namespace Go.Proofs.YtmohefgdpddldaaGreatDoor
open Go.RowKit
open Y (Nd It)

mutual
/-- No name is longer than memory bears. -/
def Y.Nd.small : Nd → Prop
  | .mk _ s _ _ l => s.size ≤ 140737488355328 ∧ Y.smallL l
def Y.smallL : List Nd → Prop
  | [] => True
  | x :: t => Y.Nd.small x ∧ Y.smallL t
end
theorem small_kids {x : Nd} (h : x.small) : x.name.size ≤ 140737488355328 ∧ Y.smallL x.kids := by
  cases x with
  | mk k s lo hi l => rw [Y.Nd.small] at h; exact h
theorem small_mem {l : List Nd} (h : Y.smallL l) {i : Nat} {y : Nd} (hy : l[i]? = some y) : y.small := by
  induction l generalizing i with
  | nil => simp at hy
  | cons z t ih =>
    rw [Y.smallL] at h
    cases i with
    | zero => simp at hy; subst hy; exact h.1
    | succ i => exact ih h.2 (by simpa using hy)
/-- What Weight answers. -/
def WeighP (w : World) (x : Nd) (d : Int) (e : Ending) (w' : World) : Prop := ∃ i : Int, e = .returned (.int .i64 i) ∧ 0 ≤ i ∧ i ≤ 140737488358329 + 2000 * (101 - d) ∧ (i ≤ 2000 → (x.size : Int) ≤ i) ∧ Below w.heap.size w w'
def WeighK (k : Nat) : Prop := ∀ (x : Nd), x.size ≤ k → x.small → ∀ (d : Int), 0 ≤ d → d ≤ 101 → ∀ (w : World) (A : Option Addr) (n c : Nat), RdN w (Lt w) A n c x.kids →
  Calls Tryz.prog 8 #[.agg #[.int .i64 x.kind, .string x.name, .int .i64 x.low, .int .i64 x.high, .slice A n c], .int .i64 d] w (WeighP w x d)
set_option maxHeartbeats 8000000 in
theorem weigh_all : ∀ k : Nat, WeighK k := by
  intro k
  induction k with
  | zero => intro x h; have := Nd.size_pos x; omega
  | succ k ih =>
    intro x hk hsmall d hd0 hd1 w A n c ha
    have hkids := size_kids x
    obtain ⟨hnm, hsl⟩ := small_kids hsmall
    have hn := ha.len
    have hsm := ha.small
    have HP := Lib.hid (kbelow_push w (.cells #[.int .i64 x.kind, .string x.name, .int .i64 x.low, .int .i64 x.high, .slice A n c] 24))
    have HROW := Lib.hid (heap_alloc_new w (.cells #[.int .i64 x.kind, .string x.name, .int .i64 x.low, .int .i64 x.high, .slice A n c] 24))
    have HA := Lib.hid (ha.on HP.out)
    have hz : (w.alloc (.cells #[.int .i64 x.kind, .string x.name, .int .i64 x.low, .int .i64 x.high, .slice A n c] 24)).heap.size = w.heap.size + 1 := by simp
    generalize hs : x.size = sz at *
    generalize hl : x.kids = l at *
    have HWP : Hid (∀ (i : Int) (w' : World), 0 ≤ i → i ≤ 140737488358329 + 2000 * (101 - d) → (i ≤ 2000 → (sz : Int) ≤ i) → Below w.heap.size w w' → WeighP w x d (.returned (.int .i64 i)) w') := fun i w' h1 h2 h3 h4 => ⟨i, rfl, h1, h2, by rw [hs]; exact h3, h4⟩
    have HKS := Lib.hid hkids
    have HK := Lib.hid hk
    have HSL := Lib.hid hsl
    have hnm0 : (0 : Int) ≤ (x.name.size : Int) := by omega
    have hnm1 : (x.name.size : Int) ≤ 140737488355328 := by omega
    clear ha hs hl hkids hk hsl hsmall hnm
    by_cases h100 : 100 < d
    · have HE := Lib.hid (HWP.out 3000 _ (by decide) (by omega) (by omega) HP.out)
      clear HWP HROW HA HP HKS HK HSL
      go_enter Tryz.func8, Tryz.ntmps8
      go_wp2_with fail
      go_ret
      exact HE.out
    · have g1 : ¬ (100 < d) := h100
      go_enter Tryz.func8, Tryz.ntmps8
      go_wp2_with fail
      generalize w.alloc (.cells #[.int .i64 x.kind, .string x.name, .int .i64 x.low, .int .i64 x.high, .slice A n c] 24) = W1 at *
      go_loopw [5, 6] (fun sv iv wx => ∃ (j : Nat) (S : Int), j ≤ n ∧ iv = .int .i64 j ∧ sv = .int .i64 S ∧ 1 ≤ S ∧ S ≤ 140737488358329 + 2000 * (101 - d) ∧ Hid (S ≤ 2000 → ((Y.sizeL (l.take j) + 1 : Nat) : Int) ≤ S) ∧ Hid (Below W1.heap.size W1 wx)) (fun _ iv _ => n - (intOf iv).toNat)
      case atStart => exact ⟨0, 1 + x.name.size, by omega, rfl, rfl, by omega, by omega, (by show _ → _; intro _; rw [List.take_zero]; show ((0 + 1 : Nat) : Int) ≤ _; omega), Below.refl _ _⟩
      case round =>
        obtain ⟨j, S, hj, rfl, rfl, hS0, hS1, HS, HB⟩ := hrel
        have HA2 := Lib.hid (HA.out.on HB.out)
        obtain ⟨r0, r1, r2, r3, r4⟩ := cells5 ((HB.out.block w.heap.size (by omega)).trans HROW.out)
        by_cases hlt : j < n
        · by_cases h2 : S ≤ 2000
          · obtain ⟨b1, o1, y, A1, n1, c1, hA1, hb1, hy, hr1, s0, s1, s2, s3, s4⟩ := HA2.out.got hlt
            subst hA1
            have HY := Lib.hid hy
            have HR1 := Lib.hid hr1
            have hj0 : (0 : Int) ≤ (j : Int) := by omega
            have hj1 : (j : Int) < (n : Int) := by omega
            have hyk : y.size ≤ k := by have := size_mem hy; have h1 := HKS.out; have h2 := HK.out; omega
            have HC := Lib.hid (ih y hyk (small_mem HSL.out hy) (d + 1) (by omega) (by omega) _ A1 n1 c1 hr1)
            have HST : Hid (((Y.sizeL (l.take (j + 1)) + 1 : Nat) : Int) = ((Y.sizeL (l.take j) + 1 : Nat) : Int) + (y.size : Int)) := by
              show _ = _
              rw [sizeL_take hy]; omega
            clear hy hr1 hb1 HA2 hyk HR1
            go_wp2_with fail
            refine HC.out.mono ?_
            rintro en w3 ⟨T, rfl, hT0, hT1, hT2, hb3⟩
            have HS2 : Hid (S + T ≤ 2000 → ((Y.sizeL (l.take (j + 1)) + 1 : Nat) : Int) ≤ S + T) := by
              show _ → _
              intro h
              have e1 := HS.out (by omega)
              have e2 := hT2 (by omega)
              rw [HST.out]; omega
            have HB3 := Lib.hid (HB.out.trans (hb3.mono HB.out.size))
            clear hb3 hT2 HC HS HST HB HY
            go_wp2_with fail
            go_roundw
            case rel => exact ⟨j + 1, S + T, by omega, by go_num, rfl, by omega, by omega, HS2.out, HB3.out⟩
            case measure => simp [intOf]; omega
          · have HE := Lib.hid (HWP.out S wr (by omega) hS1 (fun h => absurd h h2) (HP.out.trans (HB.out.mono HP.out.size)))
            clear HWP HA2 HS HB
            go_wp2_with fail
            go_ret
            exact HE.out
        · obtain rfl : j = n := by omega
          have HE := Lib.hid (HWP.out S wr (by omega) hS1 (fun h => by have e1 := HS.out h; have e2 := HKS.out; rw [List.take_of_length_le (by omega)] at e1; omega) (HP.out.trans (HB.out.mono HP.out.size)))
          clear HWP HA2 HS HB
          go_wp2_with fail
          go_ret
          exact HE.out
theorem weigh_any {x : Nd} (hs : x.small) {w : World} {A : Option Addr} {n c : Nat} (ha : RdN w (Lt w) A n c x.kids) :
    Calls Tryz.prog 8 #[.agg #[.int .i64 x.kind, .string x.name, .int .i64 x.low, .int .i64 x.high, .slice A n c], .int .i64 0] w (WeighP w x 0) :=
  weigh_all x.size x (Nat.le_refl _) hs 0 (by decide) (by decide) w A n c ha
end Go.Proofs.YtmohefgdpddldaaGreatDoor
namespace Go.Proofs.YtmohefgdpddldaaGreatDoor
open Go.RowKit
open Y (Nd It)

end Go.Proofs.YtmohefgdpddldaaGreatDoor
namespace Go.Proofs.YtmohefgdpddldaaGreatDoor
open Go.RowKit
open Y (Nd It)

/-- No name in it is longer than memory bears. -/
def Y.It.small (x : It) : Prop := x.name.size ≤ 140737488355328 ∧ x.before.small ∧ x.after.small
/-- What is held in a round. -/
def GHeld (b o : Nat) (x : It) (Ab Aa : Option Addr) (nb cb na ca : Nat) (w' : World) : Prop :=
  w'.cell? ⟨b, o + 1, none⟩ = some (.string x.name) ∧
  w'.cell? ⟨b, o + 4, none⟩ = some (.int .i64 x.before.kind) ∧ w'.cell? ⟨b, o + 5, none⟩ = some (.string x.before.name) ∧ w'.cell? ⟨b, o + 6, none⟩ = some (.int .i64 x.before.low) ∧ w'.cell? ⟨b, o + 7, none⟩ = some (.int .i64 x.before.high) ∧ w'.cell? ⟨b, o + 8, none⟩ = some (.slice Ab nb cb) ∧
  w'.cell? ⟨b, o + 9, none⟩ = some (.int .i64 x.after.kind) ∧ w'.cell? ⟨b, o + 10, none⟩ = some (.string x.after.name) ∧ w'.cell? ⟨b, o + 11, none⟩ = some (.int .i64 x.after.low) ∧ w'.cell? ⟨b, o + 12, none⟩ = some (.int .i64 x.after.high) ∧ w'.cell? ⟨b, o + 13, none⟩ = some (.slice Aa na ca)
theorem held_cell6 {w w' : World} {b o : Nat} {v : Value} (h : Below w.heap.size w w') (hb : b < w.heap.size) (hc : w.cell? ⟨b, o, none⟩ = some v) : w'.cell? ⟨b, o, none⟩ = some v := (h.cell (p := ⟨b, o, none⟩) hb).trans hc
end Go.Proofs.YtmohefgdpddldaaGreatDoor
namespace Go.Proofs.YtmohefgdpddldaaGreatDoor
open Go.RowKit
open Y (Nd It)

def GreatQ (w : World) (n : Nat) (most : Int) (e : Ending) (w' : World) : Prop := ∃ b : Bool, e = .returned (.bool b) ∧ (b = false → (n : Int) ≤ most) ∧ Below w.heap.size w w'
set_option maxHeartbeats 8000000 in
theorem great_len {l : List It} {w : World} {A : Option Addr} {n c : Nat} (h : RdI6 w (Lt w) A n c l) (hs : ∀ x ∈ l, x.small) (most : Int) (hm0 : 0 ≤ most) (hm1 : most ≤ 2000) :
    Calls Tryz.prog 9 #[.slice A n c, .int .i64 most] w (GreatQ w n most) := by
  have HA := Lib.hid h
  have hn := h.len
  have hsm := h.small
  have HSL := Lib.hid hs
  clear h hs
  go_enter Tryz.func9, Tryz.ntmps9
  go_wp2_with fail
  go_loopw [5, 6] (fun sv iv wx => ∃ (j : Nat) (S : Int), j ≤ n ∧ iv = .int .i64 j ∧ sv = .int .i64 S ∧ (n : Int) ≤ S ∧ S ≤ 9223372036854775807 ∧ Hid (Below w.heap.size w wx)) (fun _ iv _ => n - (intOf iv).toNat)
  case atStart => exact ⟨0, n, by omega, rfl, rfl, by omega, by omega, Below.refl _ _⟩
  case round =>
    obtain ⟨j, S, hj, rfl, rfl, hS0, hS1, HB⟩ := hrel
    have HA2 := Lib.hid (HA.out.on HB.out)
    by_cases hlt : j < n
    · by_cases h2 : S ≤ most
      · obtain ⟨b1, o1, x, Ab, Aa, nb, cb, na, ca, hA1, hb1, hx, hr1, hr2, hc⟩ := HA2.out.got hlt
        subst hA1
        obtain ⟨s0, s1, s2, s3, s4, s5, s6, s7, s8, s9, s10, s11, s12, s13, s14⟩ := it_cells hc
        have hb1' : b1 < wr.heap.size := hb1
        obtain ⟨hq0, hq1, hq2⟩ := HSL.out x (List.mem_of_getElem? hx)
        have hS : ∀ w', Below wr.heap.size wr w' → GHeld b1 (o1 + j * 15) x Ab Aa nb cb na ca w' := fun w' h => ⟨held_cell6 h hb1' s1, held_cell6 h hb1' s4, held_cell6 h hb1' s5, held_cell6 h hb1' s6, held_cell6 h hb1' s7, held_cell6 h hb1' s8, held_cell6 h hb1' s9, held_cell6 h hb1' s10, held_cell6 h hb1' s11, held_cell6 h hb1' s12, held_cell6 h hb1' s13⟩
        have HS := Lib.hid hS
        have HK0 := Lib.hid (hS wr.drew (kbelow_drewN (Below.refl _ _) 1))
        have HBD : Hid (Below wr.heap.size wr wr.drew) := kbelow_drewN (Below.refl _ _) 1
        have HW1 : Hid (∀ w', Below wr.heap.size wr w' → Calls Tryz.prog 8 #[.agg #[.int .i64 x.before.kind, .string x.before.name, .int .i64 x.before.low, .int .i64 x.before.high, .slice Ab nb cb], .int .i64 0] w' (WeighP w' x.before 0)) := fun w' h => weigh_any hq1 (hr1.on h)
        have HW2 : Hid (∀ w', Below wr.heap.size wr w' → Calls Tryz.prog 8 #[.agg #[.int .i64 x.after.kind, .string x.after.name, .int .i64 x.after.low, .int .i64 x.after.high, .slice Aa na ca], .int .i64 0] w' (WeighP w' x.after 0)) := fun w' h => weigh_any hq2 (hr2.on h)
        have HC1 := Lib.hid (HW1.out wr.drew HBD.out)
        have hj0 : (0 : Int) ≤ (j : Int) := by omega
        have hj1 : (j : Int) < (n : Int) := by omega
        have hz0 : (0 : Int) ≤ (x.name.size : Int) := by omega
        have hz1 : (x.name.size : Int) ≤ 140737488355328 := by omega
        have z0 : IntKind.i64.wrap (S + (x.name.size : Int)) = S + (x.name.size : Int) := IntWalk.i64_in _ (by omega)
        have g2 : decide (S ≤ most) = true := by simpa using h2
        clear hx hr1 hr2 hb1 HA2 hc hq0 hq1 hq2 hS s0 s1 s2 s3 s4 s5 s6 s7 s8 s9 s10 s11 s12 s13 s14
        go_wp2_with fail
        go_region_held_law (fun w' => w'.cell? ⟨b1, o1 + j * 15 + 1, none⟩ = some (.string x.name) ∧
            w'.cell? ⟨b1, o1 + j * 15 + 4, none⟩ = some (.int .i64 x.before.kind) ∧ w'.cell? ⟨b1, o1 + j * 15 + 5, none⟩ = some (.string x.before.name) ∧ w'.cell? ⟨b1, o1 + j * 15 + 6, none⟩ = some (.int .i64 x.before.low) ∧ w'.cell? ⟨b1, o1 + j * 15 + 7, none⟩ = some (.int .i64 x.before.high) ∧ w'.cell? ⟨b1, o1 + j * 15 + 8, none⟩ = some (.slice Ab nb cb) ∧
            w'.cell? ⟨b1, o1 + j * 15 + 9, none⟩ = some (.int .i64 x.after.kind) ∧ w'.cell? ⟨b1, o1 + j * 15 + 10, none⟩ = some (.string x.after.name) ∧ w'.cell? ⟨b1, o1 + j * 15 + 11, none⟩ = some (.int .i64 x.after.low) ∧ w'.cell? ⟨b1, o1 + j * 15 + 12, none⟩ = some (.int .i64 x.after.high) ∧ w'.cell? ⟨b1, o1 + j * 15 + 13, none⟩ = some (.slice Aa na ca))
          (first | exact HK0.out | exact HK1.out | exact HK2.out)
          (first
            | (go_at_call 8; (with_reducible refine HC1.out.mono ?_); rintro en w5 ⟨T1, rfl, hT0, hT1, _, hb5⟩; have HB5 := Lib.hid (HBD.out.trans (hb5.mono HBD.out.size)); have HK1 := Lib.hid (HS.out w5 HB5.out); have HC2 := Lib.hid (HW2.out w5 HB5.out); have z1 : IntKind.i64.wrap (S + (x.name.size : Int) + T1) = S + (x.name.size : Int) + T1 := IntWalk.i64_in _ (by omega); clear hb5)
            | (go_at_call 8; (with_reducible refine HC2.out.mono ?_); rintro en w6 ⟨T2, rfl, hU0, hU1, _, hb6⟩; have HB6 := Lib.hid (HB5.out.trans (hb6.mono HB5.out.size)); have HK2 := Lib.hid (HS.out w6 HB6.out); have z2 : IntKind.i64.wrap (S + (x.name.size : Int) + T1 + T2) = S + (x.name.size : Int) + T1 + T2 := IntWalk.i64_in _ (by omega); clear hb6))
        have HBB := Lib.hid (HB.out.trans (HB6.out.mono HB.out.size))
        go_wp2_with fail
        go_roundw
        case rel => exact ⟨j + 1, S + (x.name.size : Int) + T1 + T2, by omega, by go_num, rfl, by omega, by omega, HBB.out⟩
        case measure => simp [intOf]; omega
      · have g2 : decide (S ≤ most) = false := by simpa using h2
        clear HA2
        go_wp2_with fail
        go_ret
        exact ⟨_, rfl, fun h => (by first | exact absurd h (by decide) | (have := of_decide_eq_false h; omega)), HB.out⟩
    · obtain rfl : j = n := by omega
      clear HA2
      go_wp2_with fail
      go_ret
      exact ⟨_, rfl, fun h => (by first | exact absurd h (by decide) | (have := of_decide_eq_false h; omega)), HB.out⟩
end Go.Proofs.YtmohefgdpddldaaGreatDoor
namespace Go.Proofs.YtmohefgdpddldaaGreatDoor
open Go.RowKit
open Y (Nd It noName zeroN)
open K (numsOf txt anyB numT lineT itemsT rightB noneB mayB itemsR longR okL)

/-- What two lists' texts, and both's, come to. -/
inductive LinesR : List Int × Int → List Int × Int → List Int × Int → Prop where
  | a1 (rb : List Int × Int) : LinesR ([], 1) rb ([], 1)
  | b1 (ra : List Int × Int) (h : ra.2 ≠ 1) : LinesR ra ([], 1) ([], 1)
  | a2 (rb : List Int × Int) (h : rb.2 ≠ 1) (hl : rb.1.length ≤ 3000) : LinesR ([], 2) rb ([], 2)
  | b2 (Ta : List Int) (hl : Ta.length ≤ 3000) : LinesR (Ta, 0) ([], 2) ([], 2)
  | long (Ta Tb : List Int) (h1 : Ta.length ≤ 3000) (h2 : Tb.length ≤ 3000) (h : 3000 < Ta.length + Tb.length) : LinesR (Ta, 0) (Tb, 0) ([], 2)
  | ok (Ta Tb : List Int) (h : Ta.length + Tb.length ≤ 3000) : LinesR (Ta, 0) (Tb, 0) (Ta ++ Tb, 0)
theorem lines_res {la lb : List It} (h : la.length + lb.length ≤ 100) : LinesR (itemsR la) (itemsR lb) (itemsR (la ++ lb)) := by
  have hz : okL (la ++ lb) = (okL la && okL lb) := by
    unfold K.okL
    rw [List.all_append, List.length_append, decide_eq_true h, decide_eq_true (show la.length ≤ 100 by omega), decide_eq_true (show lb.length ≤ 100 by omega)]
    simp
  unfold K.itemsR
  rw [hz, K.itemsT_app]
  cases ha : okL la with
  | false => exact .a1 _
  | true =>
    cases hb : okL lb with
    | false =>
      rw [if_pos rfl]
      refine .b1 _ ?_
      unfold K.longR
      split <;> simp
    | true =>
      simp only [Bool.and_self, if_true]
      unfold K.longR
      rw [List.length_append]
      by_cases h1 : (itemsT la).length ≤ 3000
      · rw [if_pos h1]
        by_cases h2 : (itemsT lb).length ≤ 3000
        · rw [if_pos h2]
          by_cases h3 : (itemsT la).length + (itemsT lb).length ≤ 3000
          · rw [if_pos h3]; exact .ok _ _ h3
          · rw [if_neg h3]; exact .long _ _ h1 h2 (by omega)
        · rw [if_neg h2, if_neg (show ¬ (itemsT la).length + (itemsT lb).length ≤ 3000 by omega)]; exact .b2 _ h1
      · rw [if_neg h1, if_neg (show ¬ (itemsT la).length + (itemsT lb).length ≤ 3000 by omega)]
        refine .a2 _ ?_ ?_
        · split <;> simp
        · split <;> simp; assumption
set_option maxHeartbeats 100000000 in
theorem ilines_walk {w : World} {A AB : Option Addr} {n c m cB : Nat} {la lb : List It} (h : RdI6 w (Lt w) A n c la) (h' : RdI6 w (Lt w) AB m cB lb) (ha : ∀ x ∈ la, x.small) (hb : ∀ x ∈ lb, x.small) (hT : TbB w.heap.size w) :
    Calls Tryz.prog 5 #[.slice A n c, .slice AB m cB] w (BooK w true) := by
  have H0 := Lib.hid h
  have H0' := Lib.hid h'
  have HSA := Lib.hid ha
  have HSB := Lib.hid hb
  have HT := Lib.hid hT
  have HLA := Lib.hid h.len
  have HLB := Lib.hid h'.len
  have hn := h.small
  have hm := h'.small
  have hc1 := h.cap
  have hc2 := h.capm
  have hc3 := h'.cap
  have hc4 := h'.capm
  unfold maxLen at hc2 hc4
  clear h h' ha hb hT
  go_enter Tryz.func5, Tryz.ntmps5
  go_wp2_with fail
  refine (alive7_any HT.out).mono ?_
  rintro e w1 ⟨rfl, hb1⟩
  have HB1 := Lib.hid hb1
  have H1 := Lib.hid (H0.out.on hb1)
  have H1' := Lib.hid (H0'.out.on hb1)
  clear hb1
  go_wp2_with fail
  refine (great_len H1.out HSA.out 700 (by decide) (by decide)).mono ?_
  rintro e w2 ⟨ga, rfl, hla, hb2⟩
  have HB2 := Lib.hid (HB1.out.trans (hb2.mono HB1.out.size))
  have H2 := Lib.hid (H1.out.on hb2)
  have H2' := Lib.hid (H1'.out.on hb2)
  clear hb2 HB1 H1 H1'
  cases ga with
  | true =>
    go_wp2_with fail
    go_ret
    exact ⟨rfl, HB2.out⟩
  | false =>
    go_wp2_with fail
    refine (great_len H2'.out HSB.out 700 (by decide) (by decide)).mono ?_
    rintro e w3 ⟨gb, rfl, hlb, hb3⟩
    have HB3 := Lib.hid (HB2.out.trans (hb3.mono HB2.out.size))
    have H3 := Lib.hid (H2.out.on hb3)
    have H3' := Lib.hid (H2'.out.on hb3)
    clear hb3 HB2 H2 H2'
    cases gb with
    | true =>
      go_wp2_with fail
      go_ret
      exact ⟨rfl, HB3.out⟩
    | false =>
      have hla1 : (n : Int) ≤ 700 := (by first | exact hla trivial | exact hla rfl | simpa using hla)
      have hlb1 : (m : Int) ≤ 700 := (by first | exact hlb trivial | exact hlb rfl | simpa using hlb)
      clear hla hlb
      by_cases hnm : n + m ≤ 100
      · have g1 : ¬ (100 : Int) < (n : Int) + (m : Int) := by omega
        have hn0 : (0 : Int) ≤ (n : Int) := by omega
        have hm0 : (0 : Int) ≤ (m : Int) := by omega
        have hn1 : (n : Int) ≤ 100 := by omega
        have hm1 : (m : Int) ≤ 100 := by omega
        go_wp2_with fail
        refine (iitems_any H3.out (fun x hx => (HSA.out x hx).1) (HT.out.up HB3.out)).mono ?_
        rintro e w4 ⟨rfl, hb4⟩
        have HB4 := Lib.hid (HB3.out.trans (hb4.mono HB3.out.size))
        have H4 := Lib.hid (H3.out.on hb4)
        have H4' := Lib.hid (H3'.out.on hb4)
        clear hb4 HB3 H3 H3'
        have HRES : Hid (LinesR (itemsR la) (itemsR lb) (itemsR (la ++ lb))) := lines_res (by rw [HLA.out, HLB.out]; exact hnm)
        generalize itemsR la = ra at *
        go_wp2_with fail
        refine (iitems_any H4'.out (fun x hx => (HSB.out x hx).1) (HT.out.up HB4.out)).mono ?_
        rintro e w5 ⟨rfl, hb5⟩
        have HB5 := Lib.hid (HB4.out.trans (hb5.mono HB4.out.size))
        have H5 := Lib.hid (H4.out.on hb5)
        have H5' := Lib.hid (H4'.out.on hb5)
        clear hb5 HB4 H4 H4'
        generalize itemsR lb = rb at *
        have HBY := Lib.hid (kbelow_push w5 (.cells #[] 35))
        have HO6 : Hid (OwnA (w5.alloc (.cells #[] 35)) w5.heap.size (Lt w5) _ []) := OwnA.lit w5 (Lt w5)
        have HS6 : Hid (RdI6 (w5.alloc (.cells #[] 35)) (Lt w5) A n c la) := H5.out.keep (fun _ h => h) (fun p hp => HBY.out.cell (p := p) hp)
        go_wp2_with (at_builtin; refine app_its rfl _ _ rfl w5.heap.size (Lt w5) (fun _ h => h) _ [] rfl HO6.out A n c la rfl HS6.out (by simp; omega) HBY.out.size ?_)
        intro v7 w7 ho7 hg7
        have HB7 : Hid (Below w5.heap.size w5 w7) := below_grown HBY.out hg7 (fun i hi => (HO6.out.block i hi).1)
        have HO7 : Hid (OwnA w7 w5.heap.size (Lt w5) v7 la) := ho7
        have HS7 : Hid (RdI6 w7 (Lt w5) AB m cB lb) := H5'.out.keep (fun _ h => h) (fun p hp => HB7.out.cell (p := p) hp)
        clear ho7 hg7 HO6 HS6 HBY
        go_wp2_with (at_builtin; refine app_its rfl _ _ rfl w5.heap.size (Lt w5) (fun _ h => h) _ la rfl HO7.out AB m cB lb rfl HS7.out (by rw [HLA.out]; omega) HB7.out.size ?_)
        intro v8 w8 ho8 hg8
        have HB8 : Hid (Below w5.heap.size w5 w8) := below_grown HB7.out hg8 (fun i hi => (HO7.out.block i hi).1)
        obtain ⟨A8, c8, rfl, hr8⟩ := ho8.rd (fun b hb => Nat.lt_of_lt_of_le hb HB8.out.size)
        clear ho8
        generalize (la ++ lb).length = k8 at *
        have HB9 := Lib.hid (HB5.out.trans (HB8.out.mono HB5.out.size))
        have HC := Lib.hid (iitems_any hr8 (fun x hx => (List.mem_append.1 hx).elim (fun h => (HSA.out x h).1) (fun h => (HSB.out x h).1)) (HT.out.up HB9.out))
        clear hg8 hr8 HO7 HS7 HB7 HB8 HB5 H5 H5'
        generalize itemsR (la ++ lb) = rz at *
        go_wp2_with fail
        refine HC.out.mono ?_
        intro e w10 hq
        obtain ⟨he, hb10⟩ := (show e = .returned (.tuple #[.string (strOfNums rz.1), .int .i64 rz.2]) ∧ Below w8.heap.size w8 w10 from hq)
        clear hq
        subst he
        have HB := Lib.hid (HB9.out.trans (hb10.mono HB9.out.size))
        clear hb10 HB9 HC HSA HSB HT HLA HLB H0 H0'
        have hres := HRES.out
        clear HRES
        have z0 : strOfNums [] = ⟨#[]⟩ := rfl
        cases hres with
        | a1 rb =>
          rw [z0]
          clear z0
          go_wp2_with fail
          go_ret
          exact ⟨rfl, HB.out⟩
        | b1 ra h1 =>
          have g2 : (ra.2 == 1) = false := by simpa using h1
          rw [z0]
          clear z0 h1
          go_wp2_with fail
          go_ret
          exact ⟨rfl, HB.out⟩
        | a2 rb h1 hl =>
          have g2 : (rb.2 == 1) = false := by simpa using h1
          have hsz : (strOfNums rb.1).size ≤ 3000 := by rw [strOfNums_size]; exact hl
          generalize strOfNums rb.1 = sb at *
          rw [z0]
          clear z0 h1 hl
          go_wp2_with fail
          go_ret
          exact ⟨rfl, HB.out⟩
        | b2 Ta hl =>
          have hsz : (strOfNums Ta).size ≤ 3000 := by rw [strOfNums_size]; exact hl
          generalize strOfNums Ta = sa at *
          rw [z0]
          clear z0 hl
          go_wp2_with fail
          go_ret
          exact ⟨rfl, HB.out⟩
        | long Ta Tb h1 h2 h3 =>
          have hsa : (strOfNums Ta).size = Ta.length := strOfNums_size _
          have hsb : (strOfNums Tb).size = Tb.length := strOfNums_size _
          have q1 : (strOfNums Ta).size ≤ 3000 := by omega
          have q2 : (strOfNums Tb).size ≤ 3000 := by omega
          have q3 : (3000 : Int) < ((strOfNums Ta).size : Int) + ((strOfNums Tb).size : Int) := by omega
          clear hsa hsb h1 h2 h3
          generalize strOfNums Ta = sa at *
          generalize strOfNums Tb = sb at *
          rw [z0]
          clear z0
          go_wp2_with fail
          go_ret
          exact ⟨rfl, HB.out⟩
        | ok Ta Tb h3 =>
          have hsa : (strOfNums Ta).size = Ta.length := strOfNums_size _
          have hsb : (strOfNums Tb).size = Tb.length := strOfNums_size _
          have q1 : (strOfNums Ta).size ≤ 3000 := by omega
          have q2 : (strOfNums Tb).size ≤ 3000 := by omega
          have q3 : ¬ (3000 : Int) < ((strOfNums Ta).size : Int) + ((strOfNums Tb).size : Int) := by omega
          have q4 : ¬ 9223372036854775807 < (strOfNums Ta).size + (strOfNums Tb).size := by omega
          rw [show (Ta ++ Tb, (0 : Int)).1 = Ta ++ Tb from rfl, ← str_app2]
          clear hsa hsb h3 z0
          generalize strOfNums Ta = sa at *
          generalize strOfNums Tb = sb at *
          go_wp2_with fail
          go_ret
          exact ⟨rfl, HB.out⟩
      · have g1 : (100 : Int) < (n : Int) + (m : Int) := by omega
        have hn0 : (0 : Int) ≤ (n : Int) := by omega
        have hm0 : (0 : Int) ≤ (m : Int) := by omega
        go_wp2_with fail
        go_ret
        exact ⟨rfl, HB3.out⟩
end Go.Proofs.YtmohefgdpddldaaGreatDoor
namespace Go.Proofs.YtmohefgdpddldaaGreatDoor
open Go.ChangeShapes Go.WideShapes Go.ChangeAt Go.RowKit Go.Deep

theorem Tryz.own : ownKnob Tryz.prog.godebug = none := by kernel_rfl
theorem Tryz.laidOut : laidOutB Tryz.prog = true := by kernel_rfl
end Go.Proofs.YtmohefgdpddldaaGreatDoor
