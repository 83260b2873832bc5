/- Plain facts on words, as the document's lexer asks them: numbers, digit by digit; what a note allows. The document's lexer of layer 5: text, ascii, number. The document's lexer of layer 5: name. -/
import Derived.Test.YtdhighnbbpngpaaGreatDoorWM2
import Derived.Test.YtdhighnbbpngpaaGreatDoorMJ
import Derived.Test.YtdhighnbbpngpaaGreatDoorQB
set_option maxRecDepth 100000
namespace Go.Proofs.YtdhighnbbpngpaaGreatDoor
namespace W

theorem valN_nil : ∀ (k : Nat) (n : Int), valN [] k (n * 10) = valN [] k n * 10
  | 0, n => rfl
  | k + 1, n => by rw [valN, valN, valN_nil k (n * 10)]
theorem valN_snoc : ∀ (l : List Int) (c n : Int), valN (l ++ [c]) (l.length + 1) n = valN l l.length n * 10 + (c - 48)
  | [], c, n => rfl
  | d :: t, c, n => by rw [List.cons_append, List.length_cons, valN, valN]; exact valN_snoc t c _
theorem valN_more : ∀ (l : List Int) (k : Nat) (n : Int), l.length ≤ k → valN l (k + 1) n = valN l k n * 10
  | [], k, n, _ => by rw [valN]; exact valN_nil k n
  | c :: t, 0, n, h => by simp at h
  | c :: t, k + 1, n, h => by rw [valN, valN]; exact valN_more t k _ (by simpa using h)
/-- What the first k digits are worth, as long as it is small. -/
def Dg (l : List Int) (k : Nat) (v : Int) : Prop := 0 ≤ v ∧ v ≤ 100000 ∧ (k = 0 → v = 0) ∧ (k ≤ 1 → v ≤ 9) ∧ (k ≤ 2 → v ≤ 99) ∧ (k ≤ 3 → v = valN (l.take k) k 0)
theorem Dg.zero (l : List Int) : Dg l 0 0 := ⟨by decide, by decide, fun _ => rfl, fun _ => by decide, fun _ => by decide, fun _ => rfl⟩
theorem Dg.step {l : List Int} {k : Nat} {v c : Int} (h : Dg l k v) (hc : l[k]? = some c) (hd : dgB c = true) : Dg l (k + 1) (min 100000 (v * 10 + c - 48)) := by
  obtain ⟨h0, h1, h2, h3, h4, h5⟩ := h
  unfold dgB at hd
  rw [decide_eq_true_eq] at hd
  refine ⟨by omega, by omega, fun h => by omega, fun h => by have := h2 (by omega); omega, fun h => by have := h3 (by omega); omega, fun h => ?_⟩
  have hk : (l.take k).length = k := by rw [List.length_take]; have := (List.getElem?_eq_some_iff.1 hc).1; omega
  have e := valN_snoc (l.take k) c 0
  rw [hk] at e
  rw [List.take_add_one, hc]
  show _ = valN (l.take k ++ [c]) (k + 1) 0
  rw [e, ← h5 (by omega)]
  have := h4 (by omega)
  omega
theorem many_mono {p q : Int → Bool} (h : ∀ c, p c = true → q c = true) : ∀ (l : List Int), many p l ≤ many q l
  | [] => Nat.le_refl _
  | c :: t => by
    cases hp : p c with
    | true => rw [many_cons hp, many_cons (h c hp)]; have := many_mono h t; omega
    | false => rw [many_stop hp]; exact Nat.zero_le _
/-- A number, of what its digits are worth. -/
theorem num_is {d : List Int} {m p : Nat} {v r : Int} (hm : many dgB d = m) (h1 : 1 ≤ m) (h0 : ¬ (1 < m ∧ d[0]? = some 48)) (hp : partN d = p) (hv : m ≤ 3 → v = valN (d.take m) m 0) (hr : p ≤ 3 → r = valN ((d.drop (m + 1)).take p) 3 0) :
    numB d = if 3 < m ∨ 3 < p then (0, 0, 2) else (v * 1000 + r, if 0 < p then m + 1 + p else m, 0) := by
  unfold numB
  rw [hm, hp, if_neg (by rintro (h | h); omega; exact h0 h)]
  by_cases hl : 3 < m ∨ 3 < p
  · rw [if_pos hl, if_pos hl]
  · rw [if_neg hl, if_neg hl, hv (by omega), hr (by omega)]
theorem num_nought {d : List Int} {m : Nat} (hm : many dgB d = m) (h0 : 1 < m ∧ d[0]? = some 48) : numB d = (0, 0, 4) := by
  unfold numB
  rw [hm, if_pos (.inr h0)]
theorem num_none {d : List Int} (hm : many dgB d = 0) : numB d = (0, 0, 4) := by
  unfold numB
  rw [hm, if_pos (.inl rfl)]
theorem part_none {d : List Int} {m : Nat} (hm : many dgB d = m) (h : d[m]? ≠ some 46 ∨ many dgB (d.drop (m + 1)) = 0) : partN d = 0 := by
  unfold partN
  rw [hm]
  split
  · rcases h with h | h
    · contradiction
    · exact h
  · rfl
theorem part_is {d : List Int} {m : Nat} (hm : many dgB d = m) (h : d[m]? = some 46) : partN d = many dgB (d.drop (m + 1)) := by
  unfold partN
  rw [hm, if_pos h]
/-- What a note allows, by its small letters. -/
theorem allow_is {l : List Int} {k : Nat} (hk : many smB l = k) :
    allowB l = if lettersB (l.take k) = true ∧ (k = l.length ∨ l[k]? = some 32 ∧ (numB (l.drop (k + 1))).2.2 = 0 ∧ (numB (l.drop (k + 1))).2.1 = (l.drop (k + 1)).length) then some (l.take k, if k = l.length then -1 else (numB (l.drop (k + 1))).1) else none := by
  have hmono : many smB l ≤ many noBl l := many_mono (fun c h => by
    unfold smB at h; rw [decide_eq_true_eq] at h
    unfold noBl; rw [decide_eq_true_eq]; omega) l
  rw [hk] at hmono
  have htw : l.takeWhile noBl = l.take (many noBl l) := (take_many noBl l).symm
  have hle := many_le noBl l
  unfold allowB
  rw [htw]
  rcases Nat.lt_or_ge k (many noBl l) with hlt | hge
  · have hlen : k < l.length := by omega
    have hg : l[k]? = some (l[k]'hlen) := List.getElem?_eq_getElem hlen
    have h1 : smB (l[k]'hlen) = false := many_end (p := smB) (l := l) (by rw [hk]; exact hg)
    have h2 : noBl (l[k]'hlen) = true := many_all hlt hg
    have h3 : ¬ lettersB (l.take (many noBl l)) = true := fun h => by
      unfold lettersB at h
      rw [Bool.and_eq_true, Bool.and_eq_true] at h
      have := List.all_eq_true.1 h.1.1 (l[k]'hlen) (List.mem_of_getElem? (by rw [List.getElem?_take_of_lt hlt]; exact hg))
      rw [h1] at this
      cases this
    rw [if_neg h3, if_neg]
    rintro ⟨_, h | h⟩
    · omega
    · rw [hg] at h
      have := Option.some.inj h.1
      unfold noBl at h2
      rw [decide_eq_true_eq] at h2
      omega
  · have e : many noBl l = k := by omega
    rw [e]
    by_cases hl : lettersB (l.take k) = true
    · rw [if_pos hl]
      by_cases hn : k = l.length
      · rw [if_pos hn, if_pos ⟨hl, .inl hn⟩, if_pos hn]
      · have hlen : k < l.length := by omega
        have hg : l[k]? = some (l[k]'hlen) := List.getElem?_eq_getElem hlen
        have h1 : noBl (l[k]'hlen) = false := many_end (p := noBl) (l := l) (by rw [e]; exact hg)
        have h32 : l[k]? = some 32 := by
          unfold noBl at h1
          rw [decide_eq_false_iff_not] at h1
          rw [hg]
          exact congrArg some (by omega)
        rw [if_neg hn, if_neg hn]
        by_cases h2 : (numB (l.drop (k + 1))).2.2 = 0 ∧ (numB (l.drop (k + 1))).2.1 = (l.drop (k + 1)).length
        · rw [if_pos h2, if_pos ⟨hl, .inr ⟨h32, h2⟩⟩]
        · rw [if_neg h2, if_neg]
          rintro ⟨_, h | h⟩
          · exact hn h
          · exact h2 h.2
    · rw [if_neg hl, if_neg (fun h => hl h.1)]
end W
end Go.Proofs.YtdhighnbbpngpaaGreatDoor
namespace Go.Proofs.YtdhighnbbpngpaaGreatDoor
open Go.RowKit
open W (Tk St dgB ltB opn many numB partN valN Dg)

/-- Characters, as a text of bytes. -/
theorem dtext_any {w : World} {B : Nat} {A : Option Addr} {n c : Nat} {L : List Int} (h : RdK .i64 w B A n c L) (hB : B ≤ w.heap.size) (hn : n ≤ 4000) (hs : ∀ x ∈ L, 0 ≤ x ∧ x < 128) :
    Calls Tryz.prog 114 #[.slice A n c] w fun e w' => e = .returned (.string (strOfNums L)) ∧ Below w.heap.size w w' := by
  have HH := Lib.hid h
  have HS := Lib.hid hs
  have HL := Lib.hid h.len
  clear h hs
  go_enter Tryz.func114, Tryz.ntmps114
  go_wp2_with fail
  go_loopw [3, 4] (fun sv iv wx => ∃ i : Nat, i ≤ n ∧ sv = .string (strOfNums (L.take i)) ∧ iv = .int .i64 i ∧ Hid (Below w.heap.size w wx)) (fun _ iv _ => n - (intOf iv).toNat)
  case atStart => exact ⟨0, by omega, by rw [List.take_zero]; rfl, rfl, Below.refl _ _⟩
  case round =>
    obtain ⟨i, hi, rfl, rfl, HB⟩ := hrel
    by_cases hlt : i < n
    · have HR := Lib.hid (HH.out.keep (fun p hp => HB.out.cell (p := p) (by omega)))
      obtain ⟨b, off, x, rfl, hbl, hx, hc⟩ := HR.out.got hlt
      have hx0 := (HS.out x (List.mem_of_getElem? hx)).1
      have hx1 := (HS.out x (List.mem_of_getElem? hx)).2
      have q1 : (convert 22 9 (.slice (some ⟨wr.heap.size, 0, none⟩) 1 1)).run Tryz.prog (wr.alloc (.cells #[.int .u8 x] 5)) = .ok (.string (strOfNums [x])) (wr.alloc (.cells #[.int .u8 x] 5)) :=
        conv_any (rd_lit_k wr wr.heap.size rfl .u8 [x] 5 _ rfl (by simp)) _ 5 _ Tryz.underlying22 Tryz.underlying5 Tryz.underlying9
      have hlt4 : (L.take i).length = i := by rw [List.length_take, HL.out]; omega
      have q2 := run_str_add (P := Tryz.prog) (L.take i) [x] (wr.alloc (.cells #[.int .u8 x] 5)) (by rw [hlt4]; simp; omega)
      have HT : Hid (L.take (i + 1) = L.take i ++ [x]) := by show _ = _; rw [List.take_add_one, hx]; rfl
      have HB2 := Lib.hid (HB.out.trans ((kbelow_push wr (.cells #[.int .u8 x] 5)).mono HB.out.size))
      clear hx HR HB hlt4
      go_wp2_with fail
      go_roundw
      case rel => exact ⟨i + 1, by omega, by rw [HT.out], by go_num, HB2.out⟩
      case measure => simp [intOf]; omega
    · obtain rfl : i = n := by omega
      have HE : Hid (L.take i = L) := List.take_of_length_le (by rw [HL.out]; exact Nat.le_refl _)
      go_wp2_with fail
      go_ret
      exact ⟨congrArg (fun s => Ending.returned (.string (strOfNums s))) HE.out, HB.out⟩
theorem dascii_any {w : World} {B : Nat} {A : Option Addr} {n c : Nat} {L : List Int} (h : RdK .i64 w B A n c L) (hn : n ≤ 4000) :
    Calls Tryz.prog 116 #[.slice A n c] w fun e w' => e = .returned (.bool (L.all fun x => decide (x < 128))) ∧ w = w' := by
  have HH := Lib.hid h
  have HL := Lib.hid h.len
  clear h
  go_enter Tryz.func116, Tryz.ntmps116
  go_wp2_with fail
  go_loopw [3] (fun iv wx => ∃ i : Nat, i ≤ n ∧ iv = .int .i64 i ∧ w = wx ∧ Hid (∀ j y, j < i → L[j]? = some y → y < 128)) (fun iv _ => n - (intOf iv).toNat)
  case atStart => exact ⟨0, by omega, rfl, by trivial, fun j y hj => by omega⟩
  case round =>
    obtain ⟨i, hi, rfl, rfl, HA⟩ := hrel
    by_cases hlt : i < n
    · obtain ⟨b, off, x, rfl, hbl, hx, hc⟩ := HH.out.got hlt
      have HX := Lib.hid hx
      clear hx
      by_cases h1 : 128 ≤ x
      · have HF : Hid ((L.all fun x => decide (x < 128)) = false) := by
          show _ = _
          rw [← Bool.not_eq_true]
          intro h
          have := List.all_eq_true.1 h x (List.mem_of_getElem? HX.out)
          rw [decide_eq_true_eq] at this
          omega
        go_wp2_with fail
        go_ret
        exact ⟨ret_bool HF.out.symm, rfl⟩
      · have HA2 : Hid (∀ j y, j < i + 1 → L[j]? = some y → y < 128) := fun j y hj hy => by
          rcases Nat.lt_or_ge j i with h2 | h2
          · exact HA.out j y h2 hy
          · obtain rfl : j = i := by omega
            rw [HX.out] at hy; injection hy with hy; omega
        clear HA
        go_wp2_with fail
        go_roundw
        case rel => exact ⟨i + 1, by omega, by go_num, by trivial, HA2.out⟩
        case measure => simp [intOf]; omega
    · obtain rfl : i = n := by omega
      have HF : Hid ((L.all fun x => decide (x < 128)) = true) := by
        show _ = _
        rw [List.all_eq_true]
        intro x hx
        obtain ⟨j, hj, e⟩ := List.getElem_of_mem hx
        rw [decide_eq_true_eq]
        exact HA.out j x (by rw [← HL.out]; exact hj) (by rw [List.getElem?_eq_getElem hj, e])
      go_wp2_with fail
      go_ret
      exact ⟨ret_bool HF.out.symm, rfl⟩
/-- What number answers. -/
def DNumP (w : World) (n f : Nat) (r : Int × Nat × Int) (e : Ending) (w' : World) : Prop :=
  w = w' ∧ ∃ (x : Int) (t : Nat), e = .returned (.tuple #[.int .i64 x, .int .i64 t, .int .i64 r.2.2]) ∧ t ≤ n ∧ (r.2.2 = 0 → x = r.1 ∧ t = f + r.2.1)
/-- The run of digits that a loop has gone through. -/
def Run (L : List Int) (f t : Nat) : Prop := ∀ j y, f ≤ j → j < t → L[j]? = some y → dgB y = true
theorem Run.zero (L : List Int) (f : Nat) : Run L f f := fun j y h1 h2 => by omega
theorem Run.step {L : List Int} {f t : Nat} {x : Int} (h : Run L f t) (hx : L[t]? = some x) (hd : dgB x = true) : Run L f (t + 1) := fun j y h1 h2 hy => by
  rcases Nat.lt_or_ge j t with h3 | h3
  · exact h j y h1 h3 hy
  · obtain rfl : j = t := by omega
    rw [hx] at hy; injection hy with hy; subst hy; exact hd
theorem Run.many {L : List Int} {f t : Nat} (h : Run L f t) (hft : f ≤ t) (ht : t ≤ L.length) (he : ∀ x, L[t]? = some x → dgB x = false) : many dgB (L.drop f) = t - f := by
  refine W.many_at (fun j y hj hy => h (f + j) y (by omega) (by omega) (by rwa [List.getElem?_drop] at hy)) (by rw [List.length_drop]; omega) fun x hx => he x ?_
  rw [List.getElem?_drop] at hx
  rwa [show f + (t - f) = t by omega] at hx
theorem dnum_end {w : World} {n f : Nat} {r : Int × Nat × Int} {L : List Int} {t p t' : Nat} {v rr : Int} (hr : numB (L.drop f) = r) (hm : many dgB (L.drop f) = t - f) (h1 : f + 1 ≤ t) (hn : ¬ (1 < t - f ∧ (L.drop f)[0]? = some 48)) (hp : partN (L.drop f) = p) (hv : Dg (L.drop f) (t - f) v)
    (hrr : p ≤ 3 → rr = valN ((L.drop (t + 1)).take p) 3 0) (ht' : t' = if 0 < p then t + 1 + p else t) (htn : t' ≤ n) :
    (3 < t - f ∨ 3 < p → DNumP w n f r (.returned (.tuple #[.int .i64 0, .int .i64 t', .int .i64 2])) w) ∧ (¬ (3 < t - f ∨ 3 < p) → DNumP w n f r (.returned (.tuple #[.int .i64 (v * 1000 + rr), .int .i64 t', .int .i64 0])) w) := by
  have hdd : (L.drop f).drop (t - f + 1) = L.drop (t + 1) := by rw [List.drop_drop, show f + (t - f + 1) = t + 1 by omega]
  have e := W.num_is hm (by omega) hn hp (fun h => hv.2.2.2.2.2 h) (r := rr) (fun h => by rw [hdd]; exact hrr h)
  rw [hr] at e
  constructor
  · intro hl
    rw [if_pos hl] at e
    subst e
    exact ⟨rfl, 0, t', rfl, htn, fun h => by cases h⟩
  · intro hl
    rw [if_neg hl] at e
    subst e
    refine ⟨rfl, _, t', rfl, htn, fun _ => ⟨rfl, ?_⟩⟩
    rw [ht']
    show (if 0 < p then t + 1 + p else t) = f + (if 0 < p then t - f + 1 + p else t - f)
    split <;> omega
theorem part_dot {L : List Int} {f t p : Nat} (hft : f ≤ t) (hm : many dgB (L.drop f) = t - f) (h46 : L[t]? = some 46) (hp : many dgB (L.drop (t + 1)) = p) : partN (L.drop f) = p := by
  have := W.part_is hm (by rw [List.getElem?_drop, show f + (t - f) = t by omega]; exact h46)
  rw [this, List.drop_drop, show f + (t - f + 1) = t + 1 by omega, hp]
theorem part_no {L : List Int} {f t : Nat} (hft : f ≤ t) (hm : many dgB (L.drop f) = t - f) (h : L[t]? ≠ some 46 ∨ many dgB (L.drop (t + 1)) = 0) : partN (L.drop f) = 0 := by
  refine W.part_none hm ?_
  rw [List.getElem?_drop, show f + (t - f) = t by omega, List.drop_drop, show f + (t - f + 1) = t + 1 by omega]
  exact h
theorem digit_bd {x : Int} (h : dgB x = true) : 48 ≤ x ∧ x ≤ 57 := by unfold W.dgB at h; exact of_decide_eq_true h
set_option maxHeartbeats 4000000 in
theorem dnumber_any {w : World} {B : Nat} {A : Option Addr} {n c : Nat} {L : List Int} (h : RdK .i64 w B A n c L) (hn : n ≤ 4000) {f : Nat} {c0 : Int} (hf : L[f]? = some c0) (hd0 : dgB c0 = true) :
    Calls Tryz.prog 75 #[.slice A n c, .int .i64 f] w (DNumP w n f (numB (L.drop f))) := by
  have HH := Lib.hid h
  have HL := Lib.hid h.len
  have hfn : f < n := by have := (List.getElem?_eq_some_iff.1 hf).1; have := h.len; omega
  have HF := Lib.hid hf
  have HD0 := Lib.hid hd0
  obtain ⟨bA, oA, y0, hA, hbA, hy0, hc0⟩ := h.got hfn
  subst hA
  obtain rfl : c0 = y0 := by rw [hf] at hy0; exact Option.some.inj hy0
  generalize hr : numB (L.drop f) = r
  have HR := Lib.hid hr
  clear h hf hd0 hy0 hr
  go_enter Tryz.func75, Tryz.ntmps75
  go_wp2_with fail
  go_loopw [7, 8] (fun tv nv wx => ∃ (t : Nat) (v : Int), f ≤ t ∧ t ≤ n ∧ tv = .int .i64 t ∧ nv = .int .i64 v ∧ 0 ≤ v ∧ v ≤ 100000 ∧ w = wx ∧ Hid (Dg (L.drop f) (t - f) v) ∧ Hid (Run L f t)) (fun tv _ _ => n - (intOf tv).toNat)
  case atStart => exact ⟨f, 0, by omega, by omega, rfl, rfl, by omega, by omega, by trivial, by rw [Nat.sub_self]; exact Dg.zero _, Run.zero _ _⟩
  case round =>
    obtain ⟨t, v, hft, htn, rfl, rfl, hv0, hv1, rfl, HG, HU⟩ := hrel
    by_cases hlt : t < n
    · obtain ⟨b1, o1, x, hA, hbl, hx, hc⟩ := HH.out.got hlt
      injection hA with hA; injection hA with e1 e2 _; subst e1 e2
      have HX := Lib.hid hx
      clear hx hbl
      cases hd : dgB x with
      | true =>
        obtain ⟨hx0, hx1⟩ := digit_bd hd
        have HG2 : Hid (Dg (L.drop f) (t + 1 - f) (min 100000 (v * 10 + x - 48))) := by
          have := HG.out.step (c := x) (by rw [List.getElem?_drop, show f + (t - f) = t by omega]; exact HX.out) hd
          rwa [show t - f + 1 = t + 1 - f by omega] at this
        have HU2 := Lib.hid (HU.out.step HX.out hd)
        have hm0 : 0 ≤ (min 100000 (v * 10 + x - 48)) := by omega
        have hm1 : (min 100000 (v * 10 + x - 48)) ≤ 100000 := by omega
        have HC := ddigit_any x w
        rw [hd] at HC
        clear HG HU hd
        go_wp2_with fail
        refine HC.mono ?_
        rintro e w1 ⟨rfl, rfl⟩
        clear HC
        go_wp2_with fail
        go_roundw
        case rel => exact ⟨t + 1, _, by omega, by omega, by go_num, rfl, hm0, hm1, by trivial, HG2.out, HU2.out⟩
        case measure => simp [intOf]; omega
      | false =>
        have HM : Hid (many dgB (L.drop f) = t - f) := HU.out.many hft (by rw [HL.out]; exact htn) (fun y hy => by rw [HX.out] at hy; injection hy with hy; subst hy; exact hd)
        have HC := ddigit_any x w
        rw [hd] at HC
        go_wp2_with fail
        refine HC.mono ?_
        rintro e w1 ⟨rfl, rfl⟩
        clear HC hd
        as_aux_lemma =>
        have h1t : f + 1 ≤ t := by
          rcases Nat.lt_or_ge f t with h | h
          · exact h
          · have e : f = t := by omega
            have h2 := HM.out
            rw [e, Nat.sub_self] at h2
            have h3 := W.many_cons HD0.out (L.drop (f + 1))
            have h4 : L.drop f = c0 :: L.drop (f + 1) := by
              obtain ⟨h5, h6⟩ := List.getElem?_eq_some_iff.1 HF.out
              rw [List.drop_eq_getElem_cons h5, h6]
            rw [← h4, e, h2] at h3
            omega
        by_cases hz : c0 = 48 ∧ f + 1 < t
        · obtain ⟨hz1, hz2⟩ := hz
          have HE : Hid (DNumP w n f r (.returned (.tuple #[.int .i64 0, .int .i64 t, .int .i64 4])) w) := by
            have := W.num_nought HM.out ⟨by omega, by rw [List.getElem?_drop, Nat.add_zero, HF.out, hz1]⟩
            rw [← HR.out, this]
            exact ⟨rfl, 0, t, rfl, htn, fun h => by cases h⟩
          subst hz1
          clear HG HU HM
          go_wp2_with fail
          exact bodyPost_ret (v := .tuple #[.int .i64 0, .int .i64 t, .int .i64 4]) (by simp [results, Tryz.results75, go_sem]) rfl HE.out
        · have HN : Hid (¬ (1 < t - f ∧ (L.drop f)[0]? = some 48)) := fun h => hz ⟨by have := h.2; rw [List.getElem?_drop, Nat.add_zero, HF.out] at this; exact Option.some.inj this, by omega⟩
          have hgo : (c0 == 48) = false ∨ (c0 == 48) = true ∧ ¬ (f + 1 < t) := by
            by_cases h : c0 = 48
            · exact .inr ⟨by simp [h], fun h2 => hz ⟨h, h2⟩⟩
            · exact .inl (by simp [h])
          clear hz
          go_upto_region 6 with fail
          go_cut [46] (fun v wx => v = .bool false ∧ w = wx)
          case first =>
            rcases hgo with g | ⟨g, g2⟩
            · go_wp2_with fail
              go_meet
              exact ⟨rfl, rfl⟩
            · go_wp2_with fail
              go_meet
              exact ⟨by rw [show decide ((f : Int) + 1 < (t : Int)) = false by simp; omega], rfl⟩
          case rest =>
            obtain ⟨rfl, rfl⟩ := hcut
            clear hgo
            try clear hc
            clear hc0
            by_cases hk3 : 3 < t - f
            · have hk3i : (3 : Int) < (t : Int) - (f : Int) := by omega
              by_cases ht1 : t + 1 < n
              · obtain ⟨b1, o1, x, hA, hbl, hx, hcx⟩ := HH.out.got (j := t) (by omega)
                injection hA with hA; injection hA with e1 e2 _; subst e1 e2
                obtain ⟨b1, o1, y, hA, hbl', hy, hcy⟩ := HH.out.got ht1
                injection hA with hA; injection hA with e1 e2 _; subst e1 e2
                have HX := Lib.hid hx
                have HY := Lib.hid hy
                clear hx hy hbl hbl'
                by_cases h46 : x = 46
                · subst h46
                  cases hd : dgB y with
                  | true =>
                    have HDY := Lib.hid hd
                    obtain ⟨hy0, hy1⟩ := digit_bd hd
                    have HC := ddigit_any y w
                    rw [hd] at HC
                    clear hd
                    go_wp2_with fail
                    refine HC.mono ?_
                    rintro e w1 ⟨rfl, rfl⟩
                    clear HC
                    go_wp2_with fail
                    go_loopw [7, 10] (fun tv nv wx => ∃ (t2 : Nat) (R : Int), t + 1 ≤ t2 ∧ t2 ≤ n ∧ tv = .int .i64 t2 ∧ nv = .int .i64 R ∧ 0 ≤ R ∧ R ≤ 100000 ∧ w = wx ∧ Hid (Dg (L.drop (t + 1)) (t2 - (t + 1)) R) ∧ Hid (Run L (t + 1) t2)) (fun tv _ _ => n - (intOf tv).toNat)
                    case atStart => exact ⟨t + 1, 0, by omega, by omega, by go_num, rfl, by omega, by omega, by trivial, by rw [Nat.sub_self]; exact Dg.zero _, Run.zero _ _⟩
                    case round =>
                      obtain ⟨t2, R, htt2, htn2, rfl, rfl, hR0, hR1, rfl, HG2, HU2⟩ := hrel
                      clear hcx hcy
                      by_cases hlt2 : t2 < n
                      · obtain ⟨b1, o1, z, hA, hbl, hz, hcz⟩ := HH.out.got hlt2
                        injection hA with hA; injection hA with e1 e2 _; subst e1 e2
                        have HZ := Lib.hid hz
                        clear hz hbl
                        cases hd : dgB z with
                        | true =>
                          obtain ⟨hz0, hz1⟩ := digit_bd hd
                          have HG3 : Hid (Dg (L.drop (t + 1)) (t2 + 1 - (t + 1)) (min 100000 (R * 10 + z - 48))) := by
                            have := HG2.out.step (c := z) (by rw [List.getElem?_drop, show t + 1 + (t2 - (t + 1)) = t2 by omega]; exact HZ.out) hd
                            rwa [show t2 - (t + 1) + 1 = t2 + 1 - (t + 1) by omega] at this
                          have HU3 := Lib.hid (HU2.out.step HZ.out hd)
                          have hm0 : 0 ≤ (min 100000 (R * 10 + z - 48)) := by omega
                          have hm1 : (min 100000 (R * 10 + z - 48)) ≤ 100000 := by omega
                          have HC := ddigit_any z w
                          rw [hd] at HC
                          clear HG2 HU2 hd
                          go_wp2_with fail
                          refine HC.mono ?_
                          rintro e w1 ⟨rfl, rfl⟩
                          clear HC
                          go_wp2_with fail
                          go_roundw
                          case rel => exact ⟨t2 + 1, _, by omega, by omega, by go_num, rfl, hm0, hm1, by trivial, HG3.out, HU3.out⟩
                          case measure => simp [intOf]; omega
                        | false =>
                          have HM2 : Hid (many dgB (L.drop (t + 1)) = t2 - (t + 1)) := HU2.out.many htt2 (by rw [HL.out]; exact htn2) (fun y hy => by rw [HZ.out] at hy; injection hy with hy; subst hy; exact hd)
                          have HC := ddigit_any z w
                          rw [hd] at HC
                          go_wp2_with fail
                          refine HC.mono ?_
                          rintro e w1 ⟨rfl, rfl⟩
                          clear HC hd
                          have hp1 : 1 ≤ t2 - (t + 1) := by
                            have h2 := HM2.out
                            have h3 := W.many_cons HDY.out (L.drop (t + 2))
                            have h4 : L.drop (t + 1) = y :: L.drop (t + 2) := by
                              obtain ⟨h5, h6⟩ := List.getElem?_eq_some_iff.1 HY.out
                              rw [List.drop_eq_getElem_cons h5, h6]
                            rw [← h4, h2] at h3
                            omega
                          obtain ⟨p, hp⟩ : ∃ p : Nat, p = t2 - (t + 1) := ⟨_, rfl⟩
                          have hpt : (t2 : Int) = (t : Int) + 1 + (p : Int) := by omega
                          have HPP : Hid (partN (L.drop f) = p) := part_dot hft HM.out HX.out (by rw [HM2.out, hp])
                          have hE : ∀ rr : Int, (p ≤ 3 → rr = valN ((L.drop (t + 1)).take p) 3 0) → _ := fun rr h => dnum_end (w := w) (n := n) (t' := t2) HR.out HM.out h1t HN.out HPP.out HG.out h (by rw [if_pos (by omega)]; omega) htn2
                          have HEL : Hid (3 < t - f ∨ 3 < p → DNumP w n f r (.returned (.tuple #[.int .i64 0, .int .i64 t2, .int .i64 2])) w) := fun h => (hE (valN ((L.drop (t + 1)).take p) 3 0) (fun _ => rfl)).1 h
                          have HEO : Hid (∀ R2 : Int, R2 = valN ((L.drop (t + 1)).take p) 3 0 → ¬ (3 < t - f ∨ 3 < p) → DNumP w n f r (.returned (.tuple #[.int .i64 (v * 1000 + R2), .int .i64 t2, .int .i64 0])) w) := fun R2 h hl => (hE R2 (fun _ => h)).2 hl
                          have HV : Hid (p ≤ 3 → R = valN ((L.drop (t + 1)).take p) p 0) := fun h => by rw [hp]; exact HG2.out.2.2.2.2.2 (by omega)
                          have hp1' : 1 ≤ p := by omega
                          have htt : (t2 : Int) - (t : Int) - 1 = (p : Int) := by omega
                          clear hE HPP HR HM HN HG HU HU2 HG2 HM2 HX HY HDY hp hp1 hpt
                          go_wp2_with fail
                          go_loopw [10, 12] (fun rv qv wx => ∃ (q : Nat) (R2 : Int), rv = .int .i64 R2 ∧ qv = .int .i64 q ∧ p ≤ q ∧ q ≤ p + 2 ∧ (p ≤ 3 → q ≤ 3) ∧ 0 ≤ R2 ∧ (q = p → R2 ≤ 100000) ∧ (q = p + 1 → R2 ≤ 1000000) ∧ R2 ≤ 10000000 ∧ w = wx ∧ Hid (p ≤ 3 → R2 = valN ((L.drop (t + 1)).take p) q 0)) (fun _ qv _ => 3 - (intOf qv).toNat)
                          case atStart => exact ⟨p, R, rfl, by go_num, by omega, by omega, fun h => h, by omega, fun _ => by omega, fun h => by omega, by omega, by trivial, fun h => HV.out h⟩
                          case round =>
                            obtain ⟨q, R2, rfl, rfl, hq0, hq1, hq2, hR0, hR1, hR2, hR3, rfl, HV3⟩ := hrel
                            by_cases hq3 : q < 3
                            · have HV4 : Hid (p ≤ 3 → R2 * 10 = valN ((L.drop (t + 1)).take p) (q + 1) 0) := fun h => by
                                rw [W.valN_more _ q 0 (by rw [List.length_take]; omega), ← HV3.out h]
                              have hb : R2 ≤ 1000000 := by omega
                              clear HV3
                              go_wp2_with fail
                              go_roundw
                              case rel => exact ⟨q + 1, R2 * 10, rfl, by go_num, by omega, by omega, fun h => by omega, by omega, fun h => by omega, fun h => by have := hR1 (by omega); omega, by omega, by trivial, HV4.out⟩
                              case measure => simp [intOf]; omega
                            · have hq3' : True := trivial
                              clear hq3'
                              have HE : Hid (DNumP w n f r (.returned (.tuple #[.int .i64 0, .int .i64 t2, .int .i64 2])) w) := HEL.out (.inl hk3)
                              clear HEL HEO HV3 HV
                              go_wp2_with fail
                              exact bodyPost_ret (v := .tuple #[.int .i64 0, .int .i64 t2, .int .i64 2]) (by simp [results, Tryz.results75, go_sem]) rfl HE.out
                      · have HM2 : Hid (many dgB (L.drop (t + 1)) = t2 - (t + 1)) := HU2.out.many htt2 (by rw [HL.out]; exact htn2) (fun y hy => by have h1 := (List.getElem?_eq_some_iff.1 hy).1; rw [HL.out] at h1; omega)
                        have hp1 : 1 ≤ t2 - (t + 1) := by
                          have h2 := HM2.out
                          have h3 := W.many_cons HDY.out (L.drop (t + 2))
                          have h4 : L.drop (t + 1) = y :: L.drop (t + 2) := by
                            obtain ⟨h5, h6⟩ := List.getElem?_eq_some_iff.1 HY.out
                            rw [List.drop_eq_getElem_cons h5, h6]
                          rw [← h4, h2] at h3
                          omega
                        obtain ⟨p, hp⟩ : ∃ p : Nat, p = t2 - (t + 1) := ⟨_, rfl⟩
                        have hpt : (t2 : Int) = (t : Int) + 1 + (p : Int) := by omega
                        have HPP : Hid (partN (L.drop f) = p) := part_dot hft HM.out HX.out (by rw [HM2.out, hp])
                        have hE : ∀ rr : Int, (p ≤ 3 → rr = valN ((L.drop (t + 1)).take p) 3 0) → _ := fun rr h => dnum_end (w := w) (n := n) (t' := t2) HR.out HM.out h1t HN.out HPP.out HG.out h (by rw [if_pos (by omega)]; omega) htn2
                        have HEL : Hid (3 < t - f ∨ 3 < p → DNumP w n f r (.returned (.tuple #[.int .i64 0, .int .i64 t2, .int .i64 2])) w) := fun h => (hE (valN ((L.drop (t + 1)).take p) 3 0) (fun _ => rfl)).1 h
                        have HEO : Hid (∀ R2 : Int, R2 = valN ((L.drop (t + 1)).take p) 3 0 → ¬ (3 < t - f ∨ 3 < p) → DNumP w n f r (.returned (.tuple #[.int .i64 (v * 1000 + R2), .int .i64 t2, .int .i64 0])) w) := fun R2 h hl => (hE R2 (fun _ => h)).2 hl
                        have HV : Hid (p ≤ 3 → R = valN ((L.drop (t + 1)).take p) p 0) := fun h => by rw [hp]; exact HG2.out.2.2.2.2.2 (by omega)
                        have hp1' : 1 ≤ p := by omega
                        have htt : (t2 : Int) - (t : Int) - 1 = (p : Int) := by omega
                        clear hE HPP HR HM HN HG HU HU2 HG2 HM2 HX HY HDY hp hp1 hpt
                        go_wp2_with fail
                        go_loopw [10, 12] (fun rv qv wx => ∃ (q : Nat) (R2 : Int), rv = .int .i64 R2 ∧ qv = .int .i64 q ∧ p ≤ q ∧ q ≤ p + 2 ∧ (p ≤ 3 → q ≤ 3) ∧ 0 ≤ R2 ∧ (q = p → R2 ≤ 100000) ∧ (q = p + 1 → R2 ≤ 1000000) ∧ R2 ≤ 10000000 ∧ w = wx ∧ Hid (p ≤ 3 → R2 = valN ((L.drop (t + 1)).take p) q 0)) (fun _ qv _ => 3 - (intOf qv).toNat)
                        case atStart => exact ⟨p, R, rfl, by go_num, by omega, by omega, fun h => h, by omega, fun _ => by omega, fun h => by omega, by omega, by trivial, fun h => HV.out h⟩
                        case round =>
                          obtain ⟨q, R2, rfl, rfl, hq0, hq1, hq2, hR0, hR1, hR2, hR3, rfl, HV3⟩ := hrel
                          by_cases hq3 : q < 3
                          · have HV4 : Hid (p ≤ 3 → R2 * 10 = valN ((L.drop (t + 1)).take p) (q + 1) 0) := fun h => by
                              rw [W.valN_more _ q 0 (by rw [List.length_take]; omega), ← HV3.out h]
                            have hb : R2 ≤ 1000000 := by omega
                            clear HV3
                            go_wp2_with fail
                            go_roundw
                            case rel => exact ⟨q + 1, R2 * 10, rfl, by go_num, by omega, by omega, fun h => by omega, by omega, fun h => by omega, fun h => by have := hR1 (by omega); omega, by omega, by trivial, HV4.out⟩
                            case measure => simp [intOf]; omega
                          · have hq3' : True := trivial
                            clear hq3'
                            have HE : Hid (DNumP w n f r (.returned (.tuple #[.int .i64 0, .int .i64 t2, .int .i64 2])) w) := HEL.out (.inl hk3)
                            clear HEL HEO HV3 HV
                            go_wp2_with fail
                            exact bodyPost_ret (v := .tuple #[.int .i64 0, .int .i64 t2, .int .i64 2]) (by simp [results, Tryz.results75, go_sem]) rfl HE.out
                  | false =>
                    have HC := ddigit_any y w
                    rw [hd] at HC
                    have HP : partN (L.drop f) = 0 := part_no hft HM.out (.inr (by have h4 : L.drop (t + 1) = y :: L.drop (t + 2) := (by obtain ⟨h5, h6⟩ := List.getElem?_eq_some_iff.1 HY.out; rw [List.drop_eq_getElem_cons h5, h6]); rw [h4]; exact W.many_stop hd _))
                    have HE : Hid (DNumP w n f r (.returned (.tuple #[.int .i64 0, .int .i64 t, .int .i64 2])) w) := (dnum_end (w := w) (n := n) HR.out HM.out h1t HN.out HP HG.out (p := 0) (rr := 0) (fun _ => rfl) rfl htn).1 (.inl hk3)
                    clear HP HG HU HM HN HR
                    go_wp2_with fail
                    refine HC.mono ?_
                    rintro e w1 ⟨rfl, rfl⟩
                    clear HC hd
                    go_wp2_with fail
                    exact bodyPost_ret (v := .tuple #[.int .i64 0, .int .i64 t, .int .i64 2]) (by simp [results, Tryz.results75, go_sem]) rfl HE.out
                · have g46 : (x == 46) = false := by simpa using h46
                  have HP : partN (L.drop f) = 0 := part_no hft HM.out (.inl (fun h => h46 (by rw [HX.out] at h; exact Option.some.inj h)))
                  have HE : Hid (DNumP w n f r (.returned (.tuple #[.int .i64 0, .int .i64 t, .int .i64 2])) w) := (dnum_end (w := w) (n := n) HR.out HM.out h1t HN.out HP HG.out (p := 0) (rr := 0) (fun _ => rfl) rfl htn).1 (.inl hk3)
                  clear HP HG HU HM HN HR
                  clear h46
                  go_wp2_with fail
                  exact bodyPost_ret (v := .tuple #[.int .i64 0, .int .i64 t, .int .i64 2]) (by simp [results, Tryz.results75, go_sem]) rfl HE.out
              · have hno : ∀ z, L[t]? = some z → L.length = t + 1 := fun z hz => by have := (List.getElem?_eq_some_iff.1 hz).1; rw [HL.out] at this ⊢; omega
                have HP : partN (L.drop f) = 0 := part_no hft HM.out (.inr (by rw [List.drop_eq_nil_of_le (by rw [HL.out]; omega)]; rfl))
                have HE : Hid (DNumP w n f r (.returned (.tuple #[.int .i64 0, .int .i64 t, .int .i64 2])) w) := (dnum_end (w := w) (n := n) HR.out HM.out h1t HN.out HP HG.out (p := 0) (rr := 0) (fun _ => rfl) rfl htn).1 (.inl hk3)
                clear HP HG HU HM HN HR
                clear hno
                go_wp2_with fail
                exact bodyPost_ret (v := .tuple #[.int .i64 0, .int .i64 t, .int .i64 2]) (by simp [results, Tryz.results75, go_sem]) rfl HE.out
            · have hk3i : ¬ (3 : Int) < (t : Int) - (f : Int) := by omega
              by_cases ht1 : t + 1 < n
              · obtain ⟨b1, o1, x, hA, hbl, hx, hcx⟩ := HH.out.got (j := t) (by omega)
                injection hA with hA; injection hA with e1 e2 _; subst e1 e2
                obtain ⟨b1, o1, y, hA, hbl', hy, hcy⟩ := HH.out.got ht1
                injection hA with hA; injection hA with e1 e2 _; subst e1 e2
                have HX := Lib.hid hx
                have HY := Lib.hid hy
                clear hx hy hbl hbl'
                by_cases h46 : x = 46
                · subst h46
                  cases hd : dgB y with
                  | true =>
                    have HDY := Lib.hid hd
                    obtain ⟨hy0, hy1⟩ := digit_bd hd
                    have HC := ddigit_any y w
                    rw [hd] at HC
                    clear hd
                    go_wp2_with fail
                    refine HC.mono ?_
                    rintro e w1 ⟨rfl, rfl⟩
                    clear HC
                    go_wp2_with fail
                    go_loopw [7, 10] (fun tv nv wx => ∃ (t2 : Nat) (R : Int), t + 1 ≤ t2 ∧ t2 ≤ n ∧ tv = .int .i64 t2 ∧ nv = .int .i64 R ∧ 0 ≤ R ∧ R ≤ 100000 ∧ w = wx ∧ Hid (Dg (L.drop (t + 1)) (t2 - (t + 1)) R) ∧ Hid (Run L (t + 1) t2)) (fun tv _ _ => n - (intOf tv).toNat)
                    case atStart => exact ⟨t + 1, 0, by omega, by omega, by go_num, rfl, by omega, by omega, by trivial, by rw [Nat.sub_self]; exact Dg.zero _, Run.zero _ _⟩
                    case round =>
                      obtain ⟨t2, R, htt2, htn2, rfl, rfl, hR0, hR1, rfl, HG2, HU2⟩ := hrel
                      clear hcx hcy
                      by_cases hlt2 : t2 < n
                      · obtain ⟨b1, o1, z, hA, hbl, hz, hcz⟩ := HH.out.got hlt2
                        injection hA with hA; injection hA with e1 e2 _; subst e1 e2
                        have HZ := Lib.hid hz
                        clear hz hbl
                        cases hd : dgB z with
                        | true =>
                          obtain ⟨hz0, hz1⟩ := digit_bd hd
                          have HG3 : Hid (Dg (L.drop (t + 1)) (t2 + 1 - (t + 1)) (min 100000 (R * 10 + z - 48))) := by
                            have := HG2.out.step (c := z) (by rw [List.getElem?_drop, show t + 1 + (t2 - (t + 1)) = t2 by omega]; exact HZ.out) hd
                            rwa [show t2 - (t + 1) + 1 = t2 + 1 - (t + 1) by omega] at this
                          have HU3 := Lib.hid (HU2.out.step HZ.out hd)
                          have hm0 : 0 ≤ (min 100000 (R * 10 + z - 48)) := by omega
                          have hm1 : (min 100000 (R * 10 + z - 48)) ≤ 100000 := by omega
                          have HC := ddigit_any z w
                          rw [hd] at HC
                          clear HG2 HU2 hd
                          go_wp2_with fail
                          refine HC.mono ?_
                          rintro e w1 ⟨rfl, rfl⟩
                          clear HC
                          go_wp2_with fail
                          go_roundw
                          case rel => exact ⟨t2 + 1, _, by omega, by omega, by go_num, rfl, hm0, hm1, by trivial, HG3.out, HU3.out⟩
                          case measure => simp [intOf]; omega
                        | false =>
                          have HM2 : Hid (many dgB (L.drop (t + 1)) = t2 - (t + 1)) := HU2.out.many htt2 (by rw [HL.out]; exact htn2) (fun y hy => by rw [HZ.out] at hy; injection hy with hy; subst hy; exact hd)
                          have HC := ddigit_any z w
                          rw [hd] at HC
                          go_wp2_with fail
                          refine HC.mono ?_
                          rintro e w1 ⟨rfl, rfl⟩
                          clear HC hd
                          have hp1 : 1 ≤ t2 - (t + 1) := by
                            have h2 := HM2.out
                            have h3 := W.many_cons HDY.out (L.drop (t + 2))
                            have h4 : L.drop (t + 1) = y :: L.drop (t + 2) := by
                              obtain ⟨h5, h6⟩ := List.getElem?_eq_some_iff.1 HY.out
                              rw [List.drop_eq_getElem_cons h5, h6]
                            rw [← h4, h2] at h3
                            omega
                          obtain ⟨p, hp⟩ : ∃ p : Nat, p = t2 - (t + 1) := ⟨_, rfl⟩
                          have hpt : (t2 : Int) = (t : Int) + 1 + (p : Int) := by omega
                          have HPP : Hid (partN (L.drop f) = p) := part_dot hft HM.out HX.out (by rw [HM2.out, hp])
                          have hE : ∀ rr : Int, (p ≤ 3 → rr = valN ((L.drop (t + 1)).take p) 3 0) → _ := fun rr h => dnum_end (w := w) (n := n) (t' := t2) HR.out HM.out h1t HN.out HPP.out HG.out h (by rw [if_pos (by omega)]; omega) htn2
                          have HEL : Hid (3 < t - f ∨ 3 < p → DNumP w n f r (.returned (.tuple #[.int .i64 0, .int .i64 t2, .int .i64 2])) w) := fun h => (hE (valN ((L.drop (t + 1)).take p) 3 0) (fun _ => rfl)).1 h
                          have HEO : Hid (∀ R2 : Int, R2 = valN ((L.drop (t + 1)).take p) 3 0 → ¬ (3 < t - f ∨ 3 < p) → DNumP w n f r (.returned (.tuple #[.int .i64 (v * 1000 + R2), .int .i64 t2, .int .i64 0])) w) := fun R2 h hl => (hE R2 (fun _ => h)).2 hl
                          have HV : Hid (p ≤ 3 → R = valN ((L.drop (t + 1)).take p) p 0) := fun h => by rw [hp]; exact HG2.out.2.2.2.2.2 (by omega)
                          have hp1' : 1 ≤ p := by omega
                          have htt : (t2 : Int) - (t : Int) - 1 = (p : Int) := by omega
                          clear hE HPP HR HM HN HG HU HU2 HG2 HM2 HX HY HDY hp hp1 hpt
                          by_cases hp3 : 3 < p
                          · go_wp2_with fail
                            go_loopw [10, 12] (fun rv qv wx => ∃ (q : Nat) (R2 : Int), rv = .int .i64 R2 ∧ qv = .int .i64 q ∧ p ≤ q ∧ q ≤ p + 2 ∧ (p ≤ 3 → q ≤ 3) ∧ 0 ≤ R2 ∧ (q = p → R2 ≤ 100000) ∧ (q = p + 1 → R2 ≤ 1000000) ∧ R2 ≤ 10000000 ∧ w = wx ∧ Hid (p ≤ 3 → R2 = valN ((L.drop (t + 1)).take p) q 0)) (fun _ qv _ => 3 - (intOf qv).toNat)
                            case atStart => exact ⟨p, R, rfl, by go_num, by omega, by omega, fun h => h, by omega, fun _ => by omega, fun h => by omega, by omega, by trivial, fun h => HV.out h⟩
                            case round =>
                              obtain ⟨q, R2, rfl, rfl, hq0, hq1, hq2, hR0, hR1, hR2, hR3, rfl, HV3⟩ := hrel
                              by_cases hq3 : q < 3
                              · exact absurd hq3 (by omega)
                              · have hq3' : True := trivial
                                clear hq3'
                                have HE : Hid (DNumP w n f r (.returned (.tuple #[.int .i64 0, .int .i64 t2, .int .i64 2])) w) := HEL.out (.inr hp3)
                                clear HEL HEO HV3 HV
                                go_wp2_with fail
                                exact bodyPost_ret (v := .tuple #[.int .i64 0, .int .i64 t2, .int .i64 2]) (by simp [results, Tryz.results75, go_sem]) rfl HE.out
                          · go_wp2_with fail
                            go_loopw [10, 12] (fun rv qv wx => ∃ (q : Nat) (R2 : Int), rv = .int .i64 R2 ∧ qv = .int .i64 q ∧ p ≤ q ∧ q ≤ p + 2 ∧ (p ≤ 3 → q ≤ 3) ∧ 0 ≤ R2 ∧ (q = p → R2 ≤ 100000) ∧ (q = p + 1 → R2 ≤ 1000000) ∧ R2 ≤ 10000000 ∧ w = wx ∧ Hid (p ≤ 3 → R2 = valN ((L.drop (t + 1)).take p) q 0)) (fun _ qv _ => 3 - (intOf qv).toNat)
                            case atStart => exact ⟨p, R, rfl, by go_num, by omega, by omega, fun h => h, by omega, fun _ => by omega, fun h => by omega, by omega, by trivial, fun h => HV.out h⟩
                            case round =>
                              obtain ⟨q, R2, rfl, rfl, hq0, hq1, hq2, hR0, hR1, hR2, hR3, rfl, HV3⟩ := hrel
                              by_cases hq3 : q < 3
                              · have HV4 : Hid (p ≤ 3 → R2 * 10 = valN ((L.drop (t + 1)).take p) (q + 1) 0) := fun h => by
                                  rw [W.valN_more _ q 0 (by rw [List.length_take]; omega), ← HV3.out h]
                                have hb : R2 ≤ 1000000 := by omega
                                clear HV3
                                go_wp2_with fail
                                go_roundw
                                case rel => exact ⟨q + 1, R2 * 10, rfl, by go_num, by omega, by omega, fun h => by omega, by omega, fun h => by omega, fun h => by have := hR1 (by omega); omega, by omega, by trivial, HV4.out⟩
                                case measure => simp [intOf]; omega
                              · have hq3' : q = 3 := by omega
                                subst hq3'
                                have HE : Hid (DNumP w n f r (.returned (.tuple #[.int .i64 (v * 1000 + R2), .int .i64 t2, .int .i64 0])) w) := HEO.out R2 (by rw [HV3.out (by omega)]) (by omega)
                                clear HEL HEO HV3 HV
                                go_wp2_with fail
                                exact bodyPost_ret (v := .tuple #[.int .i64 (v * 1000 + R2), .int .i64 t2, .int .i64 0]) (by simp [results, Tryz.results75, go_sem]) rfl HE.out
                      · have HM2 : Hid (many dgB (L.drop (t + 1)) = t2 - (t + 1)) := HU2.out.many htt2 (by rw [HL.out]; exact htn2) (fun y hy => by have h1 := (List.getElem?_eq_some_iff.1 hy).1; rw [HL.out] at h1; omega)
                        have hp1 : 1 ≤ t2 - (t + 1) := by
                          have h2 := HM2.out
                          have h3 := W.many_cons HDY.out (L.drop (t + 2))
                          have h4 : L.drop (t + 1) = y :: L.drop (t + 2) := by
                            obtain ⟨h5, h6⟩ := List.getElem?_eq_some_iff.1 HY.out
                            rw [List.drop_eq_getElem_cons h5, h6]
                          rw [← h4, h2] at h3
                          omega
                        obtain ⟨p, hp⟩ : ∃ p : Nat, p = t2 - (t + 1) := ⟨_, rfl⟩
                        have hpt : (t2 : Int) = (t : Int) + 1 + (p : Int) := by omega
                        have HPP : Hid (partN (L.drop f) = p) := part_dot hft HM.out HX.out (by rw [HM2.out, hp])
                        have hE : ∀ rr : Int, (p ≤ 3 → rr = valN ((L.drop (t + 1)).take p) 3 0) → _ := fun rr h => dnum_end (w := w) (n := n) (t' := t2) HR.out HM.out h1t HN.out HPP.out HG.out h (by rw [if_pos (by omega)]; omega) htn2
                        have HEL : Hid (3 < t - f ∨ 3 < p → DNumP w n f r (.returned (.tuple #[.int .i64 0, .int .i64 t2, .int .i64 2])) w) := fun h => (hE (valN ((L.drop (t + 1)).take p) 3 0) (fun _ => rfl)).1 h
                        have HEO : Hid (∀ R2 : Int, R2 = valN ((L.drop (t + 1)).take p) 3 0 → ¬ (3 < t - f ∨ 3 < p) → DNumP w n f r (.returned (.tuple #[.int .i64 (v * 1000 + R2), .int .i64 t2, .int .i64 0])) w) := fun R2 h hl => (hE R2 (fun _ => h)).2 hl
                        have HV : Hid (p ≤ 3 → R = valN ((L.drop (t + 1)).take p) p 0) := fun h => by rw [hp]; exact HG2.out.2.2.2.2.2 (by omega)
                        have hp1' : 1 ≤ p := by omega
                        have htt : (t2 : Int) - (t : Int) - 1 = (p : Int) := by omega
                        clear hE HPP HR HM HN HG HU HU2 HG2 HM2 HX HY HDY hp hp1 hpt
                        by_cases hp3 : 3 < p
                        · go_wp2_with fail
                          go_loopw [10, 12] (fun rv qv wx => ∃ (q : Nat) (R2 : Int), rv = .int .i64 R2 ∧ qv = .int .i64 q ∧ p ≤ q ∧ q ≤ p + 2 ∧ (p ≤ 3 → q ≤ 3) ∧ 0 ≤ R2 ∧ (q = p → R2 ≤ 100000) ∧ (q = p + 1 → R2 ≤ 1000000) ∧ R2 ≤ 10000000 ∧ w = wx ∧ Hid (p ≤ 3 → R2 = valN ((L.drop (t + 1)).take p) q 0)) (fun _ qv _ => 3 - (intOf qv).toNat)
                          case atStart => exact ⟨p, R, rfl, by go_num, by omega, by omega, fun h => h, by omega, fun _ => by omega, fun h => by omega, by omega, by trivial, fun h => HV.out h⟩
                          case round =>
                            obtain ⟨q, R2, rfl, rfl, hq0, hq1, hq2, hR0, hR1, hR2, hR3, rfl, HV3⟩ := hrel
                            by_cases hq3 : q < 3
                            · exact absurd hq3 (by omega)
                            · have hq3' : True := trivial
                              clear hq3'
                              have HE : Hid (DNumP w n f r (.returned (.tuple #[.int .i64 0, .int .i64 t2, .int .i64 2])) w) := HEL.out (.inr hp3)
                              clear HEL HEO HV3 HV
                              go_wp2_with fail
                              exact bodyPost_ret (v := .tuple #[.int .i64 0, .int .i64 t2, .int .i64 2]) (by simp [results, Tryz.results75, go_sem]) rfl HE.out
                        · go_wp2_with fail
                          go_loopw [10, 12] (fun rv qv wx => ∃ (q : Nat) (R2 : Int), rv = .int .i64 R2 ∧ qv = .int .i64 q ∧ p ≤ q ∧ q ≤ p + 2 ∧ (p ≤ 3 → q ≤ 3) ∧ 0 ≤ R2 ∧ (q = p → R2 ≤ 100000) ∧ (q = p + 1 → R2 ≤ 1000000) ∧ R2 ≤ 10000000 ∧ w = wx ∧ Hid (p ≤ 3 → R2 = valN ((L.drop (t + 1)).take p) q 0)) (fun _ qv _ => 3 - (intOf qv).toNat)
                          case atStart => exact ⟨p, R, rfl, by go_num, by omega, by omega, fun h => h, by omega, fun _ => by omega, fun h => by omega, by omega, by trivial, fun h => HV.out h⟩
                          case round =>
                            obtain ⟨q, R2, rfl, rfl, hq0, hq1, hq2, hR0, hR1, hR2, hR3, rfl, HV3⟩ := hrel
                            by_cases hq3 : q < 3
                            · have HV4 : Hid (p ≤ 3 → R2 * 10 = valN ((L.drop (t + 1)).take p) (q + 1) 0) := fun h => by
                                rw [W.valN_more _ q 0 (by rw [List.length_take]; omega), ← HV3.out h]
                              have hb : R2 ≤ 1000000 := by omega
                              clear HV3
                              go_wp2_with fail
                              go_roundw
                              case rel => exact ⟨q + 1, R2 * 10, rfl, by go_num, by omega, by omega, fun h => by omega, by omega, fun h => by omega, fun h => by have := hR1 (by omega); omega, by omega, by trivial, HV4.out⟩
                              case measure => simp [intOf]; omega
                            · have hq3' : q = 3 := by omega
                              subst hq3'
                              have HE : Hid (DNumP w n f r (.returned (.tuple #[.int .i64 (v * 1000 + R2), .int .i64 t2, .int .i64 0])) w) := HEO.out R2 (by rw [HV3.out (by omega)]) (by omega)
                              clear HEL HEO HV3 HV
                              go_wp2_with fail
                              exact bodyPost_ret (v := .tuple #[.int .i64 (v * 1000 + R2), .int .i64 t2, .int .i64 0]) (by simp [results, Tryz.results75, go_sem]) rfl HE.out
                  | false =>
                    have HC := ddigit_any y w
                    rw [hd] at HC
                    have HP : partN (L.drop f) = 0 := part_no hft HM.out (.inr (by have h4 : L.drop (t + 1) = y :: L.drop (t + 2) := (by obtain ⟨h5, h6⟩ := List.getElem?_eq_some_iff.1 HY.out; rw [List.drop_eq_getElem_cons h5, h6]); rw [h4]; exact W.many_stop hd _))
                    have HE : Hid (DNumP w n f r (.returned (.tuple #[.int .i64 (v * 1000), .int .i64 t, .int .i64 0])) w) := by have h9 := (dnum_end (w := w) (n := n) HR.out HM.out h1t HN.out HP HG.out (p := 0) (rr := 0) (fun _ => rfl) rfl htn).2 (by omega); rw [Int.add_zero] at h9; exact h9
                    clear HP HG HU HM HN HR
                    go_wp2_with fail
                    refine HC.mono ?_
                    rintro e w1 ⟨rfl, rfl⟩
                    clear HC hd
                    go_wp2_with fail
                    exact bodyPost_ret (v := .tuple #[.int .i64 (v * 1000), .int .i64 t, .int .i64 0]) (by simp [results, Tryz.results75, go_sem]) rfl HE.out
                · have g46 : (x == 46) = false := by simpa using h46
                  have HP : partN (L.drop f) = 0 := part_no hft HM.out (.inl (fun h => h46 (by rw [HX.out] at h; exact Option.some.inj h)))
                  have HE : Hid (DNumP w n f r (.returned (.tuple #[.int .i64 (v * 1000), .int .i64 t, .int .i64 0])) w) := by have h9 := (dnum_end (w := w) (n := n) HR.out HM.out h1t HN.out HP HG.out (p := 0) (rr := 0) (fun _ => rfl) rfl htn).2 (by omega); rw [Int.add_zero] at h9; exact h9
                  clear HP HG HU HM HN HR
                  clear h46
                  go_wp2_with fail
                  exact bodyPost_ret (v := .tuple #[.int .i64 (v * 1000), .int .i64 t, .int .i64 0]) (by simp [results, Tryz.results75, go_sem]) rfl HE.out
              · have hno : ∀ z, L[t]? = some z → L.length = t + 1 := fun z hz => by have := (List.getElem?_eq_some_iff.1 hz).1; rw [HL.out] at this ⊢; omega
                have HP : partN (L.drop f) = 0 := part_no hft HM.out (.inr (by rw [List.drop_eq_nil_of_le (by rw [HL.out]; omega)]; rfl))
                have HE : Hid (DNumP w n f r (.returned (.tuple #[.int .i64 (v * 1000), .int .i64 t, .int .i64 0])) w) := by have h9 := (dnum_end (w := w) (n := n) HR.out HM.out h1t HN.out HP HG.out (p := 0) (rr := 0) (fun _ => rfl) rfl htn).2 (by omega); rw [Int.add_zero] at h9; exact h9
                clear HP HG HU HM HN HR
                clear hno
                go_wp2_with fail
                exact bodyPost_ret (v := .tuple #[.int .i64 (v * 1000), .int .i64 t, .int .i64 0]) (by simp [results, Tryz.results75, go_sem]) rfl HE.out
    · have HM : Hid (many dgB (L.drop f) = t - f) := HU.out.many hft (by rw [HL.out]; exact htn) (fun y hy => by have h1 := (List.getElem?_eq_some_iff.1 hy).1; rw [HL.out] at h1; omega)
      as_aux_lemma =>
      have h1t : f + 1 ≤ t := by
        rcases Nat.lt_or_ge f t with h | h
        · exact h
        · have e : f = t := by omega
          have h2 := HM.out
          rw [e, Nat.sub_self] at h2
          have h3 := W.many_cons HD0.out (L.drop (f + 1))
          have h4 : L.drop f = c0 :: L.drop (f + 1) := by
            obtain ⟨h5, h6⟩ := List.getElem?_eq_some_iff.1 HF.out
            rw [List.drop_eq_getElem_cons h5, h6]
          rw [← h4, e, h2] at h3
          omega
      by_cases hz : c0 = 48 ∧ f + 1 < t
      · obtain ⟨hz1, hz2⟩ := hz
        have HE : Hid (DNumP w n f r (.returned (.tuple #[.int .i64 0, .int .i64 t, .int .i64 4])) w) := by
          have := W.num_nought HM.out ⟨by omega, by rw [List.getElem?_drop, Nat.add_zero, HF.out, hz1]⟩
          rw [← HR.out, this]
          exact ⟨rfl, 0, t, rfl, htn, fun h => by cases h⟩
        subst hz1
        clear HG HU HM
        go_wp2_with fail
        exact bodyPost_ret (v := .tuple #[.int .i64 0, .int .i64 t, .int .i64 4]) (by simp [results, Tryz.results75, go_sem]) rfl HE.out
      · have HN : Hid (¬ (1 < t - f ∧ (L.drop f)[0]? = some 48)) := fun h => hz ⟨by have := h.2; rw [List.getElem?_drop, Nat.add_zero, HF.out] at this; exact Option.some.inj this, by omega⟩
        have hgo : (c0 == 48) = false ∨ (c0 == 48) = true ∧ ¬ (f + 1 < t) := by
          by_cases h : c0 = 48
          · exact .inr ⟨by simp [h], fun h2 => hz ⟨h, h2⟩⟩
          · exact .inl (by simp [h])
        clear hz
        go_upto_region 6 with fail
        go_cut [46] (fun v wx => v = .bool false ∧ w = wx)
        case first =>
          rcases hgo with g | ⟨g, g2⟩
          · go_wp2_with fail
            go_meet
            exact ⟨rfl, rfl⟩
          · go_wp2_with fail
            go_meet
            exact ⟨by rw [show decide ((f : Int) + 1 < (t : Int)) = false by simp; omega], rfl⟩
        case rest =>
          obtain ⟨rfl, rfl⟩ := hcut
          clear hgo
          try clear hc
          clear hc0
          by_cases hk3 : 3 < t - f
          · have hk3i : (3 : Int) < (t : Int) - (f : Int) := by omega
            by_cases ht1 : t + 1 < n
            · exact absurd hlt (by omega)
            · have hno : ∀ z, L[t]? = some z → L.length = t + 1 := fun z hz => by have := (List.getElem?_eq_some_iff.1 hz).1; rw [HL.out] at this ⊢; omega
              have HP : partN (L.drop f) = 0 := part_no hft HM.out (.inr (by rw [List.drop_eq_nil_of_le (by rw [HL.out]; omega)]; rfl))
              have HE : Hid (DNumP w n f r (.returned (.tuple #[.int .i64 0, .int .i64 t, .int .i64 2])) w) := (dnum_end (w := w) (n := n) HR.out HM.out h1t HN.out HP HG.out (p := 0) (rr := 0) (fun _ => rfl) rfl htn).1 (.inl hk3)
              clear HP HG HU HM HN HR
              clear hno
              go_wp2_with fail
              exact bodyPost_ret (v := .tuple #[.int .i64 0, .int .i64 t, .int .i64 2]) (by simp [results, Tryz.results75, go_sem]) rfl HE.out
          · have hk3i : ¬ (3 : Int) < (t : Int) - (f : Int) := by omega
            by_cases ht1 : t + 1 < n
            · exact absurd hlt (by omega)
            · have hno : ∀ z, L[t]? = some z → L.length = t + 1 := fun z hz => by have := (List.getElem?_eq_some_iff.1 hz).1; rw [HL.out] at this ⊢; omega
              have HP : partN (L.drop f) = 0 := part_no hft HM.out (.inr (by rw [List.drop_eq_nil_of_le (by rw [HL.out]; omega)]; rfl))
              have HE : Hid (DNumP w n f r (.returned (.tuple #[.int .i64 (v * 1000), .int .i64 t, .int .i64 0])) w) := by have h9 := (dnum_end (w := w) (n := n) HR.out HM.out h1t HN.out HP HG.out (p := 0) (rr := 0) (fun _ => rfl) rfl htn).2 (by omega); rw [Int.add_zero] at h9; exact h9
              clear HP HG HU HM HN HR
              clear hno
              go_wp2_with fail
              exact bodyPost_ret (v := .tuple #[.int .i64 (v * 1000), .int .i64 t, .int .i64 0]) (by simp [results, Tryz.results75, go_sem]) rfl HE.out
end Go.Proofs.YtdhighnbbpngpaaGreatDoor
namespace Go.Proofs.YtdhighnbbpngpaaGreatDoor
open Go.RowKit
open W (Tk St dgB ltB nmB opn many nameS)

theorem nm_is (c : Int) : nmB c = (ltB c || (dgB c || decide (c = 95))) := by
  rw [Bool.eq_iff_iff]
  unfold W.nmB
  rw [Bool.or_eq_true, Bool.or_eq_true, Bool.or_eq_true, Q.plain_iff, decide_eq_true_eq]
  unfold W.ltB W.dgB
  rw [decide_eq_true_eq, decide_eq_true_eq]
  omega
theorem nm_bd {c : Int} (h : nmB c = true) : 0 ≤ c ∧ c < 128 := by
  have h1 := W.low_nm c h
  unfold W.nmB at h
  rw [Bool.or_eq_true, Q.plain_iff, decide_eq_true_eq] at h
  omega
/-- What a loop over a name has gone through. -/
def NRun (L : List Int) (f t : Nat) : Prop := (∀ j y, f ≤ j → j < t → L[j]? = some y → nmB y = true) ∧ (f < t → ∃ y, L[f]? = some y ∧ ltB y = true)
theorem NRun.zero (L : List Int) (f : Nat) : NRun L f f := ⟨fun j y h1 h2 => by omega, fun h => by omega⟩
theorem NRun.step {L : List Int} {f t : Nat} {x : Int} (h : NRun L f t) (hx : L[t]? = some x) (hn : nmB x = true) (hl : f < t ∨ ltB x = true) (hft : f ≤ t) : NRun L f (t + 1) := by
  refine ⟨fun j y h1 h2 hy => ?_, fun _ => ?_⟩
  · rcases Nat.lt_or_ge j t with h3 | h3
    · exact h.1 j y h1 h3 hy
    · obtain rfl : j = t := by omega
      rw [hx] at hy; injection hy with hy; subst hy; exact hn
  · rcases Nat.lt_or_ge f t with h3 | h3
    · exact h.2 h3
    · obtain rfl : f = t := by omega
      rcases hl with hl | hl
      · omega
      · exact ⟨x, hx, hl⟩
theorem NRun.many {L : List Int} {f t : Nat} (h : NRun L f t) (hft : f ≤ t) (ht : t ≤ L.length) (he : ∀ x, L[t]? = some x → nmB x = false) : many nmB (L.drop f) = t - f := by
  refine W.many_at (fun j y hj hy => h.1 (f + j) y (by omega) (by omega) (by rwa [List.getElem?_drop] at hy)) (by rw [List.length_drop]; omega) fun x hx => he x ?_
  rw [List.getElem?_drop] at hx
  rwa [show f + (t - f) = t by omega] at hx
theorem head_at (L : List Int) (f : Nat) {y : Int} (h : L[f]? = some y) : (L.drop f).headD (-1) = y := by
  obtain ⟨h1, h2⟩ := List.getElem?_eq_some_iff.1 h
  rw [List.drop_eq_getElem_cons h1, h2]; rfl
theorem head_no (L : List Int) (f : Nat) (h : L.length ≤ f) : (L.drop f).headD (-1) = -1 := by rw [List.drop_eq_nil_of_le h]; rfl
/-- A name that begins with no letter. -/
theorem name_none {L : List Int} {f : Nat} (h : ∀ y, L[f]? = some y → ltB y = false) : nameS (L.drop f) = .bad 0 4 := by
  have : ltB ((L.drop f).headD (-1)) = false := by
    rcases Nat.lt_or_ge f L.length with h1 | h1
    · rw [head_at L f (List.getElem?_eq_getElem h1)]; exact h _ (List.getElem?_eq_getElem h1)
    · rw [head_no L f h1]; decide
  unfold W.nameS
  rw [if_neg (by rw [this]; decide)]
theorem name_some {L : List Int} {f t : Nat} (h : NRun L f t) (hft : f < t) (hm : many nmB (L.drop f) = t - f) : nameS (L.drop f) = if 16 < t - f then .bad 0 2 else .tok 1 ((L.drop f).take (t - f)) 0 0 (t - f) := by
  obtain ⟨y, hy, hl⟩ := h.2 hft
  unfold W.nameS
  rw [if_pos (by rw [head_at L f hy]; exact hl), hm, ← hm, W.take_many]
section
variable {X : Cx} {b : Nat} {w : World} {p o : Nat} {tv : Value} {ts : List Tk} {wr : Int}
theorem stepD_bad {w' : World} {k : Nat} {er : Int} {p' o' : Nat} {tv' : Value} {ts' : List Tk} (h : Rdx X b w' p' o' tv' ts' (plc X.L (p + k) : Nat) er) (hb : Below b w w') : StepD X b w p o ts wr (.bad k er) (.returned (.tuple #[])) w' := ⟨rfl, hb, p', o', tv', ts', h⟩
set_option maxHeartbeats 4000000 in
theorem dname_any (h : Rdx X b w p o tv ts wr 0) (hp : p < X.nc) (hts : ts.length ≤ 3000) :
    Calls Tryz.prog 70 #[.pointer (some ⟨b, 0, none⟩)] w (StepD X b w p o ts wr (nameS (X.L.drop (p + 1)))) := by
  have HH := Lib.hid h
  obtain ⟨n1, n2, n3⟩ := h.nc
  have HN1 := Lib.hid n1
  obtain ⟨c0, c1, c2, c3, c4, c5, c6⟩ := h.cells
  have f2 := h.fr 2
  obtain ⟨bA, oA, y0, hA, hbA, _, _⟩ := h.chars.got hp
  rw [hA] at c0
  have HA := Lib.hid hA
  have hcc : X.nc ≤ X.cc := h.chars.cap
  have hpp : (p : Int) < 3000 := by omega
  generalize hr : nameS (X.L.drop (p + 1)) = r
  have HR := Lib.hid hr
  clear h hA hr n1 n3
  go_enter Tryz.func70, Tryz.ntmps70
  go_wp2_with fail
  go_loopw [3] (fun tv2 wx => ∃ t : Nat, p + 1 ≤ t ∧ t ≤ X.nc ∧ tv2 = .int .i64 t ∧ w = wx ∧ Hid (NRun X.L (p + 1) t)) (fun tv2 _ => X.nc - (intOf tv2).toNat)
  case atStart => exact ⟨p + 1, by omega, by omega, by go_num, by trivial, NRun.zero _ _⟩
  case round =>
    obtain ⟨t, ht1, ht2, rfl, rfl, HU⟩ := hrel
    by_cases hlt : t < X.nc
    · obtain ⟨b1, o1, y, hA1, _, hy, hc⟩ := HH.out.chars.got hlt
      rw [HA.out] at hA1
      injection hA1 with hA1; injection hA1 with e1 e2 _; subst e1 e2
      have HY := Lib.hid hy
      have HCL := dletter_any y w
      clear hy
      cases hl : ltB y with
      | true =>
        rw [hl] at HCL
        have HU2 := Lib.hid (HU.out.step HY.out (by rw [nm_is, hl]; rfl) (.inr hl) ht1)
        clear HU HY hl
        go_wp2_with fail
        refine HCL.mono ?_
        rintro e w1 ⟨rfl, rfl⟩
        clear HCL
        go_wp2_with fail
        go_roundw
        case rel => exact ⟨t + 1, by omega, by omega, by go_num, by trivial, HU2.out⟩
        case measure => simp [intOf]; omega
      | false =>
        rw [hl] at HCL
        by_cases htp1 : t = p + 1
        · subst htp1
          go_wp2_with fail
          refine HCL.mono ?_
          rintro e w1 ⟨rfl, rfl⟩
          clear HCL
          as_aux_lemma =>
          have HNM : Hid (r = .bad 0 4) := by
            show _ = _
            rw [← HR.out]
            exact name_none (fun z hz => by rw [HY.out] at hz; injection hz with hz; subst hz; exact hl)
          clear HU HY hl
          go_wp2_with fail
          refine (dfail_any HH.out (i := p) (Nat.le_of_lt hp) 4).mono ?_
          rintro e w2 ⟨rfl, hR, hb2⟩
          rw [if_pos rfl, if_pos rfl] at hR
          have HR2 := Lib.hid hR
          have HB2 := Lib.hid hb2
          obtain ⟨k0, k1, k2, k3, k4, k5, k6⟩ := hR.cells
          have m2 := hR.fr 2
          have HE : Hid (StepD X b w p o ts wr r (.returned (.tuple #[])) (w2.setCell ⟨b, 2, none⟩ (.int .i64 ((p + 1 : Nat) : Int)))) := by
            show StepD _ _ _ _ _ _ _ _ _ _
            rw [HNM.out]
            exact stepD_bad (k := 0) (HR2.out.at_ (q := p + 1) (by omega)) (HB2.out.setCell (p := ⟨b, 2, none⟩) (Nat.le_refl _) _)
          clear hR hb2 HNM HR
          go_wp2_with fail
          exact bodyPost_ret (v := .tuple #[]) (by simp [results, Tryz.results70, go_sem]) rfl HE.out
        · have htg : ¬ (t : Int) ≤ (p : Int) + 1 := by omega
          go_wp2_with fail
          refine HCL.mono ?_
          rintro e w1 ⟨rfl, rfl⟩
          clear HCL
          have HCD := ddigit_any y w
          cases hd : dgB y with
          | true =>
            rw [hd] at HCD
            have HU2 := Lib.hid (HU.out.step HY.out (by rw [nm_is, hl, hd]; rfl) (.inl (by omega)) ht1)
            clear HU HY hl hd
            go_wp2_with fail
            refine HCD.mono ?_
            rintro e w1 ⟨rfl, rfl⟩
            clear HCD
            go_wp2_with fail
            go_roundw
            case rel => exact ⟨t + 1, by omega, by omega, by go_num, by trivial, HU2.out⟩
            case measure => simp [intOf]; omega
          | false =>
            rw [hd] at HCD
            by_cases h95 : y = 95
            · subst h95
              have HU2 := Lib.hid (HU.out.step HY.out (by decide) (.inl (by omega)) ht1)
              clear HU HY hl hd
              go_wp2_with fail
              refine HCD.mono ?_
              rintro e w1 ⟨rfl, rfl⟩
              clear HCD
              go_wp2_with fail
              go_roundw
              case rel => exact ⟨t + 1, by omega, by omega, by go_num, by trivial, HU2.out⟩
              case measure => simp [intOf]; omega
            · have g95 : (y == 95) = false := by simpa using h95
              go_wp2_with fail
              refine HCD.mono ?_
              rintro e w1 ⟨rfl, rfl⟩
              clear HCD
              as_aux_lemma =>
              have HM : Hid (many nmB (X.L.drop (p + 1)) = t - (p + 1)) := HU.out.many ht1 (by rw [HN1.out]; exact ht2) (fun z hz => by rw [HY.out] at hz; injection hz with hz; subst hz; rw [nm_is, hl, hd]; simp; exact h95)
              have hNM := name_some HU.out (by omega) HM.out
              rw [HR.out] at hNM
              have hne : ¬ (t : Int) = (p : Int) + 1 := by omega
              by_cases h16 : 16 < t - (p + 1)
              · rw [if_pos h16] at hNM
                have HNM := Lib.hid hNM
                have h16i : (16 : Int) < (t : Int) - (p : Int) - 1 := by omega
                clear HU hNM HM HR
                go_wp2_with fail
                refine (dfail_any HH.out (i := p) (Nat.le_of_lt hp) 2).mono ?_
                rintro e w2 ⟨rfl, hR, hb2⟩
                rw [if_pos rfl, if_pos rfl] at hR
                have HR2 := Lib.hid hR
                have HB2 := Lib.hid hb2
                obtain ⟨k0, k1, k2, k3, k4, k5, k6⟩ := hR.cells
                have m2 := hR.fr 2
                have HE : Hid (StepD X b w p o ts wr r (.returned (.tuple #[])) (w2.setCell ⟨b, 2, none⟩ (.int .i64 t))) := by
                  show StepD _ _ _ _ _ _ _ _ _ _
                  rw [HNM.out]
                  exact stepD_bad (k := 0) (HR2.out.at_ (q := t) ht2) (HB2.out.setCell (p := ⟨b, 2, none⟩) (Nat.le_refl _) _)
                clear hR hb2 HNM
                go_wp2_with fail
                exact bodyPost_ret (v := .tuple #[]) (by simp [results, Tryz.results70, go_sem]) rfl HE.out
              · rw [if_neg h16] at hNM
                have HNM := Lib.hid hNM
                have h16i : ¬ (16 : Int) < (t : Int) - (p : Int) - 1 := by omega
                have hR2 := HH.out.at_ (q := t) ht2
                have HR2 := Lib.hid hR2
                have HRK : Hid (RdK .i64 (w.setCell ⟨b, 2, none⟩ (.int .i64 t)) b (some ⟨bA, oA + (p + 1), none⟩) (t - (p + 1)) (X.cc - (p + 1)) ((X.L.drop (p + 1)).take (t - (p + 1)))) := by
                  have h1 := hR2.chars
                  rw [HA.out] at h1
                  exact (h1.drop (m := p + 1) (by omega)).take (by omega)
                have HLT : Hid (∀ x ∈ (X.L.drop (p + 1)).take (t - (p + 1)), 0 ≤ x ∧ x < 128) := fun x hx => by
                  obtain ⟨j, hj, e⟩ := List.getElem_of_mem hx
                  have h1 : ((X.L.drop (p + 1)).take (t - (p + 1)))[j]? = some x := by rw [List.getElem?_eq_getElem hj, e]
                  have h2 : j < t - (p + 1) := by rw [List.length_take] at hj; omega
                  rw [List.getElem?_take_of_lt h2, List.getElem?_drop] at h1
                  exact nm_bd (HU.out.1 _ x (by omega) (by omega) h1)
                have hcc2 : ¬ X.cc = p + 1 := by omega
                generalize (X.L.drop (p + 1)).take (t - (p + 1)) = xs at *
                have hsz : b ≤ (w.setCell ⟨b, 2, none⟩ (.int .i64 t)).heap.size := by have := HH.out.size; simp; omega
                have HC := Lib.hid (dtext_any HRK.out hsz (by omega) HLT.out)
                have HBW : Hid (Below b w (w.setCell ⟨b, 2, none⟩ (.int .i64 t))) := (Below.refl b w).setCell (p := ⟨b, 2, none⟩) (Nat.le_refl _) _
                have htp : ((t - (p + 1) : Nat) : Int) = (t : Int) - ((p : Int) + 1) := by omega
                clear HU hNM HM HR hR2 HRK HLT hsz
                go_wp2_with fail
                refine HC.out.mono ?_
                rintro e w2 ⟨rfl, hb2⟩
                have HRW := Lib.hid (HR2.out.below hb2)
                have HB2 := Lib.hid (HBW.out.trans (hb2.mono (by have := HR2.out.size; omega)))
                clear hb2 HC HR2 HBW
                go_wp2_with fail
                refine (dput_any HRW.out 1 0 0 0 xs (i := p) (Nat.le_of_lt hp) hts).mono ?_
                rintro e w3 ⟨rfl, ⟨tv3, hR3⟩, hb3⟩
                have HE : Hid (StepD X b w p o ts wr r (.returned (.tuple #[])) w3) := by
                  show StepD _ _ _ _ _ _ _ _ _ _
                  rw [HNM.out]
                  refine ⟨rfl, HB2.out.trans hb3, tv3, ?_⟩
                  rw [show p + (t - (p + 1)) + 1 = t by omega]
                  exact hR3
                clear hR3 hb3 HRW HNM
                go_wp2_with fail
                exact bodyPost_ret (v := .tuple #[]) (by simp [results, Tryz.results70, go_sem]) rfl HE.out
    · by_cases htp1 : t = p + 1
      · subst htp1
        as_aux_lemma =>
        have HNM : Hid (r = .bad 0 4) := by
          show _ = _
          rw [← HR.out]
          exact name_none (fun z hz => by have := (List.getElem?_eq_some_iff.1 hz).1; rw [HN1.out] at this; omega)
        clear HU
        go_wp2_with fail
        refine (dfail_any HH.out (i := p) (Nat.le_of_lt hp) 4).mono ?_
        rintro e w2 ⟨rfl, hR, hb2⟩
        rw [if_pos rfl, if_pos rfl] at hR
        have HR2 := Lib.hid hR
        have HB2 := Lib.hid hb2
        obtain ⟨k0, k1, k2, k3, k4, k5, k6⟩ := hR.cells
        have m2 := hR.fr 2
        have HE : Hid (StepD X b w p o ts wr r (.returned (.tuple #[])) (w2.setCell ⟨b, 2, none⟩ (.int .i64 ((p + 1 : Nat) : Int)))) := by
          show StepD _ _ _ _ _ _ _ _ _ _
          rw [HNM.out]
          exact stepD_bad (k := 0) (HR2.out.at_ (q := p + 1) (by omega)) (HB2.out.setCell (p := ⟨b, 2, none⟩) (Nat.le_refl _) _)
        clear hR hb2 HNM HR
        go_wp2_with fail
        exact bodyPost_ret (v := .tuple #[]) (by simp [results, Tryz.results70, go_sem]) rfl HE.out
      · as_aux_lemma =>
        have HM : Hid (many nmB (X.L.drop (p + 1)) = t - (p + 1)) := HU.out.many ht1 (by rw [HN1.out]; exact ht2) (fun z hz => by have := (List.getElem?_eq_some_iff.1 hz).1; rw [HN1.out] at this; omega)
        have hNM := name_some HU.out (by omega) HM.out
        rw [HR.out] at hNM
        have hne : ¬ (t : Int) = (p : Int) + 1 := by omega
        by_cases h16 : 16 < t - (p + 1)
        · rw [if_pos h16] at hNM
          have HNM := Lib.hid hNM
          have h16i : (16 : Int) < (t : Int) - (p : Int) - 1 := by omega
          clear HU hNM HM HR
          go_wp2_with fail
          refine (dfail_any HH.out (i := p) (Nat.le_of_lt hp) 2).mono ?_
          rintro e w2 ⟨rfl, hR, hb2⟩
          rw [if_pos rfl, if_pos rfl] at hR
          have HR2 := Lib.hid hR
          have HB2 := Lib.hid hb2
          obtain ⟨k0, k1, k2, k3, k4, k5, k6⟩ := hR.cells
          have m2 := hR.fr 2
          have HE : Hid (StepD X b w p o ts wr r (.returned (.tuple #[])) (w2.setCell ⟨b, 2, none⟩ (.int .i64 t))) := by
            show StepD _ _ _ _ _ _ _ _ _ _
            rw [HNM.out]
            exact stepD_bad (k := 0) (HR2.out.at_ (q := t) ht2) (HB2.out.setCell (p := ⟨b, 2, none⟩) (Nat.le_refl _) _)
          clear hR hb2 HNM
          go_wp2_with fail
          exact bodyPost_ret (v := .tuple #[]) (by simp [results, Tryz.results70, go_sem]) rfl HE.out
        · rw [if_neg h16] at hNM
          have HNM := Lib.hid hNM
          have h16i : ¬ (16 : Int) < (t : Int) - (p : Int) - 1 := by omega
          have hR2 := HH.out.at_ (q := t) ht2
          have HR2 := Lib.hid hR2
          have HRK : Hid (RdK .i64 (w.setCell ⟨b, 2, none⟩ (.int .i64 t)) b (some ⟨bA, oA + (p + 1), none⟩) (t - (p + 1)) (X.cc - (p + 1)) ((X.L.drop (p + 1)).take (t - (p + 1)))) := by
            have h1 := hR2.chars
            rw [HA.out] at h1
            exact (h1.drop (m := p + 1) (by omega)).take (by omega)
          have HLT : Hid (∀ x ∈ (X.L.drop (p + 1)).take (t - (p + 1)), 0 ≤ x ∧ x < 128) := fun x hx => by
            obtain ⟨j, hj, e⟩ := List.getElem_of_mem hx
            have h1 : ((X.L.drop (p + 1)).take (t - (p + 1)))[j]? = some x := by rw [List.getElem?_eq_getElem hj, e]
            have h2 : j < t - (p + 1) := by rw [List.length_take] at hj; omega
            rw [List.getElem?_take_of_lt h2, List.getElem?_drop] at h1
            exact nm_bd (HU.out.1 _ x (by omega) (by omega) h1)
          have hcc2 : ¬ X.cc = p + 1 := by omega
          generalize (X.L.drop (p + 1)).take (t - (p + 1)) = xs at *
          have hsz : b ≤ (w.setCell ⟨b, 2, none⟩ (.int .i64 t)).heap.size := by have := HH.out.size; simp; omega
          have HC := Lib.hid (dtext_any HRK.out hsz (by omega) HLT.out)
          have HBW : Hid (Below b w (w.setCell ⟨b, 2, none⟩ (.int .i64 t))) := (Below.refl b w).setCell (p := ⟨b, 2, none⟩) (Nat.le_refl _) _
          have htp : ((t - (p + 1) : Nat) : Int) = (t : Int) - ((p : Int) + 1) := by omega
          clear HU hNM HM HR hR2 HRK HLT hsz
          go_wp2_with fail
          refine HC.out.mono ?_
          rintro e w2 ⟨rfl, hb2⟩
          have HRW := Lib.hid (HR2.out.below hb2)
          have HB2 := Lib.hid (HBW.out.trans (hb2.mono (by have := HR2.out.size; omega)))
          clear hb2 HC HR2 HBW
          go_wp2_with fail
          refine (dput_any HRW.out 1 0 0 0 xs (i := p) (Nat.le_of_lt hp) hts).mono ?_
          rintro e w3 ⟨rfl, ⟨tv3, hR3⟩, hb3⟩
          have HE : Hid (StepD X b w p o ts wr r (.returned (.tuple #[])) w3) := by
            show StepD _ _ _ _ _ _ _ _ _ _
            rw [HNM.out]
            refine ⟨rfl, HB2.out.trans hb3, tv3, ?_⟩
            rw [show p + (t - (p + 1)) + 1 = t by omega]
            exact hR3
          clear hR3 hb3 HRW HNM
          go_wp2_with fail
          exact bodyPost_ret (v := .tuple #[]) (by simp [results, Tryz.results70, go_sem]) rfl HE.out
end
end Go.Proofs.YtdhighnbbpngpaaGreatDoor
