/- The program's Parse. -/
import Derived.Test.YtcmbmhcilohecaaDoorQG
import Derived.Test.YtcmbmhcilohecaaDoorQK
import Derived.Laws.MakeOwn
namespace Go.Proofs.YtcmbmhcilohecaaDoor
open Go.RowKit
open Q (isC plainB digV R numS uS escS readS textB flatT PIs)

theorem info_i64q : (Tryd.prog.info? 3).map (fun i => (i.zero, i.size, i.bytes)) = some (some (.int .i64 0), 1, 8) := by kernel_rfl
/-- A string of these bytes. -/
structure StrIs (s : ByteArray) (S : List Int) : Prop where
  eq : s = strOfNums S
  byt : ∀ x ∈ S, 0 ≤ x ∧ x < 256
theorem StrIs.size {s : ByteArray} {S : List Int} (h : StrIs s S) : s.size = S.length := by rw [h.eq, strOfNums_size]
theorem StrIs.get {s : ByteArray} {S : List Int} (h : StrIs s S) {k : Nat} {x : Int} (hx : S[k]? = some x) (hh : k < s.size) : ((s[k]'hh).toNat : Int) = x := by
  have hb := h.byt x (List.mem_of_getElem? hx)
  have e : s.data.toList = S.map fun n => UInt8.ofNat n.toNat := by rw [h.eq, strOfNums_data]
  have h1 : s.data.toList[k]? = some (UInt8.ofNat x.toNat) := by rw [e]; simp [hx]
  have h2 : s[k]'hh = UInt8.ofNat x.toNat := by
    have h3 : s.data[k]? = some (UInt8.ofNat x.toNat) := by simpa using h1
    have h4 : s.data[k]? = some (s[k]'hh) := Array.getElem?_eq_getElem (by simpa using hh)
    rw [h4] at h3
    exact Option.some.inj h3
  rw [h2]; simp; omega
theorem StrIs.cut {s : ByteArray} {S : List Int} (h : StrIs s S) (i j : Nat) : s.extract i j = strOfNums ((S.drop i).take (j - i)) := by
  apply ByteArray.ext
  apply Array.ext'
  rw [ByteArray.data_extract, Array.toList_extract, h.eq, strOfNums_data, strOfNums_data]
  simp [List.extract_eq_take_drop]
theorem read_errs {l : List Int} {p : Nat} {e : Int} (h : readS l p = .bad e) : e = 5 ∨ e = 6 := by
  have hn : ∀ (l : List Int) (d : Nat) (v : Int) (p : Nat) (e : Int), numS l d v p = .bad e → e = 5 ∨ e = 6 := by
    intro l
    induction l with
    | nil => intro d v p e h; simp [Q.numS] at h; omega
    | cons x t ih =>
      intro d v p e h
      rw [Q.numS] at h
      split at h
      · cases h
      · split at h
        · injection h with h; omega
        · exact ih _ _ _ _ h
  cases l with
  | nil => simp [Q.readS] at h; omega
  | cons x t =>
    rw [Q.readS] at h
    split at h
    · cases t with
      | nil => simp [Q.escS] at h; omega
      | cons y u =>
        rw [Q.escS] at h
        split at h
        · cases u with
          | nil => simp [Q.uS] at h; omega
          | cons z o =>
            rw [Q.uS] at h
            split at h
            · exact hn _ _ _ _ _ h
            · injection h with h; omega
        · split at h
          · cases h
          · split at h
            · cases h
            · split at h
              · cases h
              · injection h with h; omega
    · split at h
      · cases h
      · injection h with h; omega
/-- The characters under way: the first k of them are laid. -/
structure Chs (w : World) (N n : Nat) (S : List Int) (k : Nat) (wx : World) : Prop where
  blk : ∃ cs, wx.heap[N]? = some (.cells cs 3 (0, 0)) ∧ cs.size = n ∧ ∀ j x, j < k → S[j]? = some x → cs[j]? = some (.int .i64 x)
  old : Below w.heap.size w wx
  new : w.heap.size ≤ N
  size : wx.heap.size = N + 1
theorem Chs.cell {w wx : World} {N n k : Nat} {S : List Int} (h : Chs w N n S k wx) (hk : k < n) : (∃ v, wx.cell? ⟨N, k, none⟩ = some v) ∧ wx.frozen? ⟨N, k, none⟩ = false := by
  obtain ⟨cs, hb, hs, _⟩ := h.blk
  refine ⟨⟨cs[k]'(by omega), ?_⟩, frozen_of_row _ _ _ _ _ hb⟩
  rw [cell_of_row _ _ _ _ _ _ hb]
  exact Array.getElem?_eq_getElem (by omega)
theorem Chs.step {w wx : World} {N n k : Nat} {S : List Int} (h : Chs w N n S k wx) (hk : k < n) {x : Int} (hx : S[k]? = some x) : Chs w N n S (k + 1) (wx.setCell ⟨N, k, none⟩ (.int .i64 x)) := by
  obtain ⟨cs, hb, hs, hc⟩ := h.blk
  refine ⟨⟨_, heap_setCell_same _ _ _ _ _ _ hb, by simp [hs], fun j y hj hy => ?_⟩, h.old.setCell (p := ⟨N, k, none⟩) h.new _, h.new, by simp [World.setCell, h.size]⟩
  by_cases e : j = k
  · subst e
    rw [hx] at hy
    injection hy with hy
    subst hy
    simp [hs, hk]
  · rw [Array.getElem?_setIfInBounds_ne (by omega)]
    exact hc j y (by omega) hy
theorem Chs.done {w wx : World} {N n : Nat} {S : List Int} (h : Chs w N n S n wx) (hl : S.length = n) (hn : n ≤ 1000000) : RdK .i64 wx wx.heap.size (some ⟨N, 0, none⟩) n n S := by
  obtain ⟨cs, hb, hs, hc⟩ := h.blk
  refine ⟨hl, Nat.le_refl _, by unfold maxLen; omega, fun _ => ⟨N, 0, rfl, by rw [h.size]; omega, fun j x hx => ?_⟩⟩
  rw [cell_of_row _ _ _ _ _ _ hb, Nat.zero_add]
  exact hc j x (by have := (List.getElem?_eq_some_iff.1 hx).1; omega) hx
def ParseP (w : World) (S : List Int) (e : Ending) (w' : World) : Prop := ∃ A n c L x, e = .returned (.tuple #[.slice A n c, .int .i64 x]) ∧ RdK .i64 w' w'.heap.size A n c L ∧ PIs S L x ∧ Below w.heap.size w w'
theorem parseP_bad {w w' : World} {S : List Int} (h : PIs S [] 15) (hb : Below w.heap.size w w') : ParseP w S (.returned (.tuple #[.slice none 0 0, .int .i64 15])) w' := ⟨none, 0, 0, [], 15, rfl, RdK.nil _ _ _, h, hb⟩
theorem parseP_ok {w w' : World} {S L : List Int} {v : Value} {B n : Nat} (h : PIs S L 0) (ho : OwnK .i64 w' B 3 v n L) (hb : Below w.heap.size w w') : ParseP w S (.returned (.tuple #[v, .int .i64 0])) w' := by
  obtain ⟨A, c, rfl, hr⟩ := ho.rd
  exact ⟨A, n, c, L, 0, rfl, hr, h, hb⟩
theorem flat_len (L : List Int) : L.length ≤ (flatT L).length := by
  induction L with
  | nil => simp
  | cons c t ih => rw [Q.flat_cons, List.length_append]; have := Q.text_pos c; simp; omega
theorem readV_ok {L : List Int} {p k : Nat} {x : Int} (h : p ≤ L.length) (hr : readS (L.drop p) p = .ok x k) : readV L p = (x, (k : Int), 0) := by
  unfold readV; rw [if_neg (by omega)]; simp only [Int.toNat_natCast]; rw [hr]
theorem readV_bad {L : List Int} {p : Nat} {x : Int} (h : p ≤ L.length) (hr : readS (L.drop p) p = .bad x) : readV L p = (0, (p : Int), x) := by
  unfold readV; rw [if_neg (by omega)]; simp only [Int.toNat_natCast]; rw [hr]
theorem parse_bad' {S P : List Int} {j k : Nat} (hl : S.length = k) (hA : P.all isC = true) (hs : S.take j = flatT P) (hk : j < k) (h : ∀ c n, readS (S.drop j) j = .ok c n → isC c = true → (S.drop j).take (n - j) ≠ textB c) : PIs S [] 15 :=
  Q.parse_bad (by omega) hA hs h
set_option maxHeartbeats 4000000 in
theorem parse_any {w : World} {s : ByteArray} {S : List Int} (h : StrIs s S) (hn : S.length ≤ 100000) (hT : Tab w) :
    Calls Tryd.prog 13 #[.string s] w (ParseP w S) := by
  have HS := Lib.hid h
  have HT := Lib.hid hT
  have hsz := h.size
  generalize hl : S.length = n at hn hsz
  have HL := Lib.hid hl
  clear h hT hl
  obtain ⟨i0, hi0, hz0, hz1, hz2⟩ := info_k info_i64q
  have hm := run_make (P := Tryd.prog) w 22 3 i0 (.int .i64 0) Tryd.underlying22 hi0 hz0 .i64 .i64 (n : Int) (n : Int) (by omega) (Int.le_refl _) (by rw [hz2]; omega) (by omega)
  rw [hz1] at hm
  have hcs : (madeCells (Value.cells (.int .i64 0)) ((n : Int).toNat * 1)).size = n := by rw [size_madeCells]; omega
  generalize madeCells (Value.cells (.int .i64 0)) ((n : Int).toNat * 1) = cs0 at hm hcs
  have en : (n : Int).toNat = n := by omega
  rw [en] at hm
  have HC0 : Hid (Chs w w.heap.size n S 0 (w.alloc (.cells cs0 3))) := ⟨⟨cs0, heap_alloc_new w _, hcs, fun j x hj => absurd hj (by omega)⟩, kbelow_push _ _, Nat.le_refl _, by simp⟩
  clear hi0 hz0 hz1 hz2 hcs en
  go_enter Tryd.func13, Tryd.ntmps13
  go_wp2_with fail
  clear hm
  go_loopw [18] (fun iv wx => ∃ k : Nat, k ≤ n ∧ iv = .int .i64 k ∧ Hid (Chs w w.heap.size n S k wx)) (fun iv _ => n - (intOf iv).toNat)
  case atStart => exact ⟨0, by omega, rfl, HC0.out⟩
  case round =>
    obtain ⟨k, hk, rfl, HC⟩ := hrel
    by_cases hlt : k < n
    · obtain ⟨⟨v, hc⟩, hf⟩ := HC.out.cell hlt
      obtain ⟨x, hx⟩ : ∃ x, S[k]? = some x := ⟨S[k]'(by rw [HL.out]; exact hlt), List.getElem?_eq_getElem _⟩
      have g1 := HS.out.get hx
      obtain ⟨x0, x1⟩ := HS.out.byt x (List.mem_of_getElem? hx)
      have HC2 := Lib.hid (HC.out.step hlt hx)
      clear hx
      have hlt2 : k < s.size := by omega
      go_wp2_with fail
      go_roundw
      case rel => exact ⟨k + 1, by omega, by go_num, HC2.out⟩
      case measure => simp [intOf]; omega
    · obtain rfl : k = n := by omega
      have HR := Lib.hid (HC.out.done HL.out (by omega))
      have HB := Lib.hid HC.out.old
      have HN := Lib.hid HC.out.size
      clear HC HC0
      obtain ⟨W1, rfl⟩ : ∃ W1, W1 = wr := ⟨_, rfl⟩
      go_wp2_with fail
      go_loopw [6, 7] (fun lv av wx => ∃ (j : Nat) (P : List Int), j ≤ k ∧ av = .int .i64 j ∧ P.length ≤ j ∧ Hid (P.all isC = true) ∧ Hid (S.take j = flatT P) ∧ Hid (OwnK .i64 wx W1.heap.size 3 lv P.length P) ∧ Hid (Below W1.heap.size W1 wx)) (fun _ av _ => k - (intOf av).toNat)
      case atStart => exact ⟨0, [], by omega, rfl, by simp, rfl, rfl, OwnK.nil _ _ _ _, Below.refl _ _⟩
      case round =>
        obtain ⟨j, P, hj, rfl, hP, HA, HF, HO, HBj⟩ := hrel
        have HBW := Lib.hid (HB.out.trans (HBj.out.mono HB.out.size))
        by_cases hlt2 : j < k
        · have HRj := Lib.hid (HR.out.on HBj.out)
          have hcon := Lib.hid (read_any HRj.out (j : Int))
          go_wp2_with fail
          refine hcon.out.mono ?_
          rintro e w2 ⟨rfl, hb2⟩
          have HB2 := Lib.hid (HBj.out.trans (hb2.mono HBj.out.size))
          have HBW2 := Lib.hid (HB.out.trans (HB2.out.mono HB.out.size))
          have HO2 := Lib.hid (HO.out.below hb2)
          clear hb2 hcon HRj HBj HBW HO
          have hbd := parse_bad' HL.out HA.out HF.out hlt2
          cases hr : readS (S.drop j) j with
          | bad er =>
            rw [readV_bad (by rw [HL.out]; omega) hr]
            have hne : (er != 0) = true := by have := read_errs hr; simp; omega
            have HG := Lib.hid (parseP_bad (hbd (fun c m h _ => by rw [hr] at h; cases h)) HBW2.out)
            clear hbd hr
            go_wp2_with fail
            go_ret2
            exact HG.out
          | ok c m =>
            rw [readV_ok (by rw [HL.out]; omega) hr]
            obtain ⟨hc, hm0, hm1⟩ := Q.read_in hr
            have hm2 : m ≤ k := by have h1 := hm1; rw [List.length_drop, HL.out] at h1; omega
            have HCc := Lib.hid hc
            clear hm1
            have hcon := Lib.hid (text_any c (HT.out.on HBW2.out))
            go_wp2_with fail
            refine hcon.out.mono ?_
            rintro e w3 ⟨rfl, hb3⟩
            rw [textV_ok hc]
            have HB3 := Lib.hid (HB2.out.trans (hb3.mono HB2.out.size))
            have HBW3 := Lib.hid (HB.out.trans (HB3.out.mono HB.out.size))
            have HO3 := Lib.hid (HO2.out.below hb3)
            clear hb3 hcon HB2 HBW2 HO2 hc
            have hcut := HS.out.cut j m
            have heq : ((strOfNums (textB c)).toList == (strOfNums ((S.drop j).take (m - j))).toList) = decide (textB c = (S.drop j).take (m - j)) :=
              str_eqB (fun x hx => by have := Q.text_byte HCc.out x hx; omega) (fun x hx => HS.out.byt x (List.mem_of_mem_drop (List.mem_of_mem_take hx)))
            by_cases hq : textB c = (S.drop j).take (m - j)
            · have HF3 : Hid (S.take m = flatT (P ++ [c])) := by
                show S.take m = _
                have e1 : m = j + (m - j) := by omega
                rw [Q.flat_app, ← HF.out, show flatT [c] = textB c by simp [flatT], hq]
                conv => lhs; rw [e1]
                rw [List.take_add]
              have HA3 : Hid ((P ++ [c]).all isC = true) := by
                show _ = true
                rw [List.all_append, HA.out]; simp [HCc.out]
              rw [decide_eq_true hq] at heq
              clear hbd hr hq
              have hsz3 : W1.heap.size ≤ (w3.alloc (.cells #[.int .i64 c] 3)).heap.size := Nat.le_trans HB3.out.size (kbelow_push w3 _).size
              go_wp2_with (at_builtin; refine app_k .i64 rfl _ _ 22 rfl W1.heap.size 3 8 Tryd.underlying22 info_i64q (by decide) _ _ _ rfl (HO3.out.alloc _) ⟨w3.heap.size, 0, none⟩ 1 1 [c] rfl rfl (lit_k w3 _ rfl .i64 [c] _ _ rfl) (by omega) hsz3 ?_)
              intro v4 w4 ho4 hg4 _
              have HO4 : Hid (OwnK .i64 w4 W1.heap.size 3 v4 (P ++ [c]).length (P ++ [c])) := by rw [List.length_append]; exact ho4
              have HB4 := Lib.hid (below_grown (HB3.out.alloc HB3.out.size _) hg4 fun i hi => (HO3.out.block i hi).1)
              have hP4 : (P ++ [c]).length ≤ m := by rw [List.length_append]; simp; omega
              clear ho4 hg4
              go_wp2_with fail
              go_roundw
              case rel => exact ⟨m, P ++ [c], by omega, rfl, hP4, HA3.out, HF3.out, HO4.out, HB4.out⟩
              case measure => simp [intOf]; omega
            · have HG := Lib.hid (parseP_bad (hbd (fun c' m' h _ => by rw [hr] at h; injection h with h1 h2; subst h1 h2; exact fun e => hq e.symm)) HBW3.out)
              rw [decide_eq_false hq] at heq
              clear hbd hr hq
              go_wp2_with fail
              go_ret2
              exact HG.out
        · obtain rfl : j = k := by omega
          have hE : S = flatT P := by
            have h1 := HF.out
            rwa [List.take_of_length_le (by rw [HL.out]; exact Nat.le_refl _)] at h1
          have HG := Lib.hid (parseP_ok (w := w) (PIs.ok (s := S) P HA.out hE) HO.out HBW.out)
          clear hE
          go_wp2_with fail
          exact bodyPost_ret (v := .tuple #[u6, .int .i64 0]) (by simp [results, Tryd.results13, go_sem]) rfl HG.out
end Go.Proofs.YtcmbmhcilohecaaDoor
