/- Each character is in just one atom, each set is just the atoms within it, and two of one atom are in the same sets: AtomParts answers true, and nothing that lay there before is changed. -/
import Derived.Test.YtinddnedkadbaaaL6
import Derived.Test.YtinddnedkadbaaaRSame
namespace Go.Proofs.Ytinddnedkadbaaa
open Go.RowKit
open M (Rg)

/-- The ranges of the atoms with these numbers, behind one another. -/
def gathered (R : List (List Rg)) (js : List Int) : List Rg := js.flatMap fun j => (R[j.toNat]?).getD []
theorem gathered_take {R : List (List Rg)} {js : List Int} {k : Nat} {j : Int} {a : List Rg} (h : js[k]? = some j) (ha : R[j.toNat]? = some a) : gathered R (js.take (k + 1)) = gathered R (js.take k) ++ a := by
  obtain ⟨hk, hx⟩ := List.getElem?_eq_some_iff.1 h
  rw [List.take_succ_eq_append_getElem hk, hx]
  simp [gathered, ha]
theorem cov_gathered {R : List (List Rg)} {js : List Int} {x : Int} : M.covb (gathered R js) x = true ↔ ∃ j ∈ js, ∃ a, R[j.toNat]? = some a ∧ M.covb a x = true := by
  induction js with
  | nil => simp [gathered, M.covb]
  | cons j t ih =>
    have e : gathered R (j :: t) = (R[j.toNat]?).getD [] ++ gathered R t := by simp [gathered]
    rw [e, M.covb_append, Bool.or_eq_true, ih]
    constructor
    · rintro (h | ⟨i, hi, a, h1, h2⟩)
      · cases hr : R[j.toNat]? with
        | none => rw [hr] at h; cases h
        | some a => rw [hr] at h; exact ⟨j, by simp, a, hr, h⟩
      · exact ⟨i, by simp [hi], a, h1, h2⟩
    · rintro ⟨i, hi, a, h1, h2⟩
      rcases List.mem_cons.1 hi with rfl | hi
      · exact .inl (by rw [h1]; exact h2)
      · exact .inr ⟨i, hi, a, h1, h2⟩
theorem within_in {l : List Rg} : ∀ {fs : List Int} {i j : Nat} {f : Int}, fs[j]? = some f → M.hasB l f = true → ((i + j : Nat) : Int) ∈ withinFrom l i fs
  | [], _, _, _, h, _ => by simp at h
  | g :: t, i, 0, f, h, hf => by
    simp at h; subst h
    unfold withinFrom; rw [if_pos hf]; simp
  | g :: t, i, j + 1, f, h, hf => by
    have := within_in (i := i + 1) (show t[j]? = some f by simpa using h) hf
    rw [show i + 1 + j = i + (j + 1) by omega] at this
    unfold withinFrom
    split
    · exact List.mem_cons_of_mem _ this
    · exact this
theorem gathered_has {ls R : List (List Rg)} (h : M.Got ls R) {l : List Rg} (hl : l ∈ ls) (h4 : (gathered R (withinF R l)).length ≤ 400) (x : Int) : M.hasB (gathered R (withinF R l)) x = M.hasB l x := by
  have e1 : M.hasB (gathered R (withinF R l)) x = (M.isch x && M.covb (gathered R (withinF R l)) x) := by rw [M.hasB, decide_eq_true h4, Bool.true_and]
  rw [e1]
  cases hx : M.isch x with
  | false => rw [M.hasB_isch, hx]; rfl
  | true =>
    rw [Bool.true_and, Bool.eq_iff_iff, cov_gathered]
    unfold withinF
    rw [firsts_got h]
    constructor
    · rintro ⟨j, hj, a, ha, hc⟩
      obtain ⟨i, f, h1, h2, h3⟩ := within_mem hj
      have e : j.toNat = i := by omega
      rw [e] at ha
      rw [List.getElem?_map, ha] at h1
      injection h1 with h1
      subst h1
      have hm := List.mem_of_getElem? ha
      have := (M.like_iff _ _ _).1 (h.atoms.like a hm x (M.low a) hc (h.atoms.low_isch hm).2) l hl
      rw [this]; exact h2
    · intro hh
      obtain ⟨a, ha, hc⟩ := h.atoms.all x hx
      obtain ⟨j, hj⟩ := List.getElem?_of_mem ha
      have := (M.like_iff _ _ _).1 (h.atoms.like a ha x (M.low a) hc (h.atoms.low_isch ha).2) l hl
      rw [hh] at this
      exact ⟨(j : Int), by have h9 := within_in (l := l) (fs := R.map M.low) (i := 0) (j := j) (f := M.low a) (by rw [List.getElem?_map, hj]; rfl) this.symm; rwa [Nat.zero_add] at h9, a, by simpa using hj, hc⟩
theorem gathered_len {R : List (List Rg)} {m : Nat} (h : ∀ a ∈ R, a.length ≤ m) (js : List Int) : (gathered R js).length ≤ js.length * m := by
  induction js with
  | nil => simp [gathered]
  | cons j t ih =>
    have e : gathered R (j :: t) = (R[j.toNat]?).getD [] ++ gathered R t := by simp [gathered]
    have h1 : ((R[j.toNat]?).getD []).length ≤ m := by
      cases hr : R[j.toNat]? with
      | none => simp
      | some a => exact h a (List.mem_of_getElem? hr)
    rw [e, List.length_append, List.length_cons, Nat.succ_mul]
    omega
theorem within_atom {ls R : List (List Rg)} (h : M.Got ls R) {l : List Rg} {k : Nat} {j : Int} (hk : (withinF R l)[k]? = some j) : ∃ i : Nat, j = (i : Int) ∧ i < R.length := by
  have hj := List.mem_of_getElem? hk
  unfold withinF at hj
  rw [firsts_got h] at hj
  obtain ⟨i, f, h1, h2, h3⟩ := within_mem hj
  have := (List.getElem?_eq_some_iff.1 h1).1
  exact ⟨i, by omega, by simpa using this⟩
theorem class_like {ls R : List (List Rg)} (h : M.Got ls R) {x y : Int} (hx : M.isch x = true) (he : classF R x = classF R y) : M.likeB ls x y = true := by
  obtain ⟨a, ha, hc⟩ := h.atoms.all x hx
  obtain ⟨k, hk, hcl⟩ := class_at h ha hc
  rw [hcl] at he
  unfold classF at he
  cases hf : R.findIdx? (fun l => M.hasB l y) with
  | none => rw [hf] at he; exact absurd he (by show ¬ (k : Int) = -1; omega)
  | some i =>
    rw [hf] at he
    have e : k = i := by have h9 : (k : Int) = (i : Int) := he; omega
    subst e
    obtain ⟨h1, h2, _⟩ := List.findIdx?_eq_some_iff_getElem.1 hf
    obtain ⟨h3, h4⟩ := List.getElem?_eq_some_iff.1 hk
    rw [h4, M.hasB_least (h.atoms.least a ha).1 (h.narrow a ha)] at h2
    exact h.atoms.like a ha x y hc h2
theorem class_isch {ls R : List (List Rg)} (h : M.Got ls R) (x : Int) : decide (0 ≤ classF R x) = M.isch x := by
  cases hx : M.isch x with
  | true =>
    obtain ⟨a, ha, hc⟩ := h.atoms.all x hx
    obtain ⟨k, _, hcl⟩ := class_at h ha hc
    rw [hcl]; simp
  | false =>
    have : R.findIdx? (fun l => M.hasB l x) = none := by
      rw [List.findIdx?_eq_none_iff]
      intro l _
      rw [M.hasB_isch, hx]; rfl
    unfold classF
    rw [this]; rfl

set_option maxHeartbeats 4000000 in
set_option maxRecDepth 100000 in
theorem parts_walk {w : World} {A : Option Addr} {n c : Nat} {gs : List Given} (hg : RdS w w.heap.size A n c gs) (hs : SmallS gs) (x y : Int) :
    Calls Try.prog 4 #[.slice A n c, .int .i64 x, .int .i64 y] w (Boo w true) := by
  obtain ⟨i0, hi0, hz0, hz1, hz2⟩ := info_parts info_R
  have HG := Lib.hid hg
  have HS := Lib.hid hs
  clear hg hs
  go_enter Try.func4, Try.ntmps4
  go_wp2_with fail
  refine (alive2_any w).mono ?_
  rintro e w1 ⟨rfl, hb1⟩
  have HG1 := Lib.hid (HG.out.on hb1)
  have HB1 := Lib.hid hb1
  clear hb1 HG
  go_wp2_with fail
  refine (tgreat_any HG1.out HS.out 200 (by decide) (by decide)).mono ?_
  rintro e w2 ⟨rfl, rfl⟩
  by_cases hgr : (200 : Int) < (totalS gs : Int)
  · rw [decide_eq_true hgr]
    go_wp2
    go_ret
    exact ⟨rfl, HB1.out⟩
  rw [decide_eq_false hgr]
  have htot : totalS gs ≤ 200 := by omega
  obtain ⟨hn200, hl200, hsum⟩ := total_each HG1.out htot
  have HSU := Lib.hid hsum
  have hnl := HG1.out.len
  have hn : n ≤ 200 := by omega
  clear hl200 hsum hgr hn200 hnl
  go_wp2_with fail
  refine (sof_any HG1.out).mono ?_
  rintro e w3 hof
  obtain ⟨va, ea, rfl, hA⟩ := ofRes_of (of_cases hof)
  clear hof
  have hb3 := hA.below
  have HG3 := Lib.hid (HG1.out.on hb3)
  have HB3 := Lib.hid (HB1.out.trans (hb3.mono HB1.out.size))
  clear hb3 HG1 HB1
  rcases hA with ⟨_, rfl, rfl, _⟩ | ⟨Aa, na, ca, ga, rfl, rfl, hra, hga, hna, hna2, _⟩
  · go_wp2
    go_ret
    exact ⟨rfl, HB3.out⟩
  have RA := Lib.hid hra
  have GA := Lib.hid hga
  have HNA := Lib.hid hna
  clear hra hga hna
  go_wp2_with fail
  refine (sright_any RA.out).mono ?_
  rintro e w4 ⟨b4, ⟨rfl, hb4⟩, ht4⟩
  have hbt : b4 = true := ht4.2 (GA.out.atoms.parts GA.out.few GA.out.narrow)
  subst hbt
  have RA4 := Lib.hid (RA.out.on hb4)
  have HG4 := Lib.hid (HG3.out.on hb4)
  have HB4 := Lib.hid (HB3.out.trans (hb4.mono HB3.out.size))
  clear ht4 hb4 RA HG3 HB3
  go_upto_region 10 with fail
  go_cut [9] (fun v wx => v = .bool (M.isch x) ∧ wx = w4)
  case first =>
    by_cases h0 : 0 ≤ x
    · have q1 : decide (0 ≤ x) = true := by simp [h0]
      have Q2 : Hid (decide (x ≤ 1114111) = M.isch x) := by show decide (x ≤ 1114111) = M.isch x; simp [M.isch, h0]
      go_wp2_with fail
      go_meet
      exact ⟨by rw [← Q2.out], rfl⟩
    · have q1 : decide (0 ≤ x) = false := by simp; omega
      have Q2 : Hid (M.isch x = false) := by show M.isch x = false; simp [M.isch]; omega
      go_wp2_with fail
      go_meet
      exact ⟨by rw [Q2.out], rfl⟩
  case rest =>
    obtain ⟨rfl, rfl⟩ := hcut
    go_wp2_with fail
    refine (sclass_any RA4.out x).mono ?_
    rintro e w5 ⟨rfl, hb5⟩
    have HCI := Lib.hid (class_isch GA.out x)
    have q3 : (!(decide (0 ≤ classF (listsOf ga) x) == M.isch x)) = false := by rw [HCI.out]; simp
    have RA5 := Lib.hid (RA4.out.on hb5)
    have HG5 := Lib.hid (HG4.out.on hb5)
    have HB5 := Lib.hid (HB4.out.trans (hb5.mono HB4.out.size))
    clear hb5 RA4 HG4 HB4
    go_upto_region 13 with fail
    go_cut [9, 10] (fun _ v wx => ∃ sm, v = .bool sm ∧ (sm = true → M.likeB (listsOf gs) x y = true) ∧ Below w5.heap.size w5 wx)
    case first =>
      cases hi : M.isch x with
      | false =>
        go_wp2_with fail
        go_meet
        exact ⟨false, rfl, (fun h => absurd h (by decide)), Below.refl _ _⟩
      | true =>
        go_wp2_with fail
        refine (sclass_any RA5.out x).mono ?_
        rintro e w6 ⟨rfl, hb6⟩
        have RA6 := Lib.hid (RA5.out.on hb6)
        have HB6 := Lib.hid hb6
        clear hb6
        go_wp2_with fail
        refine (sclass_any RA6.out y).mono ?_
        rintro e w7 ⟨rfl, hb7⟩
        have HB7 := Lib.hid (HB6.out.trans (hb7.mono HB6.out.size))
        have HLK : Hid ((classF (listsOf ga) x == classF (listsOf ga) y) = true → M.likeB (listsOf gs) x y = true) := fun h => class_like GA.out hi (by simpa using h)
        clear hb7 q3 hi
        go_wp2_with fail
        go_meet
        exact ⟨_, rfl, HLK.out, HB7.out⟩
    case rest =>
      obtain ⟨sm, rfl, hlk, hb6⟩ := hcut
      have HLK := Lib.hid hlk
      have RA6 := Lib.hid (RA5.out.on hb6)
      have HG6 := Lib.hid (HG5.out.on hb6)
      have HB6 := Lib.hid (HB5.out.trans (hb6.mono HB5.out.size))
      clear hlk hb6 RA5 HG5 HB5 q3 HCI
      cases sm
      all_goals
        go_wp2_with fail
        go_loopw [11] (fun i wx => ∃ k : Nat, k ≤ n ∧ i = .int .i64 k ∧ Below wc.heap.size wc wx) (fun i _ => n - (intOf i).toNat)
        case atStart => exact ⟨0, Nat.zero_le _, rfl, Below.refl _ _⟩
        case round =>
          obtain ⟨k, hk, rfl, hbel⟩ := hrel
          by_cases hlt : k < n
          · obtain ⟨b1, o1, g, rfl, hbb1, hr, k1, hrd⟩ := (HG6.out.on hbel).got hlt
            have HIN : Hid (g.l ∈ listsOf gs) := by
              show g.l ∈ listsOf gs
              simp only [listsOf, List.mem_map]; exact ⟨g, List.mem_of_getElem? hr, rfl⟩
            have HRD := Lib.hid hrd
            have RA7 := Lib.hid (RA6.out.on hbel)
            have HBL := Lib.hid hbel
            have hb1s : b1 < wr.heap.size := by simpa using hbb1
            clear hr hrd hbel hbb1
            obtain ⟨gA, gn, gc, gl⟩ := g
            have k2 : wr.cell? ⟨b1, o1 + k, none⟩ = some (.slice gA gn gc) := k1
            clear k1
            go_wp2
            first
            | (go_quiet (fail)
               go_wp2_with fail)
            | (have hxy : M.hasB gl x = M.hasB gl y := (M.like_iff _ _ _).1 (HLK.out (by first | rfl | trivial)) gl HIN.out
               have t1 : (!(M.hasB gl x == M.hasB gl y)) = false := by rw [hxy]; simp
               clear hxy
               go_quiet (first | (go_at_call_of 22 (Value.int IntKind.i64 x); exact rhas_quiet HRD.out x _) | (go_at_call_of 22 (Value.int IntKind.i64 y); exact rhas_quiet HRD.out y _))
               go_wp2_with fail)
            have hbq : Below wr.heap.size wr (wr.drewN nq) := below_drewN (Below.refl _ _) nq
            have RA8 := Lib.hid (RA7.out.on hbq)
            have HRD8 := Lib.hid (HRD.out.on hbq)
            have k3 := (hbq.cell (p := ⟨b1, o1 + k, none⟩) hb1s).trans k2
            have hs8 : wr.heap.size ≤ (wr.drewN nq).heap.size := hbq.size
            have HBL8 := Lib.hid (HBL.out.trans (hbq.mono HBL.out.size))
            clear hbq RA7 HRD k2 HBL
            refine (swithin_any RA8.out (by have := RA8.out.len; omega) HRD8.out).mono ?_
            rintro e w9 ⟨A9, n9, c9, rfl, hi9, hb9⟩
            have HN9 : Hid (n9 ≤ 200) := by
              have h1 := hi9.len
              have h2 := within_len gl 0 (firstsF (listsOf ga))
              have h3 : (firstsF (listsOf ga)).length = ga.length := by simp [firstsF, listsOf]
              have h4 := RA8.out.len
              unfold withinF at h1
              show n9 ≤ 200
              omega
            have RI9 := Lib.hid hi9
            have RA9 := Lib.hid (RA8.out.on hb9)
            have HRD9 := Lib.hid (HRD8.out.on hb9)
            have k4 := (hb9.cell (p := ⟨b1, o1 + k, none⟩) (by show b1 < _; omega)).trans k3
            have hb9s : b1 < w9.heap.size := by have := hb9.size; omega
            have HBL9 := Lib.hid (HBL8.out.trans (hb9.mono HBL8.out.size))
            clear hi9 hb9 RA8 HRD8 k3 HBL8 hs8 hb1s
            go_wp2_with fail
            go_loopw [12, 14] (fun v i wx => ∃ j : Nat, j ≤ n9 ∧ i = .int .i64 j ∧ GathW w9 (gathered (listsOf ga) ((withinF (listsOf ga) gl).take j)) v wx) (fun _ i _ => n9 - (intOf i).toNat)
            case atStart => exact ⟨0, Nat.zero_le _, rfl, none, 0, 0, rfl, World.ownsRow_nil _ _ _ _, Below.refl _ _⟩
            case round =>
              obtain ⟨j, hj, rfl, A1, m1, c1, rfl, ho1, hb1⟩ := hrel
              have hn9 : n9 ≤ 200 := HN9.out
              have hm1 : m1 ≤ 40200 := by
                have h1 := gathered_len (m := 201) (fun a ha => by have := M.atom_len GA.out.atoms ha; have := HSU.out; omega) ((withinF (listsOf ga) gl).take j)
                have h2 := ho1.len
                have h3 := HN9.out
                have h4 : ((withinF (listsOf ga) gl).take j).length ≤ j := by simp; omega
                have h5 : ((withinF (listsOf ga) gl).take j).length * 201 ≤ 200 * 201 := Nat.mul_le_mul_right _ (by omega)
                omega
              by_cases hlt2 : j < n9
              · obtain ⟨b2, o2, f, hA9, hbb2, hr2, k5⟩ := RI9.out.got hlt2
                subst hA9
                obtain ⟨i, rfl, hi⟩ := within_atom GA.out hr2
                have hin : i < na := by have := RA9.out.len; simp [listsOf] at hi; omega
                obtain ⟨b3, o3, g3, hA3, hbb3, hr3, k6, hrd3⟩ := RA9.out.got hin
                subst hA3
                have hg3 : (listsOf ga)[i]? = some g3.l := by simp [listsOf, hr3]
                have HT := Lib.hid (gathered_take hr2 (by simpa using hg3))
                have hne : 0 < g3.n := by
                  have h1 := (GA.out.atoms.least g3.l (List.mem_of_getElem? hg3)).2
                  have h2 := hrd3.len
                  have h3 := List.length_pos_iff.2 h1
                  omega
                have hle : g3.n ≤ 201 := by
                  have h1 := M.atom_len GA.out.atoms (List.mem_of_getElem? hg3)
                  have h2 := hrd3.len
                  have h3 := HSU.out
                  omega
                have k7 := (hb1.cell (p := ⟨b2, o2 + j, none⟩) hbb2).trans k5
                have k8 := (hb1.cell (p := ⟨b3, o3 + i, none⟩) hbb3).trans k6
                have hrd4 := hrd3.on hb1
                obtain ⟨gA3, gn3, gc3, gl3⟩ := g3
                obtain ⟨b', o', hgA, hbl, hcs⟩ := hrd4.at_ hne
                have hgA' : gA3 = some ⟨b', o', none⟩ := hgA
                subst hgA'
                have HNW : Hid (∀ (j : Nat) (u : Value), (cellsR gl3)[j]? = some u → wr.cell? ((⟨b', o', none⟩ : Addr).add j) = some u) := fun j u hu => by rw [add_none]; exact hcs j u hu
                have HGL : Hid ((cellsR gl3).length = gn3 * 2) := by show (cellsR gl3).length = gn3 * 2; rw [cellsR_len]; have : gl3.length = gn3 := hrd4.len; omega
                have hne' : 0 < gn3 := hne
                have hle' : gn3 ≤ 201 := hle
                have k8' : wr.cell? ⟨b3, o3 + i, none⟩ = some (.slice (some ⟨b', o', none⟩) gn3 gc3) := k8
                have hs1 : w9.heap.size ≤ wr.heap.size := hb1.size
                have HO1 := Lib.hid ho1
                have HB1 := Lib.hid hb1
                clear ho1 hb1 hr2 hi hr3 k5 k6 hrd3 hg3 hne hle k8 hrd4 hgA hbl hcs hbb2 hbb3
                go_wp2_with (at_builtin; refine wpList_append_own _ rfl _ _ 23 rfl w9.heap.size 47 i0 (.agg #[.int .i64 0, .int .i64 0]) 2 16 Try.underlying23 hi0 hz0 hz1 hz2 rfl (by decide) _ _ _ rfl HO1.out ⟨b', o', none⟩ gn3 gc3 (cellsR gl3) rfl HGL.out HNW.out (cellsR_one _) (by simp only [maxLen]; omega) (by omega) hs1 ?_; intro v' w10 hown' hgrow _; have HRR := Lib.hid (gathW_of (n := m1 + gn3) (L := gathered (listsOf ga) ((withinF (listsOf ga) gl).take (j + 1))) (by rw [HT.out, cellsR_append]; exact hown') (HB1.out.grown hgrow hs1 (fun i hi => (HO1.out.lt i hi).1))); clear hown' hgrow)
                go_roundw
                case rel => exact ⟨j + 1, by omega, by go_num, HRR.out⟩
                case measure => simp [intOf]; omega
              · have ht : (withinF (listsOf ga) gl).take j = withinF (listsOf ga) gl := List.take_of_length_le (by rw [RI9.out.len]; omega)
                rw [ht] at ho1
                have k5 := (hb1.cell (p := ⟨b1, o1 + k, none⟩) hb9s).trans k4
                have HRD10 := Lib.hid (HRD9.out.on hb1)
                have HBL10 := Lib.hid (HBL9.out.trans (hb1.mono HBL9.out.size))
                have HAL := Lib.hid ho1.rd
                by_cases h4 : m1 ≤ 400
                · have HSM : Hid (sameL (M.plainL (gathered (listsOf ga) (withinF (listsOf ga) gl))) (M.plainL gl) = true) := same_has fun c => gathered_has GA.out HIN.out (by rw [ho1.len]; exact h4) c
                  have z1 : decide (m1 ≤ 400) = true := by simp [h4]
                  have z2 : decide ((m1 : Int) ≤ 400) = true := by simp; omega
                  clear ht ho1 hb1
                  go_wp2_with fail
                  refine (rsame_any HAL.out HRD10.out).mono ?_
                  rintro e w10 ⟨rfl, hb10⟩
                  rw [HSM.out]
                  have HBL11 := Lib.hid (HBL10.out.trans (hb10.mono HBL10.out.size))
                  clear hb10
                  go_wp2_with fail
                  go_roundw
                  case rel => exact ⟨k + 1, by omega, by go_num, HBL11.out⟩
                  case measure => simp [intOf]; omega
                · have z1 : decide (m1 ≤ 400) = false := by simp; omega
                  have z2 : decide ((m1 : Int) ≤ 400) = false := by simp; omega
                  clear ht ho1 hb1
                  go_wp2_with fail
                  go_roundw
                  case rel => exact ⟨k + 1, by omega, by go_num, HBL10.out⟩
                  case measure => simp [intOf]; omega
          · have HBE := Lib.hid (HB6.out.trans (hbel.mono HB6.out.size))
            clear hbel
            go_wp2
            go_ret
            exact ⟨rfl, HBE.out⟩
end Go.Proofs.Ytinddnedkadbaaa
