/- The document's ink: all, deep, Right. -/
import Derived.Test.YtmohefgdpddldaaGreatDoorCP22
import Derived.Test.YtmohefgdpddldaaGreatDoorCP23
import Derived.Deep.RegionWith
set_option maxRecDepth 100000
namespace Go.Proofs.YtmohefgdpddldaaGreatDoor
open Go.RowKit
open Y (Nd It noName)
open K (numsOf nameB twoB innerB endsD endsL badD pairD nodeD allD deepD deepM rightB)

def AllHeld (N b o : Nat) (x y : Nd) (A : Option Addr) (n c : Nat) (A1 : Option Addr) (n1 c1 : Nat) (w' : World) : Prop :=
 w'.cell? ⟨N, 0, none⟩ = some (.int .i64 x.kind) ∧ w'.cell? ⟨N, 4, none⟩ = some (.slice A n c) ∧ w'.cell? ⟨b, o, none⟩ = some (.int .i64 y.kind) ∧ w'.cell? ⟨b, o + 1, none⟩ = some (.string y.name) ∧ w'.cell? ⟨b, o + 2, none⟩ = some (.int .i64 y.low) ∧ w'.cell? ⟨b, o + 3, none⟩ = some (.int .i64 y.high) ∧ w'.cell? ⟨b, o + 4, none⟩ = some (.slice A1 n1 c1)
theorem AllHeld.on {N b o : Nat} {x y : Nd} {A : Option Addr} {n c : Nat} {A1 : Option Addr} {n1 c1 : Nat} {w w' : World} (h : AllHeld N b o x y A n c A1 n1 c1 w) (hN : N < w.heap.size) (hb : b < w.heap.size) (h2 : Below w.heap.size w w') : AllHeld N b o x y A n c A1 n1 c1 w' :=
 ⟨held_cell6 h2 hN h.1, held_cell6 h2 hN h.2.1, held_cell6 h2 hb h.2.2.1, held_cell6 h2 hb h.2.2.2.1, held_cell6 h2 hb h.2.2.2.2.1, held_cell6 h2 hb h.2.2.2.2.2.1, held_cell6 h2 hb h.2.2.2.2.2.2⟩
def AllK7 (k : Nat) : Prop := ∀ (x : Nd), x.size ≤ k → ∀ (wi : Bool) (w : World) (A : Option Addr) (n c : Nat), RdN w (Lt w) A n c x.kids →
 Calls Tryz.prog 42 #[.agg #[.int .i64 x.kind, .string x.name, .int .i64 x.low, .int .i64 x.high, .slice A n c], .bool wi] w (BooK w (allD wi x))
theorem all_taken {p : Nd → Bool} {l : List Nd} {j : Nat} {y : Nd} (h : (l.take j).all p = true) (hy : l[j]? = some y) (hp : p y = true) : (l.take (j + 1)).all p = true := by
 rw [List.take_add_one, hy, List.all_append, h]; simp [hp]
theorem all_fail {p : Nd → Bool} {l : List Nd} {j : Nat} {y : Nd} (hy : l[j]? = some y) (hp : p y = false) : l.all p = false := by
 rw [← Bool.not_eq_true]
 intro h
 rw [List.all_eq_true.1 h y (List.mem_of_getElem? hy)] at hp; cases hp
set_option maxHeartbeats 4000000 in
theorem all7_step {k : Nat} (ih : AllK7 k) : AllK7 (k + 1) := by
 intro x hk wi w A n c ha
 have hkk : Y.sizeL x.kids ≤ k := by have := K.size_eq x; omega
 have HP := Lib.hid (kbelow_push w (.cells #[.int .i64 x.kind, .string x.name, .int .i64 x.low, .int .i64 x.high, .slice A n c] 24))
 have HA := Lib.hid (ha.on HP.out)
 have HROW := Lib.hid (heap_alloc_new w (.cells #[.int .i64 x.kind, .string x.name, .int .i64 x.low, .int .i64 x.high, .slice A n c] 24))
 have hz : (w.alloc (.cells #[.int .i64 x.kind, .string x.name, .int .i64 x.low, .int .i64 x.high, .slice A n c] 24)).heap.size = w.heap.size + 1 := by simp
 have hsm := ha.small
 have HB : Hid (Below w.heap.size w (w.alloc (.cells #[.int .i64 x.kind, .string x.name, .int .i64 x.low, .int .i64 x.high, .slice A n c] 24))) := HP.out
 have hn := ha.len
 have HN := Lib.hid (node_any wi HA.out)
 have hF := K.allD_eq x wi
 have HKK := Lib.hid hkk
 have HLN := Lib.hid hn
 clear ha hk hkk hn
 have k4 : (x.kind == 4) = decide (x.kind = 4) := beqd _ _
 rw [← k4] at hF
 clear k4
 generalize allD wi x = res at *
 generalize nodeD x wi = q at *
 go_enter Tryz.func42, Tryz.ntmps42
 go_wp2_with fail
 generalize w.alloc (.cells #[.int .i64 x.kind, .string x.name, .int .i64 x.low, .int .i64 x.high, .slice A n c] 24) = W1 at *
 refine HN.out.mono ?_
 rintro e w2 ⟨rfl, hb2⟩
 have HB2 := Lib.hid (HB.out.trans (hb2.mono HB.out.size))
 have HROW2 := Lib.hid ((hb2.block w.heap.size (by omega)).trans HROW.out)
 have HA2 := Lib.hid (HA.out.on hb2)
 have hz2 := hb2.size
 clear hb2 HN HROW HB HP
 have HF := Lib.hid hF
 clear hF
 cases q with
 | false =>
  clear HA2
  go_wp2_with fail
  go_ret
  exact ⟨ret_bool (by rw [HF.out]; rfl), HB2.out⟩
 | true =>
  have hwb : ∃ b : Bool, b = (wi || (x.kind == 4)) := ⟨_, rfl⟩
  obtain ⟨b, hbb⟩ := hwb
  have HBB := Lib.hid hbb
  go_wp2_with fail
  go_loopw [5] (fun iv wx => ∃ j : Nat, j ≤ n ∧ iv = .int .i64 j ∧ Hid ((x.kids.take j).all (allD b) = true) ∧ Hid (Below w2.heap.size w2 wx)) (fun iv _ => n - (intOf iv).toNat)
  case atStart => exact ⟨0, by omega, rfl, (by show _ = _; rw [List.take_zero]; rfl), Below.refl _ _⟩
  case round =>
   obtain ⟨j, hj, rfl, HD, HBL⟩ := hrel
   obtain ⟨r0, r1, r2, r3, r4⟩ := cells5 ((HBL.out.block w.heap.size (by omega)).trans HROW2.out)
   have HA3 := Lib.hid (HA2.out.on HBL.out)
   by_cases hlt : j < n
   ·obtain ⟨b1, o1, y, A1, n1, c1, hA1, hb1, hy, hr1, s0, s1, s2, s3, s4⟩ := HA3.out.got hlt
    subst hA1
    have hyk : y.size ≤ k := by have := size_mem hy; have h1 := HKK.out; omega
    have HBD : Hid (Below wr.heap.size wr wr.drew) := kbelow_drewN (Below.refl _ _) 1
    have HC := Lib.hid (ih y hyk b wr.drew A1 n1 c1 (hr1.on HBD.out))
    have hb1' : b1 < wr.heap.size := hb1
    have hN : w.heap.size < wr.drew.heap.size := by have := HBL.out.size; show w.heap.size < wr.heap.size; omega
    have HK0 : Hid (AllHeld w.heap.size b1 (o1 + j * 5) x y (some ⟨b1, o1, none⟩) n c A1 n1 c1 wr.drew) := ⟨r0, r4, s0, s1, s2, s3, s4⟩
    have HY1 : Hid (allD b y = true → (x.kids.take (j + 1)).all (allD b) = true) := fun h => all_taken HD.out hy h
    have HY0 : Hid (allD b y = false → x.kids.all (allD b) = false) := fun h => all_fail hy h
    clear hy hr1 hb1 HA3 hyk HD
    generalize allD b y = r at *
    have hj0 : (0 : Int) ≤ (j : Int) := by omega
    have hj1 : (j : Int) < (n : Int) := by omega
    cases wi with
    | true =>
     rw [Bool.true_or] at hbb
     subst hbb
     go_wp2_with fail
     first | go_region_with ((go_at_call 42; (with_reducible refine HC.out.mono ?_); rintro e w3 ⟨rfl, hb3⟩; have HB3 := Lib.hid (HBL.out.trans ((HBD.out.trans (hb3.mono HBD.out.size)).mono HBL.out.size)); clear hb3 HBL HC HK0)) | fail
     all_goals
      cases r with
      | true =>
       have HD2 := Lib.hid (HY1.out rfl)
       clear HY1 HY0
       go_wp2_with fail
       go_roundw
       case rel => exact ⟨j + 1, by omega, by go_num, HD2.out, HB3.out⟩
       case measure => simp [intOf]; omega
      | false =>
       have HE : Hid (res = false) := by show _ = _; rw [HF.out, ← HBB.out, HY0.out rfl]; rfl
       clear HY1 HY0 HF
       go_wp2_with fail
       go_ret
       exact ⟨ret_bool HE.out.symm, HB2.out.trans (HB3.out.mono HB2.out.size)⟩
    | false =>
     rw [Bool.false_or] at hbb
     cases k4 : (x.kind == 4) with
     | true =>
      rw [k4] at hbb
      subst hbb
      go_wp2_with fail
      go_region_held_law (fun w' => w'.cell? ⟨w.heap.size, 0, none⟩ = some (.int .i64 x.kind) ∧ w'.cell? ⟨w.heap.size, 4, none⟩ = some (.slice (some ⟨b1, o1, none⟩) n c) ∧ w'.cell? ⟨b1, o1 + j * 5, none⟩ = some (.int .i64 y.kind) ∧ w'.cell? ⟨b1, o1 + j * 5 + 1, none⟩ = some (.string y.name) ∧ w'.cell? ⟨b1, o1 + j * 5 + 2, none⟩ = some (.int .i64 y.low) ∧ w'.cell? ⟨b1, o1 + j * 5 + 3, none⟩ = some (.int .i64 y.high) ∧ w'.cell? ⟨b1, o1 + j * 5 + 4, none⟩ = some (.slice A1 n1 c1)) (first | exact HK0.out | exact HK1.out) ((go_at_call 42; (with_reducible refine HC.out.mono ?_); rintro e w3 ⟨rfl, hb3⟩; have HB3 := Lib.hid (HBL.out.trans ((HBD.out.trans (hb3.mono HBD.out.size)).mono HBL.out.size)); have HK1 := Lib.hid (HK0.out.on hN hb1' hb3); clear hb3)); clear HBL HC HK0 HK1
      cases r with
      | true =>
       have HD2 := Lib.hid (HY1.out rfl)
       clear HY1 HY0
       go_wp2_with fail
       go_roundw
       case rel => exact ⟨j + 1, by omega, by go_num, HD2.out, HB3.out⟩
       case measure => simp [intOf]; omega
      | false =>
       have HE : Hid (res = false) := by show _ = _; rw [HF.out, ← HBB.out, HY0.out rfl]; rfl
       clear HY1 HY0 HF
       go_wp2_with fail
       go_ret
       exact ⟨ret_bool HE.out.symm, HB2.out.trans (HB3.out.mono HB2.out.size)⟩
     | false =>
      rw [k4] at hbb
      subst hbb
      go_wp2_with fail
      go_region_held_law (fun w' => w'.cell? ⟨w.heap.size, 0, none⟩ = some (.int .i64 x.kind) ∧ w'.cell? ⟨w.heap.size, 4, none⟩ = some (.slice (some ⟨b1, o1, none⟩) n c) ∧ w'.cell? ⟨b1, o1 + j * 5, none⟩ = some (.int .i64 y.kind) ∧ w'.cell? ⟨b1, o1 + j * 5 + 1, none⟩ = some (.string y.name) ∧ w'.cell? ⟨b1, o1 + j * 5 + 2, none⟩ = some (.int .i64 y.low) ∧ w'.cell? ⟨b1, o1 + j * 5 + 3, none⟩ = some (.int .i64 y.high) ∧ w'.cell? ⟨b1, o1 + j * 5 + 4, none⟩ = some (.slice A1 n1 c1)) (first | exact HK0.out | exact HK1.out) ((go_at_call 42; (with_reducible refine HC.out.mono ?_); rintro e w3 ⟨rfl, hb3⟩; have HB3 := Lib.hid (HBL.out.trans ((HBD.out.trans (hb3.mono HBD.out.size)).mono HBL.out.size)); have HK1 := Lib.hid (HK0.out.on hN hb1' hb3); clear hb3)); clear HBL HC HK0 HK1
      cases r with
      | true =>
       have HD2 := Lib.hid (HY1.out rfl)
       clear HY1 HY0
       go_wp2_with fail
       go_roundw
       case rel => exact ⟨j + 1, by omega, by go_num, HD2.out, HB3.out⟩
       case measure => simp [intOf]; omega
      | false =>
       have HE : Hid (res = false) := by show _ = _; rw [HF.out, ← HBB.out, HY0.out rfl]; rfl
       clear HY1 HY0 HF
       go_wp2_with fail
       go_ret
       exact ⟨ret_bool HE.out.symm, HB2.out.trans (HB3.out.mono HB2.out.size)⟩
   ·obtain rfl : j = n := by omega
    have HE : Hid (res = true) := by
     have hall := HD.out
     rw [List.take_of_length_le (by rw [HLN.out]; exact Nat.le_refl _)] at hall
     show _ = _
     rw [HF.out, ← HBB.out, hall]; rfl
    clear HF HA3 HD
    go_wp2_with fail
    go_ret
    exact ⟨ret_bool HE.out.symm, HB2.out.trans (HBL.out.mono HB2.out.size)⟩
theorem all7_any {x : Nd} {w : World} {A : Option Addr} {n c : Nat} (wi : Bool) (ha : RdN w (Lt w) A n c x.kids) :
  Calls Tryz.prog 42 #[.agg #[.int .i64 x.kind, .string x.name, .int .i64 x.low, .int .i64 x.high, .slice A n c], .bool wi] w (BooK w (allD wi x)) := by
 have h : ∀ k, AllK7 k := by
  intro k
  induction k with
  | zero => intro x h; have := Nd.size_pos x; omega
  | succ k ih => exact all7_step ih
 exact h x.size x (Nat.le_refl _) wi w A n c ha
def DeepK7 (k : Nat) : Prop := ∀ (x : Nd), x.size ≤ k → k ≤ 1000 → ∀ (w : World) (A : Option Addr) (n c : Nat), RdN w (Lt w) A n c x.kids →
 Calls Tryz.prog 41 #[.agg #[.int .i64 x.kind, .string x.name, .int .i64 x.low, .int .i64 x.high, .slice A n c]] w (NumK w (deepD x : Int))
set_option maxHeartbeats 4000000 in
theorem deep7_step {k : Nat} (ih : DeepK7 k) : DeepK7 (k + 1) := by
 intro x hk hk1 w A n c ha
 have hkk : Y.sizeL x.kids ≤ k := by have := K.size_eq x; omega
 have HP := Lib.hid (kbelow_push w (.cells #[.int .i64 x.kind, .string x.name, .int .i64 x.low, .int .i64 x.high, .slice A n c] 24))
 have HA := Lib.hid (ha.on HP.out)
 have HROW := Lib.hid (heap_alloc_new w (.cells #[.int .i64 x.kind, .string x.name, .int .i64 x.low, .int .i64 x.high, .slice A n c] 24))
 have hz : (w.alloc (.cells #[.int .i64 x.kind, .string x.name, .int .i64 x.low, .int .i64 x.high, .slice A n c] 24)).heap.size = w.heap.size + 1 := by simp
 have hsm := ha.small
 have HB : Hid (Below w.heap.size w (w.alloc (.cells #[.int .i64 x.kind, .string x.name, .int .i64 x.low, .int .i64 x.high, .slice A n c] 24))) := HP.out
 have hn := ha.len
 have HKK := Lib.hid hkk
 have HLN := Lib.hid hn
 have HDS : Hid (deepD x = deepM x.kids + 1) := K.deepD_eq x
 clear ha hk hn
 go_enter Tryz.func41, Tryz.ntmps41
 go_wp2_with fail
 generalize w.alloc (.cells #[.int .i64 x.kind, .string x.name, .int .i64 x.low, .int .i64 x.high, .slice A n c] 24) = W1 at *
 go_loopw [3, 4] (fun sv iv wx => ∃ j : Nat, ∃ m : Nat, j ≤ n ∧ iv = .int .i64 j ∧ sv = .int .i64 m ∧ m ≤ 1000 ∧ Hid (m = deepM (x.kids.take j)) ∧ Hid (Below W1.heap.size W1 wx)) (fun _ iv _ => n - (intOf iv).toNat)
 case atStart => exact ⟨0, 0, by omega, rfl, rfl, by omega, (by show _ = _; rw [List.take_zero]; rfl), Below.refl _ _⟩
 case round =>
  obtain ⟨j, m, hj, rfl, rfl, hm, HM, HBL⟩ := hrel
  obtain ⟨r0, r1, r2, r3, r4⟩ := cells5 ((HBL.out.block w.heap.size (by omega)).trans HROW.out)
  have HA3 := Lib.hid (HA.out.on HBL.out)
  by_cases hlt : j < n
  ·obtain ⟨b1, o1, y, A1, n1, c1, hA1, hb1, hy, hr1, s0, s1, s2, s3, s4⟩ := HA3.out.got hlt
   subst hA1
   have hyk : y.size ≤ k := by have := size_mem hy; have h1 := HKK.out; omega
   have HC := Lib.hid (ih y hyk (by omega) wr A1 n1 c1 hr1)
   have hdy : deepD y ≤ 1000 := by have := K.deep_size y.size y (Nat.le_refl _); omega
   have HM2 : Hid (max m (deepD y) = deepM (x.kids.take (j + 1))) := by
    show _ = _
    rw [List.take_add_one, hy, Option.toList_some, K.deepM_snoc, HM.out]
   clear hy hr1 hb1 HA3 hyk HM
   generalize deepD y = dy at *
   have hj0 : (0 : Int) ≤ (j : Int) := by omega
   have hj1 : (j : Int) < (n : Int) := by omega
   go_wp2_with fail
   refine HC.out.mono ?_
   rintro e w3 ⟨rfl, hb3⟩
   have HB3 := Lib.hid (HBL.out.trans (hb3.mono HBL.out.size))
   clear hb3 HC HBL
   go_wp2_with fail
   go_roundw
   case rel => exact ⟨j + 1, max m dy, by omega, by go_num, (by go_num), by omega, HM2.out, HB3.out⟩
   case measure => simp [intOf]; omega
  ·obtain rfl : j = n := by omega
   have HE : Hid ((deepD x : Int) = (m : Int) + 1) := by
    show _ = _
    have e1 := HM.out
    rw [List.take_of_length_le (by rw [HLN.out]; exact Nat.le_refl _)] at e1
    rw [HDS.out, e1]; omega
   clear HM HA3 HDS
   go_wp2_with fail
   go_ret
   exact ⟨by rw [HE.out]; rfl, HB.out.trans (HBL.out.mono HB.out.size)⟩
theorem deep7_any {x : Nd} (hx : x.size ≤ 1000) {w : World} {A : Option Addr} {n c : Nat} (ha : RdN w (Lt w) A n c x.kids) :
  Calls Tryz.prog 41 #[.agg #[.int .i64 x.kind, .string x.name, .int .i64 x.low, .int .i64 x.high, .slice A n c]] w (NumK w (deepD x : Int)) := by
 have h : ∀ k, DeepK7 k := by
  intro k
  induction k with
  | zero => intro x h; have := Nd.size_pos x; omega
  | succ k ih => exact deep7_step ih
 exact h x.size x (Nat.le_refl _) hx w A n c ha
set_option maxHeartbeats 4000000 in
theorem right7_any {x : Nd} {w : World} {A : Option Addr} {n c : Nat} (ha : RdN w (Lt w) A n c x.kids) :
  Calls Tryz.prog 17 #[.agg #[.int .i64 x.kind, .string x.name, .int .i64 x.low, .int .i64 x.high, .slice A n c]] w (BooK w (rightB x)) := by
 have HP := Lib.hid (kbelow_push w (.cells #[.int .i64 x.kind, .string x.name, .int .i64 x.low, .int .i64 x.high, .slice A n c] 24))
 have HA := Lib.hid (ha.on HP.out)
 have HROW := Lib.hid (heap_alloc_new w (.cells #[.int .i64 x.kind, .string x.name, .int .i64 x.low, .int .i64 x.high, .slice A n c] 24))
 have hz : (w.alloc (.cells #[.int .i64 x.kind, .string x.name, .int .i64 x.low, .int .i64 x.high, .slice A n c] 24)).heap.size = w.heap.size + 1 := by simp
 have hsm := ha.small
 have HB : Hid (Below w.heap.size w (w.alloc (.cells #[.int .i64 x.kind, .string x.name, .int .i64 x.low, .int .i64 x.high, .slice A n c] 24))) := HP.out
 obtain ⟨R, hR⟩ : ∃ R : Int, R = ((min x.size 100000 : Nat) : Int) := ⟨_, rfl⟩
 have HSZ := rsize_any HA.out
 rw [← hR] at HSZ
 replace HSZ := Lib.hid HSZ
 obtain ⟨D, hD⟩ : ∃ D : Int, D = (deepD x : Int) := ⟨_, rfl⟩
 have HD : Hid (R ≤ 500 → ∀ W, Below w.heap.size w W → Calls Tryz.prog 41 #[.agg #[.int .i64 x.kind, .string x.name, .int .i64 x.low, .int .i64 x.high, .slice A n c]] W (NumK W D)) := fun h W hb => by
  rw [hD]
  exact deep7_any (by omega) (ha.on hb)
 have HI : Hid (∀ W, Below w.heap.size w W → Calls Tryz.prog 42 #[.agg #[.int .i64 x.kind, .string x.name, .int .i64 x.low, .int .i64 x.high, .slice A n c], .bool false] W (BooK W (allD false x))) := fun W h => all7_any false (ha.on h)
 have HF : Hid (rightB x = (decide (R ≤ 500) && decide (D ≤ 100) && allD false x)) := by
  show _ = _
  rw [K.rightB_eq]
  congr 2
  ·rw [decide_eq_decide]; omega
  ·rw [decide_eq_decide]; omega
 clear ha HA hR hD
 generalize rightB x = res at *
 generalize allD false x = q2 at *
 go_enter Tryz.func17, Tryz.ntmps17
 go_wp2_with fail
 generalize w.alloc (.cells #[.int .i64 x.kind, .string x.name, .int .i64 x.low, .int .i64 x.high, .slice A n c] 24) = W1 at *
 refine (HSZ.out).mono ?_
 rintro e w2 ⟨rfl, hb2⟩
 have HB2 := Lib.hid (HB.out.trans (hb2.mono HB.out.size))
 clear HB
 have HB := HB2
 clear HB2
 have HROW2 := Lib.hid ((hb2.block w.heap.size (by omega)).trans HROW.out)
 clear HROW
 have HROW := HROW2
 clear HROW2
 obtain ⟨r0, r1, r2, r3, r4⟩ := cells5 HROW.out
 have hz2 := hb2.size
 clear hb2
 by_cases g0 : R ≤ 500
 ·rw [decide_eq_true g0] at HF
  have HDE := Lib.hid (HD.out g0)
  go_wp2_with fail
  refine (HDE.out _ HB.out).mono ?_
  rintro e w2 ⟨rfl, hb2⟩
  have HB2 := Lib.hid (HB.out.trans (hb2.mono HB.out.size))
  clear HB
  have HB := HB2
  clear HB2
  have HROW2 := Lib.hid ((hb2.block w.heap.size (by omega)).trans HROW.out)
  clear HROW
  have HROW := HROW2
  clear HROW2
  obtain ⟨r0, r1, r2, r3, r4⟩ := cells5 HROW.out
  have hz2 := hb2.size
  clear hb2
  by_cases g1 : D ≤ 100
  ·rw [decide_eq_true g1] at HF
   go_wp2_with fail
   refine (HI.out _ HB.out).mono ?_
   rintro e w2 ⟨rfl, hb2⟩
   have HB2 := Lib.hid (HB.out.trans (hb2.mono HB.out.size))
   clear HB
   have HB := HB2
   clear HB2
   have HROW2 := Lib.hid ((hb2.block w.heap.size (by omega)).trans HROW.out)
   clear HROW
   have HROW := HROW2
   clear HROW2
   obtain ⟨r0, r1, r2, r3, r4⟩ := cells5 HROW.out
   have hz2 := hb2.size
   clear hb2
   go_wp2_with fail
   go_ret
   exact ⟨ret_bool (by rw [HF.out]; rfl), HB.out⟩
  ·rw [decide_eq_false g1] at HF
   go_wp2_with fail
   go_ret
   exact ⟨ret_bool (by rw [HF.out]; rfl), HB.out⟩
 ·rw [decide_eq_false g0] at HF
  go_wp2_with fail
  go_ret
  exact ⟨ret_bool (by rw [HF.out]; rfl), HB.out⟩
end Go.Proofs.YtmohefgdpddldaaGreatDoor
