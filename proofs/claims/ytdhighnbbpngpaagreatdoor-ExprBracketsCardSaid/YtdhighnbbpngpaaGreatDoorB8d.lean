/- The characters of bytes: the program's Decode and the document's. -/
import Derived.Test.YtdhighnbbpngpaaGreatDoorB8b
set_option maxRecDepth 100000
namespace Go.Proofs.YtdhighnbbpngpaaGreatDoor
open Go.RowKit
open E (okb encB Fst Upto Dead DecIs offs)

/-- What Decode leaves. -/
def DecP (w : World) (L : List Int) (e : Ending) (w' : World) : Prop := ∃ (A1 A2 : Option Addr) (n1 c1 n2 c2 : Nat) (cs ats : List Int) (x er : Int),
  e = .returned (.tuple #[.slice A1 n1 c1, .slice A2 n2 c2, .int .i64 x, .int .i64 er]) ∧ RdK .i64 w' w'.heap.size A1 n1 c1 cs ∧ RdK .i64 w' w'.heap.size A2 n2 c2 ats ∧ DecIs L cs ats x er ∧ Below w.heap.size w w'
theorem decP_ok {w w' : World} {L cs : List Int} {v1 v2 : Value} {n1 n2 : Nat} (hl : L.length ≤ 3000) (hu : Upto L L.length cs) (h1 : OwnK .i64 w' w.heap.size 3 v1 n1 cs) (h2 : OwnK .i64 w' w.heap.size 3 v2 n2 (offs 0 cs ++ [(L.length : Int)])) (hb : Below w.heap.size w w') :
    DecP w L (.returned (.tuple #[v1, v2, .int .i64 (-1), .int .i64 0])) w' := by
  obtain ⟨A1, c1, rfl, r1⟩ := h1.rd
  obtain ⟨A2, c2, rfl, r2⟩ := h2.rd
  exact ⟨A1, A2, n1, c1, n2, c2, cs, _, _, _, rfl, r1, r2, .ok cs hl hu, hb⟩
theorem decP_bad {w w' : World} {L cs : List Int} {p : Nat} (hl : L.length ≤ 3000) (hp : p < L.length) (hu : Upto L p cs) (hd : Dead L p) (hb : Below w.heap.size w w') :
    DecP w L (.returned (.tuple #[.slice none 0 0, .slice none 0 0, .int .i64 p, .int .i64 3])) w' :=
  ⟨none, none, 0, 0, 0, 0, [], [], _, _, rfl, RdK.nil _ _ _, RdK.nil _ _ _, .bad p cs hl hp hu hd, hb⟩
theorem decP_long {w : World} {L : List Int} (hl : 3000 < L.length) : DecP w L (.returned (.tuple #[.slice none 0 0, .slice none 0 0, .int .i64 0, .int .i64 2])) w :=
  ⟨none, none, 0, 0, 0, 0, [], [], _, _, rfl, RdK.nil _ _ _, RdK.nil _ _ _, .long hl, Below.refl _ _⟩
/-- What stands at the head of each round: the characters so far, their places. -/
structure DecR (w : World) (L : List Int) (vc va : Value) (p : Nat) (cs : List Int) (wx : World) : Prop where
  up : Upto L p cs
  c : OwnK .i64 wx w.heap.size 3 vc cs.length cs
  a : OwnK .i64 wx w.heap.size 3 va cs.length (offs 0 cs)
  apt : Apt vc va
  b : Below w.heap.size w wx
theorem DecR.start (w : World) (L : List Int) : DecR w L (.slice none 0 0) (.slice none 0 0) 0 [] w :=
  ⟨Upto.start L, OwnK.nil _ _ _ _, OwnK.nil _ _ _ _, apt_nil _, Below.refl _ _⟩
theorem DecR.on {w wx w' : World} {L cs : List Int} {vc va : Value} {p : Nat} (h : DecR w L vc va p cs wx) (hb : Below wx.heap.size wx w') : DecR w L vc va p cs w' :=
  ⟨h.up, h.c.below hb, h.a.below hb, h.apt, h.b.trans (hb.mono h.b.size)⟩
theorem decR_c {w w3 w4 : World} {L cs : List Int} {vc va v4 : Value} {p : Nat} {d : Int} {o : Obj} (h : DecR w L vc va p cs w3) (ho : OwnK .i64 w4 w.heap.size 3 v4 (cs.length + 1) (cs ++ [d])) (hg : (w3.alloc o).grownBy w4 vc.ownBlock) (hv : v4.ownBlock = vc.ownBlock ∨ v4.ownBlock = some (w3.heap.size + 1)) :
    OwnK .i64 w4 w.heap.size 3 v4 (cs.length + 1) (cs ++ [d]) ∧ OwnK .i64 w4 w.heap.size 3 va cs.length (offs 0 cs) ∧ Apt v4 va ∧ Below w.heap.size w w4 := by
  have ha := (h.a.alloc o).block
  have hc := (h.c.alloc o).block
  refine ⟨ho, (h.a.alloc o).kept hg ?_, ?_, below_grown (h.b.alloc (by have := h.b.size; omega) o) hg fun i hi => (hc i hi).1⟩
  · rcases h.apt with e | e
    · cases hva : va.ownBlock with
      | none => exact Or.inl rfl
      | some i => exact Or.inr (by rw [e]; simp)
    · exact Or.inr (Ne.symm e)
  · rcases hv with e | e
    · rcases h.apt with e' | e'
      · exact Or.inl (e.trans e')
      · exact Or.inr (by rw [e]; exact e')
    · refine Or.inr fun e' => ?_
      have := (ha _ (e'.symm.trans e)).2
      simp at this
theorem decR_a {w w4 w5 : World} {L cs : List Int} {va v4 v5 : Value} {p k : Nat} {d : Int} {o : Obj} (h : OwnK .i64 w4 w.heap.size 3 v4 (cs.length + 1) (cs ++ [d]) ∧ OwnK .i64 w4 w.heap.size 3 va cs.length (offs 0 cs) ∧ Apt v4 va ∧ Below w.heap.size w w4)
    (hu : Upto L (p + k) (cs ++ [d])) (hO : offs 0 (cs ++ [d]) = offs 0 cs ++ [(p : Int)])
    (ho : OwnK .i64 w5 w.heap.size 3 v5 (cs.length + 1) (offs 0 cs ++ [(p : Int)])) (hg : (w4.alloc o).grownBy w5 va.ownBlock) (hv : v5.ownBlock = va.ownBlock ∨ v5.ownBlock = some (w4.heap.size + 1)) :
    DecR w L v4 v5 (p + k) (cs ++ [d]) w5 := by
  obtain ⟨h1, h2, h3, h4⟩ := h
  have ha := (h2.alloc o).block
  have hc := (h1.alloc o).block
  refine ⟨hu, ?_, ?_, ?_, below_grown (h4.alloc (by have := h4.size; omega) o) hg fun i hi => (ha i hi).1⟩
  · rw [List.length_append]; exact (h1.alloc o).kept hg h3
  · rw [List.length_append, hO]; exact ho
  · rcases hv with e | e
    · rcases h3 with e' | e'
      · exact Or.inl e'
      · exact Or.inr (by rw [e]; exact e')
    · cases hv4 : v4.ownBlock with
      | none => exact Or.inl hv4
      | some i =>
        refine Or.inr fun e' => ?_
        have := (hc i hv4).2
        rw [hv4, e] at e'
        injection e' with e'
        simp at this
        omega
theorem decR_end {w wr w5 : World} {L cs : List Int} {vc va v5 : Value} {p : Nat} {o : Obj} (h : DecR w L vc va p cs wr) (hlen : L.length = p) (hl : p ≤ 3000) (hu : Upto L L.length cs) (ho : OwnK .i64 w5 w.heap.size 3 v5 (cs.length + 1) (offs 0 cs ++ [(p : Int)])) (hg : (wr.alloc o).grownBy w5 va.ownBlock) :
    DecP w L (.returned (.tuple #[vc, v5, .int .i64 (-1), .int .i64 0])) w5 := by
  rw [← hlen] at ho
  exact decP_ok (by rw [hlen]; exact hl) hu ((h.c.alloc o).kept hg h.apt) ho (below_grown (h.b.alloc (by have := h.b.size; omega) o) hg fun i hi => ((h.a.alloc o).block i hi).1)
set_option maxHeartbeats 2000000 in
theorem decode_any {w : World} {A : Option Addr} {n c : Nat} {L : List Int} (h : RdK .u8 w w.heap.size A n c L) (hb : Byt L) (hT : Tabs w) :
    Calls Tryz.prog 110 #[.slice A n c] w (DecP w L) := by
  have hlen := Lib.hid h.len
  have hcap := h.cap
  have hsm := h.small
  by_cases hl : n ≤ 3000
  · have hl' : ¬ (3000 : Int) < n := by omega
    have HH := Lib.hid h
    have HBy := Lib.hid hb
    have HT := Lib.hid hT
    clear h hb hT
    go_enter Tryz.func110, Tryz.ntmps110
    go_wp2_with fail
    go_loopw [2, 3, 6] (fun vc va pv wx => ∃ (p : Nat) (cs : List Int), p ≤ n ∧ pv = .int .i64 p ∧ Hid (DecR w L vc va p cs wx)) (fun _ _ pv _ => n - (intOf pv).toNat)
    case atStart => exact ⟨0, [], by omega, rfl, DecR.start w L⟩
    case round =>
      obtain ⟨p, cs, hp, rfl, HR⟩ := hrel
      have hfew : cs.length ≤ p := HR.out.up.few
      by_cases hlt : p < n
      · have hr1 := (HH.out.on HR.out.b)
        obtain ⟨b, off, x0, rfl, _, _, _⟩ := hr1.got (j := 0) (by omega)
        have hcon := Lib.hid (first_any (hr1.drop hlt) (HBy.out.drop p) (HT.out.on HR.out.b))
        clear hr1
        have hcp : ¬ c = p := by omega
        go_wp2_with fail
        refine hcon.out.mono ?_
        rintro e w3 ⟨d, k, rfl, hf, hb3⟩
        have HR3 := Lib.hid (HR.out.on hb3)
        have hfl := E.fst_le hf
        have hfb := E.fst_bd hf
        rw [List.length_drop, hlen.out] at hfl
        clear hcon HR
        rcases hf with ⟨f1, f2, f3⟩ | ⟨f1, f2, f3⟩
        · have g0 : ((k : Int) == 0) = false := beq_eq_false_iff_ne.2 (by have := E.enc_len f1; omega)
          have HU := Lib.hid (HR3.out.up.next f1 f2)
          rw [← f3] at HU
          have HO := Lib.hid (E.offs_snoc HR3.out.up d)
          have hk1 : 1 ≤ k := by have := E.enc_len f1; omega
          clear f1 f2 f3
          go_wp2_with (at_builtin; refine app_k .i64 rfl _ _ 50 rfl w.heap.size 3 8 Tryz.underlying50 info_i64 (by decide) _ _ _ rfl (HR3.out.c.alloc _) ⟨w3.heap.size, 0, none⟩ 1 1 [d] rfl rfl (lit_k w3 _ rfl .i64 [d] _ _ rfl) (by omega) ?c2 ?_)
          case c2 => have := HR3.out.b.size; simp; omega
          intro v4 w4 ho4 hg4 hv4
          have HR4 := Lib.hid (decR_c HR3.out ho4 hg4 hv4)
          clear ho4 hg4 hv4
          go_wp2_with (at_builtin; refine app_k .i64 rfl _ _ 50 rfl w.heap.size 3 8 Tryz.underlying50 info_i64 (by decide) _ _ _ rfl (HR4.out.2.1.alloc _) ⟨w4.heap.size, 0, none⟩ 1 1 [(p : Int)] rfl rfl (lit_k w4 _ rfl .i64 [(p : Int)] _ _ rfl) (by omega) ?c2 ?_)
          case c2 => have := HR4.out.2.2.2.size; simp; omega
          intro v5 w5 ho5 hg5 hv5
          have HR5 := Lib.hid (decR_a HR4.out HU.out HO.out ho5 hg5 hv5)
          clear ho5 hg5 hv5
          go_wp2_with fail
          go_roundw
          case rel => exact ⟨p + k, cs ++ [d], by omega, by go_num, HR5.out⟩
          case measure => simp [intOf]; omega
        · subst f1 f2
          have HG := Lib.hid (decP_bad (by rw [hlen.out]; exact hl) (by rw [hlen.out]; exact hlt) HR3.out.up f3 HR3.out.b)
          clear f3
          go_wp2_with fail
          exact bodyPost_ret (v := .tuple #[.slice none 0 0, .slice none 0 0, .int .i64 p, .int .i64 3]) (by simp [results, Tryz.results110, go_sem]) rfl HG.out
      · obtain rfl : p = n := by omega
        have HU : Hid (Upto L L.length cs) := by rw [hlen.out]; exact HR.out.up
        go_wp2_with (at_builtin; refine app_k .i64 rfl _ _ 50 rfl w.heap.size 3 8 Tryz.underlying50 info_i64 (by decide) _ _ _ rfl (HR.out.a.alloc _) ⟨wr.heap.size, 0, none⟩ 1 1 [(p : Int)] rfl rfl (lit_k wr _ rfl .i64 [(p : Int)] _ _ rfl) (by omega) ?c3 ?_)
        case c3 => have := HR.out.b.size; simp; omega
        intro v5 w5 ho5 hg5 hv5
        have HG : Hid (DecP w L (.returned (.tuple #[u2, v5, .int .i64 (-1), .int .i64 0])) w5) := decR_end HR.out hlen.out hl HU.out ho5 hg5
        clear ho5 hg5 hv5
        go_wp2_with fail
        exact bodyPost_ret (v := .tuple #[u2, v5, .int .i64 (-1), .int .i64 0]) (by simp [results, Tryz.results110, go_sem]) rfl HG.out
  · have hl' : (3000 : Int) < n := by omega
    have HG := Lib.hid (decP_long (w := w) (L := L) (by rw [hlen.out]; omega))
    clear h hb hT
    go_enter Tryz.func110, Tryz.ntmps110
    go_wp2_with fail
    exact bodyPost_ret (v := .tuple #[.slice none 0 0, .slice none 0 0, .int .i64 0, .int .i64 2]) (by simp [results, Tryz.results110, go_sem]) rfl HG.out
end Go.Proofs.YtdhighnbbpngpaaGreatDoor
