/- A list of lists of one's own in memory: the outer row holds the inner slices, whose rows are all apart. -/
import Derived.Test.YtmhggapfejlbcaaT3
namespace Go.Proofs.Ytmhggapfejlbcaa
open Go.RowKit
open M (Rg)

theorem info_S : (Try.prog.info? 23).map (fun i => (i.zero, i.size, i.bytes)) = some (some (.slice none 0 0), 1, 24) := by kernel_rfl
def hdr (g : Given) : Value := .slice g.A g.n g.c
structure Rws (wr : World) (B : Nat) (A : Option Addr) (n c : Nat) (gs : List Given) : Prop where
  out : wr.ownsRow B 23 1 (.slice A n c) n (gs.map hdr)
  each : ∀ g ∈ gs, Own wr B g.A g.n g.c g.l
  apart : gs.Pairwise fun g h => ∀ b, (hdr g).ownBlock = some b → (hdr h).ownBlock ≠ some b

theorem Rws.start (w : World) (B : Nat) : Rws w B none 0 0 [] := ⟨World.ownsRow_nil _ _ _ _, by simp, List.Pairwise.nil⟩
section
variable {wr wx : World} {B : Nat} {A : Option Addr} {n c : Nat} {gs : List Given}
theorem Rws.len (h : Rws wr B A n c gs) : gs.length = n := by have := h.out.1; simp at this; omega
theorem Rws.keep (h : Rws wr B A n c gs) (hb : Below wr.heap.size wr wx) : Rws wx B A n c gs := ⟨own_below h.out hb, fun g hg => own_below (h.each g hg) hb, h.apart⟩
theorem Rws.drewN (h : Rws wr B A n c gs) (q : Nat) : Rws (wr.drewN q) B A n c gs := ⟨own_drewN h.out q, fun g hg => own_drewN (h.each g hg) q, h.apart⟩
theorem Rws.alloc (h : Rws wr B A n c gs) (o : Obj) : Rws (wr.alloc o) B A n c gs := h.keep (below_push wr o)
theorem row_lt {e : TypeId} {k m : Nat} {v : Value} {xs : List Value} (h : wr.ownsRow B e k v m xs) {b : Nat} (hb : v.ownBlock = some b) : b < wr.heap.size := (h.lt b hb).2
theorem row_type {e e' : TypeId} {k k' m m' : Nat} {v v' : Value} {xs xs' : List Value} (h : wr.ownsRow B e k v m xs) (h' : wr.ownsRow B e' k' v' m' xs') (hne : e ≠ e') {b : Nat} (hb : v.ownBlock = some b) : v'.ownBlock ≠ some b := by
  intro hb'
  rcases h.2 with ⟨rfl, _⟩ | ⟨g, cap, cur, rfl, _, hg, _⟩
  · simp [Value.ownBlock] at hb
  · rcases h'.2 with ⟨rfl, _⟩ | ⟨g', cap', cur', rfl, _, hg', _⟩
    · simp [Value.ownBlock] at hb'
    · simp [Value.ownBlock] at hb hb'
      subst hb hb'
      rw [hg] at hg'
      injection hg' with hg'
      injection hg' with _ e1
      exact hne e1
theorem Rws.rdS (h : Rws wr B A n c gs) : RdS wr wr.heap.size A n c gs := by
  have hl := h.len
  rcases h.out.2 with ⟨h1, h2⟩ | ⟨g, cap, cur, h1, _, hg, h3, h4, _, _⟩
  · injection h1 with a1 a2 a3; subst a1 a3
    exact ⟨hl, by omega, by simp [maxLen], fun h => absurd h (by omega), fun g hg => (h.each g hg).rd⟩
  · injection h1 with a1 a2 a3; subst a1 a3
    refine ⟨hl, h3, h4, fun _ => ⟨g, 0, rfl, row_lt h.out rfl, fun i x hx => ?_⟩, fun x hx => (h.each x hx).rd⟩
    rw [← add_none]
    exact h.out.cells (g := g) rfl i _ (by simp [hx, hdr])
theorem Rws.setG {w1 : World} {ob k A' m c'} {l' : List Rg} (h : Rws wr B (some ⟨ob, 0, none⟩) n c gs) (hk : k < gs.length) (hO : w1.ownsRow B 23 1 (.slice (some ⟨ob, 0, none⟩) n c) n (gs.map hdr))
    (hE : ∀ j x, j ≠ k → gs[j]? = some x → Own w1 B x.A x.n x.c x.l) (hV : Own w1 B A' m c' l') (hA : ∀ j x, j ≠ k → gs[j]? = some x → ∀ b, (hdr x).ownBlock = some b → (Value.slice A' m c').ownBlock ≠ some b) :
    Rws (w1.setCell ⟨ob, k, none⟩ (.slice A' m c')) B (some ⟨ob, 0, none⟩) n c (gs.set k ⟨A', m, c', l'⟩) := by
  have hob : (Value.slice (some ⟨ob, 0, none⟩) n c).ownBlock = some ob := rfl
  refine ⟨?_, fun x hx => ?_, ?_⟩
  · have := (hO.stored k (.slice A' m c')).1
    rw [List.map_set]; exact this
  · obtain ⟨j, hj⟩ := List.getElem?_of_mem hx
    by_cases e : j = k
    · subst e
      rw [List.getElem?_set_self hk] at hj
      injection hj with hj; subst hj
      exact ownsRow_setCell_other hV (row_type hO hV (by decide) hob) _
    · rw [List.getElem?_set_ne (Ne.symm e)] at hj
      have hx := hE j x e hj
      exact ownsRow_setCell_other hx (row_type hO hx (by decide) hob) _
  · rw [List.pairwise_iff_getElem]
    intro i j hi hj hij b
    have hi' : i < gs.length := by simpa using hi
    have hj' : j < gs.length := by simpa using hj
    have hp := List.pairwise_iff_getElem.1 h.apart i j hi' hj' hij
    simp only [List.getElem_set]
    by_cases e1 : k = i
    · subst e1
      rw [if_pos rfl, if_neg (by omega)]
      intro hb hb'
      exact hA j gs[j] (by omega) (List.getElem?_eq_getElem hj') b hb' hb
    · rw [if_neg e1]
      by_cases e2 : k = j
      · subst e2
        rw [if_pos rfl]
        exact fun hb => hA i gs[i] (by omega) (List.getElem?_eq_getElem hi') b hb
      · rw [if_neg e2]; exact hp b
/-- What appending to an inner list, and storing it, leaves. -/
theorem Rws.app {w1 : World} {ob k : Nat} {g : Given} {v' : Value} {m : Nat} {l' : List Rg} (h : Rws wr B (some ⟨ob, 0, none⟩) n c gs) (hk : gs[k]? = some g)
    (ho : w1.ownsRow B 38 2 v' m (cellsR l')) (hg : wr.grownBy w1 (hdr g).ownBlock) (hat : v'.ownBlock = (hdr g).ownBlock ∨ v'.ownBlock = some wr.heap.size) :
    ∃ A' c', v' = .slice A' m c' ∧ Rws (w1.setCell ⟨ob, k, none⟩ v') B (some ⟨ob, 0, none⟩) n c (gs.set k ⟨A', m, c', l'⟩) := by
  obtain ⟨hkl, hkg⟩ := List.getElem?_eq_some_iff.1 hk
  have hgm := List.mem_of_getElem? hk
  have hown := h.each g hgm
  have hap : ∀ j x, j ≠ k → gs[j]? = some x → ∀ b, (hdr x).ownBlock = some b → (hdr g).ownBlock ≠ some b := fun j x hj hx b hb => by
    obtain ⟨hjl, hjx⟩ := List.getElem?_eq_some_iff.1 hx
    have hp := List.pairwise_iff_getElem.1 h.apart
    rcases Nat.lt_or_gt_of_ne hj with e | e
    · have := hp j k hjl hkl e b; rw [hjx, hkg] at this; exact this hb
    · intro hb2
      have := hp k j hkl hjl e b; rw [hjx, hkg] at this; exact this hb2 hb
  have hsh : ∃ A' c', v' = .slice A' m c' := by
    rcases ho.2 with ⟨rfl, rfl⟩ | ⟨g', cap, cur, rfl, _⟩
    · exact ⟨none, 0, rfl⟩
    · exact ⟨_, cap, rfl⟩
  obtain ⟨A', c', rfl⟩ := hsh
  refine ⟨A', c', rfl, h.setG hkl ?_ ?_ ho ?_⟩
  · exact h.out.kept hg (.inr fun e => row_type h.out hown (by decide) rfl (e ▸ rfl))
  · intro j x hj hx
    have hxo := h.each x (List.mem_of_getElem? hx)
    refine World.ownsRow.kept hxo hg ?_
    cases hb : (hdr x).ownBlock with
    | none => exact .inl hb
    | some b => exact .inr fun e => hap j x hj hx b hb (by rw [← e]; exact hb)
  · intro j x hj hx b hb hv
    rcases hat with e | e
    · exact hap j x hj hx b hb (by rw [← e]; exact hv)
    · rw [e] at hv
      injection hv with hv
      have := row_lt (h.each x (List.mem_of_getElem? hx)) hb
      omega
/-- What putting a new list in the place of an inner one leaves. -/
theorem Rws.swap {w1 : World} {ob k A' m c'} {l' : List Rg} (h : Rws wr B (some ⟨ob, 0, none⟩) n c gs) (hk : k < gs.length) (hb : Below wr.heap.size wr w1) (hB : B ≤ wr.heap.size) (ho : Own w1 wr.heap.size A' m c' l') :
    Rws (w1.setCell ⟨ob, k, none⟩ (.slice A' m c')) B (some ⟨ob, 0, none⟩) n c (gs.set k ⟨A', m, c', l'⟩) := by
  refine h.setG hk (own_below h.out hb) (fun j x _ hx => own_below (h.each x (List.mem_of_getElem? hx)) hb) (own_mono ho hB) ?_
  intro j x hj hx b hb' hv
  have h1 := row_lt (h.each x (List.mem_of_getElem? hx)) hb'
  have h2 := (World.ownsRow.lt ho b hv).1
  omega
/-- What appending nil to the outer list leaves. -/
theorem Rws.push {w1 : World} {v' : Value} (h : Rws wr B A n c gs) (ho : w1.ownsRow B 23 1 v' (n + 1) (gs.map hdr ++ [.slice none 0 0])) (hg : wr.grownBy w1 (Value.slice A n c).ownBlock) :
    ∃ ob c', v' = .slice (some ⟨ob, 0, none⟩) (n + 1) c' ∧ Rws w1 B (some ⟨ob, 0, none⟩) (n + 1) c' (gs ++ [⟨none, 0, 0, []⟩]) := by
  rcases ho.2 with ⟨_, h2⟩ | ⟨ob, cap, cur, rfl, _⟩
  · omega
  · refine ⟨ob, cap, rfl, by simpa [hdr] using ho, fun x hx => ?_, ?_⟩
    · rcases List.mem_append.1 hx with hx | hx
      · have hxo := h.each x hx
        refine World.ownsRow.kept hxo hg ?_
        cases hb : (hdr x).ownBlock with
        | none => exact .inl hb
        | some b => exact .inr fun e => row_type hxo h.out (by decide) (v := hdr x) hb (by rw [← e]; exact hb)
      · simp at hx; subst hx; exact World.ownsRow_nil _ _ _ _
    · rw [List.pairwise_append]
      refine ⟨h.apart, List.pairwise_singleton _ _, fun x hx y hy b hb => ?_⟩
      simp at hy; subst hy
      simp [hdr, Value.ownBlock]
end

/-- An append onto a row of one's own, as one step of a statement whose order is open; and where the new row lies. -/
theorem step_appAt {P : Program} (w : World) {ops : Array Oper} {o : Oper} {a : Act} {K : Act → World → Prop} {Q : Exit → Act → World → Prop} {E : Prop} (hgd : o.guard = none) (s x : Operand) (t : TypeId)
    (ho : o.op = .call { callee := .builtin .append, args := #[s, x], argTypes := #[t, t] })
    (base : Nat) (e : TypeId) (i : TypeInfo) (z : Value) (size bytes : Nat) (ht : P.underlying t = some (.slice e)) (hi : P.info? e = some i) (hz : i.zero = some z)
    (hsize : i.size = size) (hby : i.bytes = bytes) (hzs : z.cells.size = size) (hsz : 0 < size)
    (v : Value) (n : Nat) (xs : List Value) (hs : a.eval s = v) (hown : w.ownsRow base e size v n xs)
    (ad : Addr) (m c : Nat) (news : List Value) (hx : a.eval x = .slice (some ad) m c) (hl : news.length = m * size) (hnews : ∀ j u, news[j]? = some u → w.cell? (ad.add j) = some u) (h1 : ∀ u ∈ news, u.oneCell' = true)
    (h63 : n + m ≤ maxLen) (hbytes : (n + m) * bytes ≤ 140737488355328) (hbase : base ≤ w.heap.size)
    (h : ∀ v' w', w'.ownsRow base e size v' (n + m) (xs ++ news) → w.grownBy w' v.ownBlock → (v'.ownBlock = v.ownBlock ∨ v'.ownBlock = some w.heap.size) → K (a.put o.dst v') w') :
    if Region.wanted o (yielded ops a.tmps) = true then Oper.wp P o a w K Q else E := by
  rw [if_pos (show Region.wanted o (yielded ops a.tmps) = true by simp [Region.wanted, hgd])]
  obtain ⟨v', w', hrun, h2, h3, _, h5⟩ := run_append_own_at (P := P) w base t o.type e i z size bytes ht hi hz hsize hby hzs hsz v n xs hown ad m c news hl hnews h1 h63 hbytes hbase
  unfold Oper.wp execOp
  simp only [ho, resolve, invoke, builtin, Sem.run_bind, Sem.run_pure, Result.andThen_ok, List.map_toArray, List.map_cons, List.map_nil, hs, hx, hrun]
  exact h v' w' h2 h3 h5

/-- Behind an append to the k-th inner list, ahead of the store. -/
def InApp (B0 : World) (ob n c : Nat) (hs : List Given) (k : Nat) (g : Given) (r : Rg) (v' : Value) (w1 : World) : Prop :=
  (∃ A' c', v' = .slice A' (g.n + 1) c' ∧ Rws (w1.setCell ⟨ob, k, none⟩ v') B0.heap.size (some ⟨ob, 0, none⟩) n c (hs.set k ⟨A', g.n + 1, c', g.l ++ [r]⟩)) ∧
  w1.cell? ⟨ob, k, none⟩ = some (hdr g) ∧ w1.frozen? ⟨ob, k, none⟩ = false ∧ Below B0.heap.size B0 w1 ∧ B0.heap.size ≤ ob
theorem step_in {W B0 : World} {ops : Array Oper} {o : Oper} {a : Act} {K : Act → World → Prop} {Q : Exit → Act → World → Prop} {E : Prop} (s y : Operand) (hgd : o.guard = none)
    (ho : o.op = .call { callee := .builtin .append, args := #[s, y], argTypes := #[23, 23] }) (ob n c : Nat) (hs : List Given) (k : Nat) (g : Given) (f t : Int) (N : Nat)
    (hr : Rws W B0.heap.size (some ⟨ob, 0, none⟩) n c hs) (hb : Below B0.heap.size B0 W) (hk : hs[k]? = some g) (hc : ∀ j u, [Value.int .i64 f, Value.int .i64 t][j]? = some u → W.cell? ((⟨N, 0, none⟩ : Addr).add j) = some u)
    (hv : a.eval s = hdr g) (hy : a.eval y = .slice (some ⟨N, 0, none⟩) 1 1) (hg : g.n ≤ 1000000)
    (hK : ∀ v' w1, InApp B0 ob n c hs k g (f, t) v' w1 → K (a.put o.dst v') w1) :
    if Region.wanted o (yielded ops a.tmps) = true then Oper.wp Try.prog o a W K Q else E := by
  obtain ⟨i0, hi0, hz0, hz1, hz2⟩ := info_parts info_R
  have hown := hr.each g (List.mem_of_getElem? hk)
  have hkn : k < n := by rw [← hr.len]; exact (List.getElem?_eq_some_iff.1 hk).1
  refine step_appAt W hgd s y 23 ho B0.heap.size 38 i0 (.agg #[.int .i64 0, .int .i64 0]) 2 16 Try.underlying23 hi0 hz0 hz1 hz2 rfl (by decide) (hdr g) g.n (cellsR g.l) hv hown ⟨N, 0, none⟩ 1 1 [.int .i64 f, .int .i64 t] hy rfl hc (news_one _ _) (by simp only [maxLen]; omega) (by omega) hb.size ?_
  intro v' w1 ho1 hg1 hat
  have ho2 : w1.ownsRow B0.heap.size 38 2 v' (g.n + 1) (cellsR (g.l ++ [(f, t)])) := by rw [cellsR_append]; exact ho1
  have hO : w1.ownsRow B0.heap.size 23 1 (.slice (some ⟨ob, 0, none⟩) n c) n (hs.map hdr) := hr.out.kept hg1 (.inr fun e => row_type hr.out hown (by decide) rfl (e ▸ rfl))
  refine hK v' w1 ⟨hr.app hk ho2 hg1 hat, ?_, hO.frozenAt k, hb.grown hg1 hb.size (fun i hi => (hown.lt i hi).1), (hO.lt ob rfl).1⟩
  rw [hO.cellAt k (by omega)]; simp [hk]
theorem in_ready {W B0 : World} {ob n c : Nat} {hs : List Given} (hr : Rws W B0.heap.size (some ⟨ob, 0, none⟩) n c hs) (o : Obj) (q : Nat) : Rws ((W.alloc o).drewN q) B0.heap.size (some ⟨ob, 0, none⟩) n c hs := (hr.alloc o).drewN q
theorem in_below {W B0 : World} (hb : Below B0.heap.size B0 W) (o : Obj) (q : Nat) : Below B0.heap.size B0 ((W.alloc o).drewN q) := below_drewN (hb.alloc hb.size o) q
theorem in_news (W : World) (f t : Int) (ty : TypeId) (q : Nat) : ∀ j u, [Value.int .i64 f, Value.int .i64 t][j]? = some u → ((W.alloc (.cells #[.int .i64 f, .int .i64 t] ty)).drewN q).cell? ((⟨W.heap.size, 0, none⟩ : Addr).add j) = some u := news_at W _ rfl f t ty
end Go.Proofs.Ytmhggapfejlbcaa
