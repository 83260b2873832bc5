/- Plain facts: a form's tokens say it again: all readers, by induction. Plain facts: a form that is written out has the form's tokens. Plain facts: a rule's number, and what is allowed, that are written out are read as they were. The stream of expr: fail, next, take; and what one token alone is. The stream of expr: take; what one token alone is. What one token alone is; several forms. The reader of expr: what its functions leave; member. The reader of expr: member. The reader of expr: an append of one form; parts. The reader of expr: join, form. The reader of expr: form. The reader of expr: what stands between a token that opens and one that ends. The reader of expr: a form in brackets. The reader of expr: set, bare. The reader of expr: piece. The reader of expr: part. The reader of expr: all functions, by induction; items in memory. The reader of expr: item. The reader of expr: items. The reader of expr: items, walked. The small functions of quote, and of the document's answer: letters and digits, characters, digits. The small functions of byte8 and of the library under it, and the document's of one character's bytes. The small functions of word: letters, digits, marks, signs; digits counted, and their value. The number that a text begins with. Strings of bytes; which errors reading a character may have. Letters of a text; the token of an #allow. The library's contracts, laid at this translation. bytes.Cut at a blank, bytes.CutPrefix; the token of an #allow. The token of an #allow. The reader of word. The reader of word: fail, char, skip. The reader of word: put. The reader of word: set, number. The reader of word: name. The reader of quote: one character taken; what stands behind \u{, behind \, and any. What stands behind \, any character, and the program's Read, which catches what is panicked with. The program's Read, which catches what is panicked with. The program's Read, whole. The reader of word: a character of a set, and a range of them. The reader of word: a range of characters. Plain facts on words: notes and what they allow, in bytes as in characters. Bytes that are written out as a text: the row that they lie in. What bytes begin with: the program's First, over the library's decoder. The characters of bytes: the program's Decode and the document's. The reader of word: a note. The reader of word: the next token, outside of sets and in one. The reader of word: the next token in a set. word.read catches what its reader panics with. word.read: all of a text. The program's word.Of. expr.Of. Plain facts: items that are written out are read as they were, unless they are too deep. What a text's tokens are like, and plain facts on what two parsers agree on. -/
import Derived.Test.YtmohefgdpddldaaGreatDoorCK01
import Derived.StillTailTactics
import Derived.Deep.RegionHeld3
import Derived.OwnWalk
import Derived.Shelf.Strings.Trim
import Derived.Shelf.Strconv.Itoa3
import Derived.Test.YtmohefgdpddldaaGreatDoorProg
import Derived.Recover
import Derived.Laws.Pointers
import Derived.Deep.RegionHeldLaw
import Derived.Laws.Rows
import Derived.Lib.SlBytesConst
import Derived.Shelf.Unicode.DecodeSlow
set_option maxRecDepth 100000
namespace Go.Proofs.YtmohefgdpddldaaGreatDoor
namespace U
open Y (Nd It Ps noName zeroN sizeL nextP takeP failP noTok several single kindP deepP formP orsP joinP piecesP pieceP bareP setP partsP partP heldP memberP next_dead next_nil next_cons take_dead take_nil take_cons fail_dead deep_dead dead_all)
open K (numsOf nameB twoB threeB aloneB endK pairB inS inF nosB brkB)

/-- The two from which all others follow, of forms of at most so many nodes. -/
structure Al (e : Int) (N : Nat) : Prop where
  held : ∀ x : Nd, x.size ≤ N → inS x = true → ∀ us, Is (shp x) us → ∀ n o rest, 12 * x.size ≤ n →
    (∃ n', n ≤ n' + x.size ∧ partP e n o (.live (us ++ rest)) = heldP e n' o x (.live rest)) ∨ ∃ a, (partP e n o (.live (us ++ rest))).2 = .dead a 8
  form : ∀ x : Nd, x.size ≤ N → inF x = true → ∀ us, Is (shp x) us → ∀ n o rest, 12 * x.size + 3 ≤ n → Stp rest → nextP [8] (.live rest) = false → Gt (formP e n o (.live (us ++ rest))) x rest
theorem held_stop (e : Int) (n o : Nat) (x : Nd) {rest : List Tok} (h : nextP [16, 17] (.live rest) = false) : heldP e n o x (.live rest) = (x, .live rest) := by
  cases n with
  | zero => rw [heldP]
  | succ n => rw [heldP, if_neg (by rw [h]; decide)]
section
variable {e : Int} {N : Nat}
theorem Al.part (ih : Al e N) {x : Nd} (hx : x.size ≤ N) (hS : inS x = true) {us : List Tok} (hu : Is (shp x) us) {n o : Nat} {rest : List Tok} (hn : 12 * x.size ≤ n) (h : nextP [16, 17] (.live rest) = false) : Gt (partP e n o (.live (us ++ rest))) x rest := by
  rcases ih.held x hx hS us hu n o rest hn with ⟨n', _, hg⟩ | hg
  · rw [hg, held_stop e n' o x h]; exact .inl rfl
  · exact .inr hg
theorem set_of (ih : Al e N) {x : Nd} (hx : x.size ≤ N + 1) (hS : nosB x = true) (hk : x.kind = 4) {us : List Tok} (hu : Is (shp x) us) {n o : Nat} {rest : List Tok} (hn : 12 * x.size ≤ n + 8) : Gt (setP e n o (.live (us ++ rest))) x rest := by
  obtain ⟨he, _, hkids⟩ := inS_set hS hk
  have hs := K.size_eq x
  rw [shp_eq, if_neg (by omega), if_neg (by omega), if_neg (by omega), if_pos hk] at hu
  obtain ⟨t13, v, rfl, h13, hv⟩ := hu.cons
  obtain ⟨uk, u14, rfl, huk, h14⟩ := hv.app
  obtain ⟨t14, rfl, g14⟩ := h14.one
  have k13 : t13.kind = 13 := core_kind h13
  have k14 : t14.kind = 14 := core_kind g14
  have l13 : t13.low = x.low := congrArg (·.2.2.1) h13
  have c13 : [13].contains t13.kind = true := by rw [k13]; decide
  have c14 : [14].contains t14.kind = true := by rw [k14]; decide
  obtain ⟨m, rfl⟩ : ∃ m, n = m + 1 := ⟨n - 1, by omega⟩
  have hap : (t13 :: (uk ++ [t14])) ++ rest = t13 :: (uk ++ t14 :: rest) := by simp
  rw [setP, hap]
  rcases deep_or e o t13 (uk ++ t14 :: rest) with hd | ⟨a, hd⟩
  · rw [hd, take_yes c13]
    have hp := parts_of (e := e) (o := o + 1) k14 (rest := rest) x.kids true [] uk m huk (fun y hy => ⟨hkids y hy, fun uy huy m' rest' hm' hr' => ih.part (by have := K.size_in hy; omega) (hkids y hy) huy hm' hr'⟩) (by omega)
    rcases hp with hg | ⟨a, hg⟩
    · rw [hg, take_yes c14, List.nil_append]
      left
      show (Nd.mk 4 noName t13.low 0 x.kids, _) = _
      rw [l13, ← he]
    · rw [hg, take_dead]; exact .inr ⟨a, rfl⟩
  · rw [hd, take_dead]
    right
    refine ⟨a, ?_⟩
    show (takeP e [14] (partsP e m (o + 1) [] (.dead a 8)).2).2 = _
    rw [(dead_all e m).parts, take_dead]
theorem single_name {x : Nd} {t : Tok} (he : x = .mk 2 x.name 0 0 []) (h : core t = (1, numsOf x.name, 0, 0)) : single t = x := by
  have k : t.kind = 1 := core_kind h
  have l : t.text = numsOf x.name := congrArg (·.2.1) h
  unfold Y.single
  rw [if_pos k, l, K.strOf_numsOf, ← he]
theorem single_range {x : Nd} {t : Tok} (he : x = .mk 5 noName x.low x.high []) (h : core t = (15, [], x.low, x.high)) : single t = x := by
  have k : t.kind = 15 := core_kind h
  have l : t.low = x.low := congrArg (·.2.2.1) h
  have l' : t.high = x.high := congrArg (·.2.2.2) h
  unfold Y.single
  rw [if_neg (by omega), if_pos k, l, l', ← he]
theorem member_of (ih : Al e N) {x : Nd} (hx : x.size ≤ N + 1) (hS : inS x = true) (hk : x.kind = 2 ∨ x.kind = 4 ∨ x.kind = 5) {us : List Tok} (hu : Is (shp x) us) {n o : Nat} {rest : List Tok} (hn : 12 * x.size ≤ n + 4) : Gt (memberP e n o (.live (us ++ rest))) x rest := by
  have hp := x.size_pos
  obtain ⟨m, rfl⟩ : ∃ m, n = m + 1 := ⟨n - 1, by omega⟩
  rw [memberP]
  rcases hk with hk | hk | hk
  · rw [shp_eq, if_neg (by omega), if_neg (by omega), if_pos hk] at hu
    obtain ⟨t, rfl, ht⟩ := hu.one
    have k : t.kind = 1 := core_kind ht
    rw [List.singleton_append, if_neg (by rw [next_cons, k]; decide), take_yes (by rw [k]; decide)]
    left
    show (single t, _) = _
    rw [single_name (nos_name (inS_nos hS (.inl hk)) hk).1 ht]
  · have h1 := set_of ih hx (inS_nos hS (.inr hk)) hk hu (n := m) (o := o) (rest := rest) (by omega)
    rw [shp_eq, if_neg (by omega), if_neg (by omega), if_neg (by omega), if_pos hk] at hu
    rw [if_pos (next_fst hu ⟨_, _, rfl, rfl⟩)]
    exact h1
  · rw [shp_eq, if_neg (by omega), if_neg (by omega), if_neg (by omega), if_neg (by omega), if_pos hk] at hu
    obtain ⟨t, rfl, ht⟩ := hu.one
    have k : t.kind = 15 := core_kind ht
    rw [List.singleton_append, if_neg (by rw [next_cons, k]; decide), take_yes (by rw [k]; decide)]
    left
    show (single t, _) = _
    rw [single_range (inS_range hS hk).1 ht]
theorem held_of (ih : Al e N) {x : Nd} (hx : x.size ≤ N + 1) (hS : inS x = true) {us : List Tok} (hu : Is (shp x) us) (n o : Nat) (rest : List Tok) (hn : 12 * x.size ≤ n) :
    (∃ n', n ≤ n' + x.size ∧ partP e n o (.live (us ++ rest)) = heldP e n' o x (.live rest)) ∨ ∃ a, (partP e n o (.live (us ++ rest))).2 = .dead a 8 := by
  have hp := x.size_pos
  have hs := K.size_eq x
  by_cases hk : x.kind = 6 ∨ x.kind = 7
  · obtain ⟨a, b, he, ha, hb, hbk, _⟩ := inS_pair hS hk
    have e2 : x.kids = [a, b] := by rw [he]; rfl
    have es : sizeL x.kids = a.size + (b.size + 0) := by rw [e2]; simp [sizeL]
    have hap := a.size_pos
    have hbp := b.size_pos
    have ea : partH x.kind a = shp a := by unfold partH; rw [if_neg (by rw [brk_no (by have := inS_kind ha; omega)]; decide)]
    have eb : partH x.kind b = shp b := by unfold partH; rw [if_neg (by rw [brk_no (by omega)]; decide)]
    have eh : behS x.kind = [] := by unfold behS; rw [if_neg (by omega), if_neg (by omega), if_neg (by omega)]
    obtain ⟨kt, hkt, hbet⟩ : ∃ kt : Int, (kt = 16 ∨ kt = 17) ∧ betS x.kind = [sg kt] ∧ kindP kt = x.kind := by
      rcases hk with hk | hk
      · exact ⟨16, .inl rfl, by unfold betS; rw [hk]; rfl, by rw [hk]; rfl⟩
      · exact ⟨17, .inr rfl, by unfold betS; rw [hk]; rfl, by rw [hk]; rfl⟩
    rw [shp_eq, if_neg (by omega), if_neg (by omega), if_neg (by omega), if_neg (by omega), if_neg (by omega), e2, shpL_cons, shpL_cons, shpL_nil, if_pos rfl, if_neg (by decide), ea, eb, eh, hbet.1, List.append_nil, List.append_nil, List.nil_append] at hu
    obtain ⟨ua, u1, rfl, hua, hu1⟩ := hu.app
    obtain ⟨ut, ub, rfl, hut, hub⟩ := hu1.app
    obtain ⟨t, rfl, ht⟩ := hut.one
    have kk : t.kind = kt := core_kind ht
    have hc : [16, 17].contains t.kind = true := by rw [kk]; rcases hkt with rfl | rfl <;> decide
    have hassoc : ua ++ ([t] ++ ub) ++ rest = ua ++ (t :: (ub ++ rest)) := by simp
    rw [hassoc]
    rcases ih.held a (by omega) ha ua hua n o (t :: (ub ++ rest)) (by omega) with ⟨n', hn', hg⟩ | hg
    · rw [hg]
      obtain ⟨m, rfl⟩ : ∃ m, n' = m + 1 := ⟨n' - 1, by omega⟩
      rw [heldP, if_pos (by rw [next_cons]; exact hc), take_yes hc]
      rcases member_of (N := N) ih (x := b) (by omega) hb hbk hub (n := m) (o := o) (rest := rest) (by omega) with hm | ⟨d, hm⟩
      · left
        refine ⟨m, by omega, ?_⟩
        rw [hm, kk, hbet.2, ← he]
      · right
        refine ⟨d, ?_⟩
        rw [hm]
        exact (dead_all e m).held _ _ _ _
    · exact .inr hg
  · have hk' : x.kind = 2 ∨ x.kind = 4 ∨ x.kind = 5 := by have := inS_kind hS; omega
    obtain ⟨m, rfl⟩ : ∃ m, n = m + 1 := ⟨n - 1, by omega⟩
    rw [partP]
    rcases member_of ih hx hS hk' hu (n := m) (o := o) (rest := rest) (by omega) with hm | ⟨d, hm⟩
    · left
      exact ⟨m, by omega, by rw [hm]⟩
    · right
      refine ⟨d, ?_⟩
      rw [hm]
      exact (dead_all e m).held _ _ _ _
theorem bare_of (ih : Al e N) {x : Nd} (hx : x.size ≤ N + 1) (hF : inF x = true) (hk : x.kind = 1 ∨ x.kind = 2 ∨ x.kind = 3 ∨ x.kind = 4) {us : List Tok} (hu : Is (shp x) us) {n o : Nat} {rest : List Tok} (hn : 12 * x.size ≤ n + 4) : Gt (bareP e n o (.live (us ++ rest))) x rest := by
  have hp := x.size_pos
  obtain ⟨m, rfl⟩ : ∃ m, n = m + 1 := ⟨n - 1, by omega⟩
  rw [bareP]
  rcases hk with hk | hk | hk | hk
  · have he := inF_leaf hF (.inl hk)
    rw [shp_eq, if_pos hk] at hu
    obtain ⟨t6, v, rfl, h6, hv⟩ := hu.cons
    obtain ⟨t7, rfl, h7⟩ := hv.one
    have k6 : t6.kind = 6 := core_kind h6
    have k7 : t7.kind = 7 := core_kind h7
    have c6 : [6].contains t6.kind = true := by rw [k6]; decide
    have c7 : [7].contains t7.kind = true := by rw [k7]; decide
    rw [List.cons_append, List.singleton_append, if_pos (by rw [next_cons]; exact c6)]
    rcases deep_or e o t6 (t7 :: rest) with hd | ⟨a, hd⟩
    · rw [hd, take_yes c6]
      obtain ⟨m3, rfl⟩ : ∃ m3, m = m3 + 3 := ⟨m - 3, by omega⟩
      have hn1 : nextP [1, 12, 6, 13] (.live (t7 :: rest)) = false := by rw [next_cons, k7]; decide
      have hn2 : nextP [8] (.live (t7 :: rest)) = false := by rw [next_cons, k7]; decide
      have hpi : piecesP e (m3 + 1) (o + 1) [] (.live (t7 :: rest)) = ([], .live (t7 :: rest)) := by rw [piecesP, if_neg (by rw [hn1]; decide)]
      have hj : joinP e (m3 + 2) (o + 1) (.live (t7 :: rest)) = (.mk 1 noName 0 0 [], .live (t7 :: rest)) := by rw [joinP, hpi, if_pos rfl]
      have hf : formP e (m3 + 3) (o + 1) (.live (t7 :: rest)) = (.mk 1 noName 0 0 [], .live (t7 :: rest)) := by rw [formP, hj, orsP, if_neg (by rw [hn2]; decide)]; rfl
      rw [hf, take_yes c7]
      left
      rw [he, hk]
    · rw [hd, take_dead]
      right
      refine ⟨a, ?_⟩
      show (takeP e [7] (formP e m (o + 1) (.dead a 8)).2).2 = _
      rw [(dead_all e m).form, take_dead]
  · rw [shp_eq, if_neg (by omega), if_neg (by omega), if_pos hk] at hu
    obtain ⟨t, rfl, ht⟩ := hu.one
    have k : t.kind = 1 := core_kind ht
    rw [List.singleton_append, if_neg (by rw [next_cons, k]; decide), if_neg (by rw [next_cons, k]; decide), take_yes (by rw [k]; decide)]
    left
    show (single t, _) = _
    rw [single_name (nos_name (inF_nos hF (.inl hk)) hk).1 ht]
  · have he := inF_leaf hF (.inr hk)
    rw [shp_eq, if_neg (by omega), if_pos hk] at hu
    obtain ⟨t, rfl, ht⟩ := hu.one
    have k : t.kind = 12 := core_kind ht
    rw [List.singleton_append, if_neg (by rw [next_cons, k]; decide), if_neg (by rw [next_cons, k]; decide), take_yes (by rw [k]; decide)]
    left
    show (single t, _) = _
    have hsg : single t = .mk 3 noName 0 0 [] := by unfold Y.single; rw [if_neg (by omega), if_neg (by omega)]
    rw [hsg, he, hk]
  · have h1 := set_of ih hx (inF_nos hF (.inr hk)) hk hu (n := m) (o := o) (rest := rest) (by omega)
    rw [shp_eq, if_neg (by omega), if_neg (by omega), if_neg (by omega), if_pos hk] at hu
    have hf : Fst [13] ((13, [], x.low, 0) :: (shpL 4 true x.kids ++ [sg 14])) := ⟨_, _, rfl, rfl⟩
    rw [if_neg (by rw [next_not hu hf (ks' := [6]) (by intro k; simp only [List.contains_cons, List.contains_nil, Bool.or_false, beq_iff_eq, beq_eq_false_iff_ne]; omega)]; decide), if_pos (next_fst hu hf)]
    exact h1
theorem brk_of (ih : Al e N) {x : Nd} (hx : x.size ≤ N) (hF : inF x = true) {us : List Tok} (hu : Is (sg 6 :: (shp x ++ [sg 7])) us) {n o : Nat} {rest : List Tok} (hn : 12 * x.size + 4 ≤ n) : Gt (bareP e n o (.live (us ++ rest))) x rest := by
  obtain ⟨t6, v, rfl, h6, hv⟩ := hu.cons
  obtain ⟨ux, u7, rfl, hux, h7⟩ := hv.app
  obtain ⟨t7, rfl, g7⟩ := h7.one
  have k6 : t6.kind = 6 := core_kind h6
  have k7 : t7.kind = 7 := core_kind g7
  have c6 : [6].contains t6.kind = true := by rw [k6]; decide
  have c7 : [7].contains t7.kind = true := by rw [k7]; decide
  obtain ⟨m, rfl⟩ : ∃ m, n = m + 1 := ⟨n - 1, by omega⟩
  have hap : (t6 :: (ux ++ [t7])) ++ rest = t6 :: (ux ++ t7 :: rest) := by simp
  rw [bareP, hap, if_pos (by rw [next_cons]; exact c6)]
  rcases deep_or e o t6 (ux ++ t7 :: rest) with hd | ⟨a, hd⟩
  · rw [hd, take_yes c6]
    rcases ih.form x hx hF ux hux m (o + 1) (t7 :: rest) (by omega) ⟨by rw [next_cons, k7]; decide, by rw [next_cons, k7]; decide⟩ (by rw [next_cons, k7]; decide) with hg | ⟨a, hg⟩
    · rw [hg, take_yes c7]; exact .inl rfl
    · rw [hg, take_dead]; exact .inr ⟨a, rfl⟩
  · rw [hd, take_dead]
    right
    refine ⟨a, ?_⟩
    show (takeP e [7] (formP e m (o + 1) (.dead a 8)).2).2 = _
    rw [(dead_all e m).form, take_dead]
theorem piece_bare {n o : Nat} {s : Ps} {x : Nd} {rest : List Tok} (h : Gt (bareP e n o s) x rest) (hr : nextP [9, 10, 11] (.live rest) = false) : Gt (pieceP e (n + 1) o s) x rest := by
  rw [pieceP]
  rcases h with h | ⟨a, h⟩
  · rw [h, if_neg (by rw [hr]; decide)]; exact .inl rfl
  · rw [h, if_neg (by rw [next_dead]; decide)]; exact .inr ⟨a, h⟩
theorem piece_rep {n o : Nat} {s : Ps} {y : Nd} {t : Tok} {rest : List Tok} (h : Gt (bareP e n o s) y (t :: rest)) (hc : [9, 10, 11].contains t.kind = true) : Gt (pieceP e (n + 1) o s) (.mk (kindP t.kind) noName 0 0 [y]) rest := by
  rw [pieceP]
  rcases h with h | ⟨a, h⟩
  · rw [h, if_pos (by rw [next_cons]; exact hc), take_yes hc]; exact .inl rfl
  · rw [h, if_neg (by rw [next_dead]; decide)]; exact .inr ⟨a, h⟩
theorem piece_of (ih : Al e N) {x : Nd} (hx : x.size ≤ N + 1) (hF : inF x = true) (hk : x.kind ≠ 8 ∧ x.kind ≠ 9) {us : List Tok} (hu : Is (shp x) us) {n o : Nat} {rest : List Tok} (hn : 12 * x.size ≤ n) (hr : nextP [9, 10, 11] (.live rest) = false) : Gt (pieceP e n o (.live (us ++ rest))) x rest := by
  have hp := x.size_pos
  obtain ⟨m, rfl⟩ : ∃ m, n = m + 1 := ⟨n - 1, by omega⟩
  by_cases h3 : x.kind = 10 ∨ x.kind = 11 ∨ x.kind = 12
  · obtain ⟨y, he, hy⟩ := inF_one hF h3
    have hs := K.size_eq x
    have e2 : x.kids = [y] := by rw [he]; rfl
    have es : sizeL x.kids = y.size + 0 := by rw [e2]; simp [sizeL]
    obtain ⟨kt, hkt, hbe, hkd⟩ : ∃ kt : Int, (kt = 9 ∨ kt = 10 ∨ kt = 11) ∧ behS x.kind = [sg kt] ∧ kindP kt = x.kind := by
      rcases h3 with hk | hk | hk
      · exact ⟨9, .inl rfl, by unfold behS; rw [hk]; rfl, by rw [hk]; rfl⟩
      · exact ⟨10, .inr (.inl rfl), by unfold behS; rw [hk]; rfl, by rw [hk]; rfl⟩
      · exact ⟨11, .inr (.inr rfl), by unfold behS; rw [hk]; rfl, by rw [hk]; rfl⟩
    rw [shp_eq, if_neg (by omega), if_neg (by omega), if_neg (by omega), if_neg (by omega), if_neg (by omega), e2, shpL_cons, shpL_nil, if_pos rfl, hbe, List.nil_append, List.append_nil] at hu
    obtain ⟨uy, ut, rfl, huy, hut⟩ := hu.app
    obtain ⟨t, rfl, ht⟩ := hut.one
    have kk : t.kind = kt := core_kind ht
    have hc : [9, 10, 11].contains t.kind = true := by rw [kk]; rcases hkt with rfl | rfl | rfl <;> decide
    have hb : Gt (bareP e m o (.live (uy ++ (t :: rest)))) y (t :: rest) := by
      unfold partH at huy
      cases hbk : brkB y.kind x.kind with
      | true =>
        rw [hbk, if_pos rfl] at huy
        exact brk_of ih (by omega) hy huy (by omega)
      | false =>
        rw [hbk, if_neg (by decide)] at huy
        refine bare_of ih (by omega) hy ?_ huy (by omega)
        have hyk := inF_kind hy
        unfold K.brkB K.threeB at hbk
        split at hbk
        · cases hbk
        · split at hbk
          · rw [decide_eq_false_iff_not] at hbk; omega
          · rw [Bool.and_eq_false_iff, decide_eq_false_iff_not, decide_eq_false_iff_not] at hbk; omega
    have := piece_rep hb hc
    rw [kk, hkd, ← he] at this
    rw [List.append_assoc]
    exact this
  · have := inF_kind hF
    exact piece_bare (bare_of ih hx hF (by omega) hu (by omega)) hr
theorem join_one {m o : Nat} {us rest : List Tok} {y : Nd} {s : List Sh} (hu : Is s us) (hf : Fst [1, 12, 6, 13] s) (h : Gt (pieceP e (m + 1) o (.live (us ++ rest))) y rest) (hs : Stp rest) : Gt (joinP e (m + 3) o (.live (us ++ rest))) y rest := by
  rw [joinP]
  have hp : Gt (piecesP e (m + 2) o [] (.live (us ++ rest))) [y] rest := by
    rw [piecesP, if_pos (next_fst hu hf)]
    rcases h with h | ⟨a, h⟩
    · rw [h, piecesP, if_neg (by rw [hs.1]; decide)]; exact .inl rfl
    · rw [h]; exact .inr ⟨a, (dead_all e (m + 1)).pieces _ _ _ _⟩
  rcases hp with h | ⟨a, h⟩
  · rw [h, if_neg (by simp)]; exact .inl rfl
  · exact .inr ⟨a, h⟩
theorem several_two {k : Int} {l : List Nd} (h : 2 ≤ l.length) : several k l = .mk k noName 0 0 l := by
  unfold Y.several
  split
  · simp at h
  · rfl
theorem join_of (ih : Al e N) {x : Nd} (hx : x.size ≤ N + 1) (hF : inF x = true) (hk : x.kind ≠ 9) {us : List Tok} (hu : Is (shp x) us) {n o : Nat} {rest : List Tok} (hn : 12 * x.size + 2 ≤ n) (hs : Stp rest) : Gt (joinP e n o (.live (us ++ rest))) x rest := by
  have hp := x.size_pos
  have hsz := K.size_eq x
  by_cases h8 : x.kind = 8
  · obtain ⟨he, h2, hkids⟩ := inF_many hF (.inl h8)
    rw [shp_eq, if_neg (by omega), if_neg (by omega), if_neg (by omega), if_neg (by omega), if_neg (by omega), h8, show behS 8 = [] from rfl, List.append_nil] at hu
    obtain ⟨m, rfl⟩ : ∃ m, n = m + 1 := ⟨n - 1, by omega⟩
    rw [joinP]
    have hg := pieces_of (e := e) (o := o) hs x.kids true [] us m hu (fun y hy => by
      have hyF := hkids y hy
      have hys := K.size_in hy
      refine ⟨part_fst (by decide) (fst_F _ y (Nat.le_refl _) hyF), fun uy huy m' rest' hm' hr' => ?_⟩
      unfold partH at huy
      obtain ⟨m2, rfl⟩ : ∃ m2, m' = m2 + 1 := ⟨m' - 1, by omega⟩
      cases hbk : brkB y.kind 8 with
      | true =>
        rw [hbk, if_pos rfl] at huy
        exact piece_bare (brk_of ih (by omega) hyF huy (by omega)) hr'
      | false =>
        rw [hbk, if_neg (by decide)] at huy
        refine piece_of ih (by omega) hyF ?_ huy (by omega) hr'
        unfold K.brkB at hbk
        split at hbk
        · cases hbk
        · split at hbk
          · rw [decide_eq_false_iff_not] at hbk; omega
          · omega) (by omega)
    rcases hg with h | ⟨a, h⟩
    · have hne : x.kids ≠ [] := by intro h0; rw [h0] at h2; simp at h2
      rw [h, List.nil_append, if_neg hne, several_two h2]
      left
      rw [h8] at he
      rw [← he]
    · exact .inr ⟨a, h⟩
  · obtain ⟨m, rfl⟩ : ∃ m, n = m + 3 := ⟨n - 3, by omega⟩
    exact join_one hu (fst_F _ x (Nat.le_refl _) hF) (piece_of ih hx hF ⟨h8, hk⟩ hu (by omega) hs.2) hs
theorem orjoin_of (ih : Al e N) {y : Nd} (hy : y.size ≤ N) (hF : inF y = true) {us : List Tok} (hu : Is (partH 9 y) us) {n o : Nat} {rest : List Tok} (hn : 12 * y.size + 7 ≤ n) (hs : Stp rest) : Gt (joinP e n o (.live (us ++ rest))) y rest := by
  unfold partH at hu
  cases hbk : brkB y.kind 9 with
  | true =>
    rw [hbk, if_pos rfl] at hu
    obtain ⟨m, rfl⟩ : ∃ m, n = m + 3 := ⟨n - 3, by omega⟩
    exact join_one hu ⟨_, _, rfl, rfl⟩ (piece_bare (brk_of ih hy hF hu (by omega)) hs.2) hs
  | false =>
    rw [hbk, if_neg (by decide)] at hu
    refine join_of ih (by omega) hF ?_ hu (by omega) hs
    intro h9
    unfold K.brkB at hbk
    rw [if_pos h9] at hbk
    cases hbk
theorem form_of (ih : Al e N) {x : Nd} (hx : x.size ≤ N + 1) (hF : inF x = true) {us : List Tok} (hu : Is (shp x) us) {n o : Nat} {rest : List Tok} (hn : 12 * x.size + 3 ≤ n) (hs : Stp rest) (h8 : nextP [8] (.live rest) = false) : Gt (formP e n o (.live (us ++ rest))) x rest := by
  have hp := x.size_pos
  have hsz := K.size_eq x
  obtain ⟨m, rfl⟩ : ∃ m, n = m + 1 := ⟨n - 1, by omega⟩
  rw [formP]
  by_cases h9 : x.kind = 9
  · obtain ⟨he, h2, hkids⟩ := inF_many hF (.inr h9)
    rw [shp_eq, if_neg (by omega), if_neg (by omega), if_neg (by omega), if_neg (by omega), if_neg (by omega), h9, show behS 9 = [] from rfl, List.append_nil] at hu
    rw [h9] at he
    cases hl : x.kids with
    | nil => rw [hl] at h2; simp at h2
    | cons y t =>
      rw [hl] at hu h2 he hsz hkids
      rw [sizeL] at hsz
      rw [shpL_cons, if_pos rfl, List.nil_append] at hu
      obtain ⟨uy, ut, rfl, huy, hut⟩ := hu.app
      rw [List.append_assoc]
      have hst : Stp (ut ++ rest) := by
        cases t with
        | nil => simp at h2
        | cons z t2 =>
          rw [shpL_cons, show (if false = true then [] else betS 9) = [sg 8] from rfl, List.append_assoc] at hut
          obtain ⟨t9, v9, rfl, h9', _⟩ := Is.cons hut
          have k9 : t9.kind = 8 := core_kind h9'
          exact ⟨by rw [List.cons_append, next_cons, k9]; decide, by rw [List.cons_append, next_cons, k9]; decide⟩
      rcases orjoin_of ih (y := y) (by omega) (hkids y (by simp)) huy (n := m) (o := o) (rest := ut ++ rest) (by omega) hst with hg | ⟨a, hg⟩
      · rw [hg]
        have ho := ors_of (e := e) (o := o) hs h8 t [y] ut m hut (fun z hz uz huz m' rest' hm' hr' => orjoin_of ih (by have := K.size_in hz; omega) (hkids z (by simp [hz])) huz hm' hr') (by omega)
        rw [List.singleton_append, several_two h2, ← he] at ho
        exact ho
      · rw [hg]
        exact .inr ⟨a, (dead_all e m).ors _ _ _ _⟩
  · rcases join_of ih hx hF h9 hu (n := m) (o := o) (rest := rest) (by omega) hs with hg | ⟨a, hg⟩
    · rw [hg]
      obtain ⟨m2, rfl⟩ : ∃ m2, m = m2 + 1 := ⟨m - 1, by omega⟩
      rw [orsP, if_neg (by rw [h8]; decide)]
      exact .inl rfl
    · rw [hg]
      exact .inr ⟨a, (dead_all e m).ors _ _ _ _⟩
end
theorem al_all (e : Int) : ∀ N, Al e N
  | 0 => ⟨fun x h => by have := x.size_pos; omega, fun x h => by have := x.size_pos; omega⟩
  | N + 1 => by
    have ih := al_all e N
    exact ⟨fun x hx hS us hu n o rest hn => held_of ih hx hS hu n o rest hn, fun x hx hF us hu n o rest hn hs h8 => form_of ih hx hF hu hn hs h8⟩
/-- A form's tokens say the form, unless it is too deep. -/
theorem form_back (e : Int) {x : Nd} (hF : inF x = true) {us : List Tok} (hu : Is (shp x) us) {n o : Nat} {rest : List Tok} (hn : 12 * x.size + 3 ≤ n) (hs : Stp rest) (h8 : nextP [8] (.live rest) = false) : Gt (formP e n o (.live (us ++ rest))) x rest :=
  (al_all e x.size).form x (Nat.le_refl _) hF us hu n o rest hn hs h8
end U
end Go.Proofs.YtmohefgdpddldaaGreatDoor
namespace Go.Proofs.YtmohefgdpddldaaGreatDoor
namespace U
open Y (Nd It Ps noName zeroN sizeL)
open K (numsOf nameB twoB threeB aloneB endK pairB inS inF nosB brkB txt kidsT partT behindT betweenT rngT)
open W (Tk lexS stepS outS inS nameS setS charsS chS hiS opn lastK nmB ltB many markB)
open Q (plainB textB)

def coreT (t : Tk) : Sh := (t.kind, t.text, t.low, t.high)
/-- So much of a text is these tokens. -/
def LexTo (o : Nat) (ts : List Tk) (l rest : List Int) (o' : Nat) (s : List Sh) : Prop :=
  ∀ i, ∃ us : List Tk, us.map coreT = s ∧ lexS (l ++ rest) i o ts = lexS rest (i + l.length) o' (ts ++ us)
theorem LexTo.nil (o : Nat) (ts : List Tk) (rest : List Int) : LexTo o ts [] rest o [] := fun i => ⟨[], rfl, by simp⟩
theorem LexTo.seq {o o1 o2 : Nat} {ts : List Tk} {l1 l2 rest : List Int} {s1 s2 : List Sh} (h1 : LexTo o ts l1 (l2 ++ rest) o1 s1) (h2 : ∀ us : List Tk, us.map coreT = s1 → LexTo o1 (ts ++ us) l2 rest o2 s2) : LexTo o ts (l1 ++ l2) rest o2 (s1 ++ s2) := fun i => by
  obtain ⟨u1, e1, h1⟩ := h1 i
  obtain ⟨u2, e2, h2⟩ := h2 u1 e1 (i + l1.length)
  refine ⟨u1 ++ u2, by rw [List.map_append, e1, e2], ?_⟩
  rw [List.append_assoc, h1, h2, List.length_append, List.append_assoc, Nat.add_assoc]
theorem LexTo.blank (o : Nat) (ts : List Tk) (rest : List Int) : LexTo o ts [32] rest o [] := fun i => ⟨[], rfl, by
  rw [List.singleton_append, W.lexS_blank (.inl rfl), List.append_nil]; rfl⟩
/-- One token. -/
theorem LexTo.tok {o : Nat} {ts : List Tk} {c : Int} {l rest : List Int} {k : Int} {x : List Int} {lo hi : Int} {m : Nat} (hc : ¬ (c = 32 ∨ c = 9)) (h : stepS o ts c (l ++ rest) = .tok k x lo hi m) (hm : m = l.length) : LexTo o ts (c :: l) rest (opn k o) [(k, x, lo, hi)] := fun i => by
  refine ⟨[⟨k, x, lo, hi, i⟩], rfl, ?_⟩
  rw [List.cons_append, W.lexS_step hc, h]
  show lexS ((l ++ rest).drop m) (i + m + 1) (opn k o) _ = _
  rw [hm, List.drop_left, List.length_cons]; rfl
theorem name_take {l rest : List Int} (h : l.all nmB = true) (hr : nmB (rest.headD (-1)) = false) : (l ++ rest).takeWhile nmB = l := by
  rw [List.takeWhile_append_of_pos (fun x hx => List.all_eq_true.1 h x hx)]
  cases rest with
  | nil => simp
  | cons c t => rw [List.takeWhile_cons_of_neg (by rw [show nmB c = false from hr]; decide), List.append_nil]
theorem lex_name {o : Nat} {ts : List Tk} {s : ByteArray} {rest : List Int} (h : nameB (numsOf s) = true) (hr : nmB (rest.headD (-1)) = false) : LexTo o ts (36 :: numsOf s) rest o [(1, numsOf s, 0, 0)] := by
  have hst : stepS o ts 36 (numsOf s ++ rest) = .tok 1 (numsOf s) 0 0 (numsOf s).length := by
    have h1 : stepS o ts 36 (numsOf s ++ rest) = nameS (numsOf s ++ rest) := by
      unfold W.stepS W.inS W.outS
      split <;> rfl
    rw [h1]
    generalize numsOf s = l at *
    unfold K.nameB at h
    split at h
    · cases h
    · rename_i c t
      simp only [Bool.and_eq_true, decide_eq_true_eq] at h
      have htw := name_take h.2 hr
      unfold W.nameS W.many
      rw [htw, if_pos (by exact h.1.2), if_neg (by simp only [List.length_cons]; omega)]
  have := LexTo.tok (o := o) (ts := ts) (c := 36) (l := numsOf s) (rest := rest) (by decide) hst rfl
  exact this
theorem text_head {c : Int} (h : Q.isC c = true) : ∃ x t, textB c = x :: t ∧ (x = 92 ∨ plainB x = true) := by
  cases hp : plainB c with
  | true => exact ⟨c, [], Q.text_plain hp, .inr hp⟩
  | false => rw [Q.text_esc hp]; exact ⟨92, _, rfl, .inl rfl⟩
theorem mark_no {x : Int} (h : x = 92 ∨ plainB x = true) : markB x = false := by
  rw [Q.plain_iff] at h
  unfold W.markB
  rw [decide_eq_false_iff_not]; omega
theorem chs_text {c : Int} (h : Q.isC c = true) {l : List Int} {k : Nat} {rest : List Int} (hl : l.drop k = textB c ++ rest) : chS l k = .ok c (k + (textB c).length) := by
  obtain ⟨x, t, e, hx⟩ := text_head h
  unfold W.chS
  rw [hl, if_neg (by rw [e]; show ¬ markB x = true; rw [mark_no hx]; decide), Q.read_text h]
theorem lex_range {o : Nat} (ho : 0 < o) {ts : List Tk} {lo hi : Int} (h0 : 0 ≤ lo) (h1 : lo ≤ hi) (h2 : hi ≤ 1114111) {rest : List Int} (hr : rest.headD (-1) ≠ 45) : LexTo o ts (rngT lo hi) rest o [(15, [], lo, hi)] := by
  have hlo : Q.isC lo = true := (Q.isC_iff lo).2 (by omega)
  have hhi : Q.isC hi = true := (Q.isC_iff hi).2 (by omega)
  obtain ⟨x, t, e, hx⟩ := text_head hlo
  have hxx := hx
  rw [Q.plain_iff] at hxx
  have hin : ∀ r : List Int, stepS o ts x r = charsS (x :: r) := fun r => by
    unfold W.stepS W.inS
    rw [if_pos ho, if_neg (by omega), if_neg (by omega), if_neg (by omega), if_neg (by omega), if_neg (by omega)]
  have hop : opn 15 o = o := rfl
  have hp := Q.text_pos lo
  by_cases he : hi = lo
  · subst he
    have er : rngT hi hi = textB hi := by unfold K.rngT; rw [if_pos rfl, List.append_nil]
    have hst : stepS o ts x (t ++ rest) = .tok 15 [] hi hi ((textB hi).length - 1) := by
      rw [hin]
      have hd : ((x :: (t ++ rest) : List Int)).drop 0 = textB hi ++ rest := by rw [e]; rfl
      unfold W.charsS
      rw [chs_text hlo hd, Nat.zero_add]
      have hd2 : ((x :: (t ++ rest) : List Int)).drop (textB hi).length = rest := by rw [← List.cons_append, ← e, List.drop_left]
      show (match hiS (x :: (t ++ rest)) hi (textB hi).length with
        | .bad k er => W.St.bad k er
        | .ok hh m => if hh < hi then W.St.bad 0 7 else W.St.tok 15 [] hi hh (m - 1)) = _
      unfold W.hiS
      rw [hd2, if_neg hr]
      show (if hi < hi then _ else _) = _
      rw [if_neg (by omega)]
    rw [er, e]
    have := LexTo.tok (o := o) (ts := ts) (c := x) (l := t) (rest := rest) (by omega) hst (by rw [e]; simp)
    rw [hop] at this
    exact this
  · have er : rngT lo hi = x :: (t ++ 45 :: textB hi) := by unfold K.rngT; rw [if_neg he, e]; rfl
    have hst : stepS o ts x ((t ++ 45 :: textB hi) ++ rest) = .tok 15 [] lo hi ((textB lo).length + 1 + (textB hi).length - 1) := by
      rw [hin]
      have hl : (x :: ((t ++ 45 :: textB hi) ++ rest) : List Int) = textB lo ++ 45 :: (textB hi ++ rest) := by rw [e]; simp
      rw [hl]
      unfold W.charsS
      rw [chs_text hlo (k := 0) (rest := 45 :: (textB hi ++ rest)) rfl, Nat.zero_add]
      show (match hiS (textB lo ++ 45 :: (textB hi ++ rest)) lo (textB lo).length with
        | .bad k er => W.St.bad k er
        | .ok hh m => if hh < lo then W.St.bad 0 7 else W.St.tok 15 [] lo hh (m - 1)) = _
      unfold W.hiS
      rw [List.drop_left, if_pos (show (45 :: (textB hi ++ rest) : List Int).headD (-1) = 45 from rfl), chs_text hhi (k := (textB lo).length + 1) (rest := rest) (by rw [← List.drop_drop, List.drop_left]; rfl)]
      show (if hi < lo then _ else _) = _
      rw [if_neg (by omega)]
    rw [er]
    have := LexTo.tok (o := o) (ts := ts) (c := x) (l := t ++ 45 :: textB hi) (rest := rest) (by omega) hst (by rw [e]; simp; omega)
    rw [hop] at this
    exact this
/-- With which letter a part of a set begins. -/
theorem head_S : ∀ (N : Nat) (x : Nd), x.size ≤ N → K.inS x = true → ∃ c t, txt x = c :: t ∧ (c = 36 ∨ c = 91 ∨ c = 92 ∨ plainB c = true)
  | 0, x, h, _ => by have := x.size_pos; omega
  | N + 1, x, h, hf => by
    have hs := K.size_eq x
    have hp : x.kind = 6 ∨ x.kind = 7 → ∃ c t, kidsT x.kind true x.kids ++ behindT x.kind = c :: t ∧ (c = 36 ∨ c = 91 ∨ c = 92 ∨ plainB c = true) := fun hk => by
      obtain ⟨a, b, e, ha, _⟩ := inS_pair hf hk
      have e2 : x.kids = [a, b] := by rw [e]; rfl
      have hy' : a.size ≤ sizeL x.kids := K.size_in (by rw [e2]; simp)
      obtain ⟨c, t, e3, hc⟩ := head_S N a (by omega) ha
      rw [e2, K.kidsT_cons, if_pos rfl, List.nil_append]
      unfold K.partT
      rw [if_neg (by rw [brk_no (by have := inS_kind ha; omega)]; decide), e3]
      exact ⟨c, _, rfl, hc⟩
    rw [K.txt_eq]
    rcases inS_kind hf with hk | hk | hk | hk | hk
    · rw [if_neg (by omega), if_neg (by omega), if_pos hk]; exact ⟨_, _, rfl, .inl rfl⟩
    · rw [if_neg (by omega), if_neg (by omega), if_neg (by omega), if_pos hk]
      split
      · exact ⟨_, _, rfl, .inr (.inl rfl)⟩
      · exact ⟨_, _, rfl, .inr (.inl rfl)⟩
    · rw [if_neg (by omega), if_neg (by omega), if_neg (by omega), if_neg (by omega), if_pos hk]
      obtain ⟨_, h0, h1, h2⟩ := inS_range hf hk
      obtain ⟨c, t, e, hc⟩ := text_head (c := x.low) ((Q.isC_iff _).2 (by omega))
      unfold K.rngT
      rw [e]
      exact ⟨c, _, rfl, by rcases hc with hc | hc <;> simp [hc]⟩
    · rw [if_neg (by omega), if_neg (by omega), if_neg (by omega), if_neg (by omega), if_neg (by omega)]; exact hp (.inl hk)
    · rw [if_neg (by omega), if_neg (by omega), if_neg (by omega), if_neg (by omega), if_neg (by omega)]; exact hp (.inr hk)
/-- What is known of a part of a set. -/
def SLex (x : Nd) : Prop := ∀ (o : Nat), 0 < o → ∀ rest, nmB (rest.headD (-1)) = false → (rest.headD (-1) = 45 → endK x = 2 ∨ endK x = 4) → ∀ ts, LexTo o ts (txt x) rest o (shp x)
theorem lex_parts {o : Nat} (ho : 0 < o) {rest : List Int} : ∀ (l : List Nd) (f : Bool) (ts : List Tk), (∀ y ∈ l, K.inS y = true ∧ SLex y) → LexTo o ts (kidsT 4 f l) (93 :: rest) o (shpL 4 f l)
  | [], f, ts, _ => by rw [kidsT, shpL_nil]; exact LexTo.nil _ _ _
  | y :: t, f, ts, h => by
    obtain ⟨hy, hL⟩ := h y (by simp)
    have hb : brkB y.kind 4 = false := brk_no (by have := inS_kind hy; omega)
    have e1 : partT 4 y = txt y := by unfold K.partT; rw [hb, if_neg (by decide)]
    have e2 : partH 4 y = shp y := by unfold partH; rw [hb, if_neg (by decide)]
    rw [K.kidsT_cons, shpL_cons, e1, e2]
    have hhd : (kidsT 4 false t ++ 93 :: rest).headD (-1) = 32 ∨ (kidsT 4 false t ++ 93 :: rest).headD (-1) = 93 := by
      cases t with
      | nil => rw [kidsT]; exact .inr rfl
      | cons z u => rw [K.kidsT_cons]; exact .inl rfl
    refine LexTo.seq (o1 := o) (LexTo.seq (o1 := o) ?_ fun us _ => ?_) fun us _ => lex_parts ho t false _ (fun z hz => h z (by simp [hz]))
    · cases f with
      | true => exact LexTo.nil _ _ _
      | false => exact LexTo.blank _ _ _
    · exact hL o ho _ (by rcases hhd with h | h <;> rw [h] <;> rfl) (fun h45 => by rcases hhd with h | h <;> rw [h] at h45 <;> cases h45) _
theorem lex_set {x : Nd} (hS : nosB x = true) (hk : x.kind = 4) (hkids : ∀ y ∈ x.kids, K.inS y = true ∧ SLex y) (o : Nat) (ts : List Tk) (rest : List Int) : LexTo o ts (txt x) rest o (shp x) := by
  obtain ⟨_, hlow, _⟩ := inS_set hS hk
  have hT : txt x = (if x.low = 1 then [91, 94] else [91]) ++ kidsT 4 true x.kids ++ [93] := by rw [K.txt_eq, if_neg (by omega), if_neg (by omega), if_neg (by omega), if_pos hk]
  have hH : shp x = (13, [], x.low, 0) :: (shpL 4 true x.kids ++ [sg 14]) := by rw [shp_eq, if_neg (by omega), if_neg (by omega), if_neg (by omega), if_pos hk]
  rw [hT, hH]
  have hstep : ∀ r, stepS o ts 91 r = setS r := fun r => by
    unfold W.stepS W.inS W.outS
    split <;> rfl
  have h14 : ∀ us : List Tk, LexTo (o + 1) us [93] rest o [sg 14] := fun us => by
    have hst : stepS (o + 1) us 93 ([] ++ rest) = .tok 14 [] 0 0 0 := by
      unfold W.stepS W.inS
      rw [if_pos (by omega)]; rfl
    exact LexTo.tok (o := o + 1) (ts := us) (c := 93) (l := []) (rest := rest) (by decide) hst rfl
  have hrest : ∀ us : List Tk, LexTo (o + 1) us (kidsT 4 true x.kids ++ [93]) rest o (shpL 4 true x.kids ++ [sg 14]) := fun us =>
    LexTo.seq (o1 := o + 1) (lex_parts (o := o + 1) (Nat.succ_pos o) x.kids true us hkids) (fun _ _ => h14 _)
  have e0 : ((13, [], x.low, 0) :: (shpL 4 true x.kids ++ [sg 14]) : List Sh) = [(13, [], x.low, 0)] ++ (shpL 4 true x.kids ++ [sg 14]) := rfl
  rw [e0, List.append_assoc]
  rcases hlow with hl | hl
  · rw [if_neg (by omega), hl]
    refine LexTo.seq (o1 := o + 1) ?_ fun us _ => hrest _
    have hhd : ((kidsT 4 true x.kids ++ [93]) ++ rest).headD (-1) ≠ 94 := by
      cases hkd : x.kids with
      | nil => rw [kidsT]; show (93 : Int) ≠ 94; decide
      | cons y t =>
        have hy := (hkids y (by rw [hkd]; simp)).1
        obtain ⟨c, u, e, hc⟩ := head_S _ y (Nat.le_refl _) hy
        rw [K.kidsT_cons, if_pos rfl, List.nil_append]
        unfold K.partT
        rw [if_neg (by rw [brk_no (by have := inS_kind hy; omega)]; decide), e]
        show c ≠ 94
        rw [Q.plain_iff] at hc
        omega
    have hst : stepS o ts 91 ([] ++ ((kidsT 4 true x.kids ++ [93]) ++ rest)) = .tok 13 [] 0 0 0 := by
      rw [hstep]; unfold W.setS; rw [List.nil_append, if_neg hhd]
    exact LexTo.tok (o := o) (ts := ts) (c := 91) (l := []) (by decide) hst rfl
  · rw [if_pos hl, hl]
    refine LexTo.seq (o1 := o + 1) ?_ fun us _ => hrest _
    have hst : stepS o ts 91 ([94] ++ ((kidsT 4 true x.kids ++ [93]) ++ rest)) = .tok 13 [] 1 0 1 := by
      rw [hstep]; rfl
    exact LexTo.tok (o := o) (ts := ts) (c := 91) (l := [94]) (by decide) hst rfl
/-- The last token of a part of a set. -/
theorem last_S {x : Nd} (hx : K.inS x = true) (he : endK x = 2 ∨ endK x = 4) : ∃ a c, shp x = a ++ [c] ∧ (c.1 = 14 ∨ c.1 = 1) := by
  have hone : ∀ y : Nd, y.kind = 2 ∨ y.kind = 4 → ∃ a c, shp y = a ++ [c] ∧ (c.1 = 14 ∨ c.1 = 1) := fun y hy => by
    rw [shp_eq]
    rcases hy with hk | hk
    · rw [if_neg (by omega), if_neg (by omega), if_pos hk]; exact ⟨[], _, rfl, .inr rfl⟩
    · rw [if_neg (by omega), if_neg (by omega), if_neg (by omega), if_pos hk]
      exact ⟨(13, [], y.low, 0) :: shpL 4 true y.kids, sg 14, rfl, .inl rfl⟩
  by_cases hk : x.kind = 6 ∨ x.kind = 7
  · obtain ⟨a, b, e, ha, hb, hbk, _⟩ := inS_pair hx hk
    have e2 : x.kids = [a, b] := by rw [e]; rfl
    have hend : endK x = b.kind := by
      unfold K.endK K.twoB
      rw [e2, decide_eq_true hk]; rfl
    rw [hend] at he
    obtain ⟨u, c, hu, hc⟩ := hone b he
    have eb : partH x.kind b = shp b := by unfold partH; rw [if_neg (by rw [brk_no (by omega)]; decide)]
    have eh : behS x.kind = [] := by unfold behS; rw [if_neg (by omega), if_neg (by omega), if_neg (by omega)]
    rw [shp_eq, if_neg (by omega), if_neg (by omega), if_neg (by omega), if_neg (by omega), if_neg (by omega), e2, shpL_cons, shpL_cons, shpL_nil, eb, eh, hu, List.append_nil, List.append_nil]
    exact ⟨_, c, by rw [← List.append_assoc, ← List.append_assoc], hc⟩
  · have hend : endK x = x.kind := by
      unfold K.endK K.twoB
      rw [decide_eq_false hk]; rfl
    rw [hend] at he
    exact hone x he
theorem last_of {us : List Tk} {a : List Sh} {c : Sh} (h : us.map coreT = a ++ [c]) (ts : List Tk) : lastK (ts ++ us) = c.1 := by
  obtain ⟨u, v, rfl, _, h2⟩ := List.map_eq_append_iff.1 h
  obtain ⟨t, w, rfl, ht, hw⟩ := List.map_eq_cons_iff.1 h2
  obtain rfl := List.map_eq_nil_iff.1 hw
  unfold W.lastK
  rw [← List.append_assoc, List.getLast?_append]
  simp only [List.getLast?_singleton, Option.some_or]
  exact congrArg (·.1) ht
theorem slex_all : ∀ (N : Nat) (x : Nd), x.size ≤ N → K.inS x = true → SLex x
  | 0, x, h, _ => by have := x.size_pos; omega
  | N + 1, x, h, hf => by
    have hs := K.size_eq x
    intro o ho rest hr h45 ts
    rcases inS_kind hf with hk | hk | hk | hk
    · rw [K.txt_eq, if_neg (by omega), if_neg (by omega), if_pos hk, shp_eq, if_neg (by omega), if_neg (by omega), if_pos hk]
      exact lex_name (nos_name (inS_nos hf (.inl hk)) hk).2 hr
    · obtain ⟨_, _, hkids⟩ := inS_set (inS_nos hf (.inr hk)) hk
      exact lex_set (inS_nos hf (.inr hk)) hk (fun y hy => ⟨hkids y hy, slex_all N y (by have := K.size_in hy; omega) (hkids y hy)⟩) o ts rest
    · rw [K.txt_eq, if_neg (by omega), if_neg (by omega), if_neg (by omega), if_neg (by omega), if_pos hk, shp_eq, if_neg (by omega), if_neg (by omega), if_neg (by omega), if_neg (by omega), if_pos hk]
      obtain ⟨_, h0, h1, h2⟩ := inS_range hf hk
      refine lex_range ho h0 h1 h2 fun h => ?_
      have hend : endK x = x.kind := by
        unfold K.endK K.twoB
        rw [decide_eq_false (by omega)]; rfl
      have := h45 h
      omega
    · have hk : x.kind = 6 ∨ x.kind = 7 := hk
      obtain ⟨a, b, e, ha, hb, hbk, hea⟩ := inS_pair hf hk
      have e2 : x.kids = [a, b] := by rw [e]; rfl
      have es : sizeL x.kids = a.size + (b.size + 0) := by rw [e2]; simp [sizeL]
      have hba : ∀ k, brkB a.kind k = false := fun k => brk_no (by have := inS_kind ha; omega)
      have hbb : ∀ k, brkB b.kind k = false := fun k => brk_no (by omega)
      have eh : behS x.kind = [] := by unfold behS; rw [if_neg (by omega), if_neg (by omega), if_neg (by omega)]
      have et : behindT x.kind = [] := by unfold K.behindT; rw [if_neg (by omega), if_neg (by omega), if_neg (by omega)]
      have hend : endK x = b.kind := by
        unfold K.endK K.twoB
        rw [e2, decide_eq_true hk]; rfl
      have hendb : endK b = b.kind := by
        unfold K.endK K.twoB
        rw [decide_eq_false (by omega)]; rfl
      have hT : txt x = txt a ++ (betweenT x.kind ++ txt b) := by
        rw [K.txt_eq, if_neg (by omega), if_neg (by omega), if_neg (by omega), if_neg (by omega), if_neg (by omega), e2, K.kidsT_cons, K.kidsT_cons, kidsT, et]
        unfold K.partT
        rw [hba, hbb, if_pos rfl, if_neg (by decide), if_neg (by decide), if_neg (by decide)]
        simp
      have hH : shp x = shp a ++ (betS x.kind ++ shp b) := by
        rw [shp_eq, if_neg (by omega), if_neg (by omega), if_neg (by omega), if_neg (by omega), if_neg (by omega), e2, shpL_cons, shpL_cons, shpL_nil, eh]
        unfold partH
        rw [hba, hbb, if_pos rfl, if_neg (by decide), if_neg (by decide), if_neg (by decide)]
        simp
      rw [hT, hH]
      obtain ⟨cb, tb, ecb, hcb⟩ := head_S _ b (Nat.le_refl _) hb
      rcases hk with hk | hk
      · have eb : betweenT x.kind = [38] := by rw [hk]; rfl
        have es' : betS x.kind = [sg 16] := by rw [hk]; rfl
        rw [eb, es']
        refine LexTo.seq (slex_all N a (by omega) ha o ho _ rfl (fun h => by cases h) ts) fun us hus => LexTo.seq (o1 := o) ?_ fun us2 _ => slex_all N b (by omega) hb o ho rest hr (fun h => by rw [hendb, ← hend]; exact h45 h) _
        have hst : stepS o (ts ++ us) 38 ([] ++ (txt b ++ rest)) = .tok 16 [] 0 0 0 := by
          unfold W.stepS W.inS
          rw [if_pos ho]; rfl
        exact LexTo.tok (o := o) (ts := ts ++ us) (c := 38) (l := []) (by decide) hst rfl
      · have eb : betweenT x.kind = [45] := by rw [hk]; rfl
        have es' : betS x.kind = [sg 17] := by rw [hk]; rfl
        have hea' : endK a = 2 ∨ endK a = 4 := by omega
        rw [eb, es']
        refine LexTo.seq (slex_all N a (by omega) ha o ho _ rfl (fun _ => hea') ts) fun us hus => LexTo.seq (o1 := o) ?_ fun us2 _ => slex_all N b (by omega) hb o ho rest hr (fun h => by rw [hendb, ← hend]; exact h45 h) _
        obtain ⟨sa, sc, esh, hsc⟩ := last_S ha hea'
        rw [esh] at hus
        have hlast := last_of hus ts
        have hst : stepS o (ts ++ us) 45 ([] ++ (txt b ++ rest)) = .tok 17 [] 0 0 0 := by
          unfold W.stepS W.inS
          rw [if_pos ho, hlast, if_neg (by decide), if_neg (by decide), if_neg (by decide), if_neg (by decide), if_pos rfl, if_pos hsc]
        exact LexTo.tok (o := o) (ts := ts ++ us) (c := 45) (l := []) (by decide) hst rfl
/-- Outside of sets. -/
theorem lex_sign {c k : Int} (h : outS c = fun _ => .tok k [] 0 0 0) (hc : ¬ (c = 32 ∨ c = 9)) (hk : k ≠ 13 ∧ k ≠ 14) (ts : List Tk) (rest : List Int) : LexTo 0 ts [c] rest 0 [sg k] := by
  have hst : stepS 0 ts c ([] ++ rest) = .tok k [] 0 0 0 := by
    unfold W.stepS
    rw [if_neg (by omega), h]
  have := LexTo.tok (o := 0) (ts := ts) (c := c) (l := []) (rest := rest) hc hst rfl
  have ho : opn k 0 = 0 := by unfold W.opn; rw [if_neg hk.1, if_neg hk.2]
  rw [ho] at this
  exact this
theorem sign40 (ts : List Tk) (rest : List Int) : LexTo 0 ts [40] rest 0 [sg 6] := lex_sign (by funext t; rfl) (by decide) (by decide) ts rest
theorem sign41 (ts : List Tk) (rest : List Int) : LexTo 0 ts [41] rest 0 [sg 7] := lex_sign (by funext t; rfl) (by decide) (by decide) ts rest
theorem sign124 (ts : List Tk) (rest : List Int) : LexTo 0 ts [124] rest 0 [sg 8] := lex_sign (by funext t; rfl) (by decide) (by decide) ts rest
theorem sign46 (ts : List Tk) (rest : List Int) : LexTo 0 ts [46] rest 0 [sg 12] := lex_sign (by funext t; rfl) (by decide) (by decide) ts rest
theorem sign42 (ts : List Tk) (rest : List Int) : LexTo 0 ts [42] rest 0 [sg 9] := lex_sign (by funext t; rfl) (by decide) (by decide) ts rest
theorem sign43 (ts : List Tk) (rest : List Int) : LexTo 0 ts [43] rest 0 [sg 10] := lex_sign (by funext t; rfl) (by decide) (by decide) ts rest
theorem sign63 (ts : List Tk) (rest : List Int) : LexTo 0 ts [63] rest 0 [sg 11] := lex_sign (by funext t; rfl) (by decide) (by decide) ts rest
theorem sign61 (ts : List Tk) (rest : List Int) : LexTo 0 ts [61] rest 0 [sg 3] := lex_sign (by funext t; rfl) (by decide) (by decide) ts rest
theorem sign215 (ts : List Tk) (rest : List Int) : LexTo 0 ts [215] rest 0 [sg 4] := lex_sign (by funext t; rfl) (by decide) (by decide) ts rest
theorem sign247 (ts : List Tk) (rest : List Int) : LexTo 0 ts [247] rest 0 [sg 5] := lex_sign (by funext t; rfl) (by decide) (by decide) ts rest
theorem sign10 (ts : List Tk) (rest : List Int) : LexTo 0 ts [10] rest 0 [sg 18] := lex_sign (by funext t; rfl) (by decide) (by decide) ts rest
def FLex (x : Nd) : Prop := ∀ rest, nmB (rest.headD (-1)) = false → ∀ ts, LexTo 0 ts (txt x) rest 0 (shp x)
theorem between_head (k : Int) (l : List Int) : nmB ((betweenT k ++ l).headD (-1)) = false := by
  unfold K.betweenT
  split
  · rfl
  · split
    · rfl
    · split <;> rfl
theorem lex_kids {k : Int} (hk : k = 8 ∨ k = 9 ∨ k = 10 ∨ k = 11 ∨ k = 12) {rest : List Int} (hr : nmB (rest.headD (-1)) = false) : ∀ (l : List Nd) (f : Bool) (ts : List Tk), (∀ y ∈ l, FLex y) → LexTo 0 ts (kidsT k f l) rest 0 (shpL k f l)
  | [], f, ts, _ => by rw [kidsT, shpL_nil]; exact LexTo.nil _ _ _
  | y :: t, f, ts, h => by
    have hL := h y (by simp)
    rw [K.kidsT_cons, shpL_cons]
    have hhd : nmB ((kidsT k false t ++ rest).headD (-1)) = false := by
      cases t with
      | nil => rw [kidsT]; exact hr
      | cons z u => rw [K.kidsT_cons, if_neg (by decide), List.append_assoc, List.append_assoc]; exact between_head k _
    refine LexTo.seq (o1 := 0) (LexTo.seq (o1 := 0) ?_ fun us _ => ?_) fun us _ => lex_kids hk hr t false _ (fun z hz => h z (by simp [hz]))
    · cases f with
      | true => exact LexTo.nil _ _ _
      | false =>
        rw [if_neg (by decide), if_neg (by decide)]
        unfold K.betweenT betS
        by_cases h9 : k = 9
        · rw [if_pos h9, if_pos h9]
          exact LexTo.seq (l1 := [32]) (l2 := [124, 32]) (s1 := []) (s2 := [sg 8]) (LexTo.blank _ _ _) fun _ _ => LexTo.seq (l1 := [124]) (l2 := [32]) (s1 := [sg 8]) (s2 := []) (sign124 _ _) fun _ _ => LexTo.blank _ _ _
        · rw [if_neg h9, if_neg h9, if_neg (by omega), if_neg (by omega), if_neg (by omega), if_neg (by omega)]
          exact LexTo.blank _ _ _
    · unfold K.partT partH
      cases hb : brkB y.kind k with
      | true =>
        rw [if_pos rfl, if_pos rfl]
        have : sg 6 :: (shp y ++ [sg 7]) = ([sg 6] ++ shp y) ++ [sg 7] := rfl
        rw [this]
        exact LexTo.seq (LexTo.seq (sign40 _ _) fun _ _ => hL _ rfl _) fun _ _ => sign41 _ _
      | false =>
        rw [if_neg (by decide), if_neg (by decide)]
        exact hL _ hhd _
theorem flex_all : ∀ (N : Nat) (x : Nd), x.size ≤ N → K.inF x = true → FLex x
  | 0, x, h, _ => by have := x.size_pos; omega
  | N + 1, x, h, hf => by
    have hs := K.size_eq x
    intro rest hr ts
    rw [K.txt_eq, shp_eq]
    rcases inF_kind hf with hk | hk | hk | hk | hk
    · rw [if_pos hk, if_pos hk]
      exact LexTo.seq (l1 := [40]) (l2 := [41]) (s1 := [sg 6]) (s2 := [sg 7]) (sign40 _ _) fun _ _ => sign41 _ _
    · rw [if_neg (by omega), if_neg (by omega), if_pos hk, if_neg (by omega), if_neg (by omega), if_pos hk]
      exact lex_name (nos_name (inF_nos hf (.inl hk)) hk).2 hr
    · rw [if_neg (by omega), if_pos hk, if_neg (by omega), if_pos hk]
      exact sign46 _ _
    · have := lex_set (inF_nos hf (.inr hk)) hk (fun y hy => ⟨(inS_set (inF_nos hf (.inr hk)) hk).2.2 y hy, slex_all _ y (Nat.le_refl _) ((inS_set (inF_nos hf (.inr hk)) hk).2.2 y hy)⟩) 0 ts rest
      rwa [K.txt_eq, shp_eq] at this
    · have hk : x.kind = 8 ∨ x.kind = 9 ∨ x.kind = 10 ∨ x.kind = 11 ∨ x.kind = 12 := hk
      rw [if_neg (by omega), if_neg (by omega), if_neg (by omega), if_neg (by omega), if_neg (by omega), if_neg (by omega), if_neg (by omega), if_neg (by omega), if_neg (by omega), if_neg (by omega)]
      have hkF : ∀ y ∈ x.kids, K.inF y = true := by
        by_cases h89 : x.kind = 8 ∨ x.kind = 9
        · exact (inF_many hf h89).2.2
        · obtain ⟨y, e, hy⟩ := inF_one hf (by omega)
          have e2 : x.kids = [y] := by rw [e]; rfl
          intro z hz
          rw [e2] at hz
          simp at hz
          rw [hz]; exact hy
      have hbr : nmB ((behindT x.kind ++ rest).headD (-1)) = false := by
        unfold K.behindT
        split
        · rfl
        · split
          · rfl
          · split
            · rfl
            · exact hr
      refine LexTo.seq (lex_kids hk hbr x.kids true ts fun y hy => flex_all N y (by have := K.size_in hy; omega) (hkF y hy)) fun us _ => ?_
      unfold K.behindT behS
      split
      · exact sign42 _ _
      · split
        · exact sign43 _ _
        · split
          · exact sign63 _ _
          · exact LexTo.nil _ _ _
/-- A form that is written out has the form's tokens. -/
theorem lex_form {x : Nd} (hx : K.inF x = true) {rest : List Int} (hr : nmB (rest.headD (-1)) = false) (ts : List Tk) : LexTo 0 ts (txt x) rest 0 (shp x) := flex_all _ x (Nat.le_refl _) hx rest hr ts
end U
end Go.Proofs.YtmohefgdpddldaaGreatDoor
namespace Go.Proofs.YtmohefgdpddldaaGreatDoor
namespace U
open Y (Nd It noName zeroN)
open K (numsOf decT fracL numT allowT)
open W (Tk lexS stepS outS noteS numB partN valN many dgB noLf noBl allowB lettersB smB nmB allowP)

/-- The digits of a number below 1000. -/
def decL (u : Nat) : List Int := if u < 10 then [48 + (u : Int)] else if u < 100 then [48 + ((u / 10 : Nat) : Int), 48 + ((u % 10 : Nat) : Int)] else [48 + ((u / 100 : Nat) : Int), 48 + ((u / 10 % 10 : Nat) : Int), 48 + ((u % 10 : Nat) : Int)]
theorem dig_nat {u : Nat} (h : u < 10) : ((UInt8.ofNat (48 + u)).toNat : Int) = 48 + (u : Int) := by
  rw [UInt8.toNat_ofNat']
  omega
theorem dec_eq {u : Nat} (h : u < 1000) : (Lib.decDigits u).map (fun b => (b.toNat : Int)) = decL u := by
  unfold decL
  split
  · rename_i h1
    rw [Lib.decDigits, dif_pos h1, List.map_singleton, dig_nat h1]
  · rename_i h1
    split
    · rename_i h2
      rw [Lib.decDigits, dif_neg h1, Lib.decDigits, dif_pos (by omega)]
      simp only [List.singleton_append, List.map_cons, List.map_nil, dig_nat (show u / 10 < 10 by omega), dig_nat (show u % 10 < 10 by omega)]
    · rename_i h2
      rw [Lib.decDigits, dif_neg h1, Lib.decDigits, dif_neg (by omega), Lib.decDigits, dif_pos (by omega)]
      simp only [List.nil_append, List.singleton_append, List.cons_append, List.map_cons, List.map_nil, dig_nat (show u / 10 / 10 < 10 by omega), dig_nat (show u / 10 % 10 < 10 by omega), dig_nat (show u % 10 < 10 by omega)]
      rw [Nat.div_div_eq_div_mul]
      try rfl
theorem decT_eq {n : Int} (h0 : 0 ≤ n) (h1 : n < 1000) : decT n = decL n.toNat := by
  unfold K.decT Lib.itoa
  rw [if_neg (by omega)]
  exact dec_eq (by omega)
def chkD (a : Nat) : Bool := (decL a).all dgB && decide (1 ≤ (decL a).length) && decide ((decL a).length ≤ 3) && (decide ((decL a).length = 1) || decide ((decL a)[0]? ≠ some 48)) && decide (valN (decL a) (decL a).length 0 = (a : Int))
theorem chkD_all : (List.range 1000).all chkD = true := by kernel_rfl
theorem decL_ok {a : Nat} (h : a < 1000) : (decL a).all dgB = true ∧ 1 ≤ (decL a).length ∧ (decL a).length ≤ 3 ∧ ((decL a).length = 1 ∨ (decL a)[0]? ≠ some 48) ∧ valN (decL a) (decL a).length 0 = (a : Int) := by
  have := List.all_eq_true.1 chkD_all a (List.mem_range.2 h)
  unfold chkD at this
  simp only [Bool.and_eq_true, Bool.or_eq_true, decide_eq_true_eq] at this
  exact ⟨this.1.1.1.1, this.1.1.1.2, this.1.1.2, this.1.2, this.2⟩
/-- The digits behind the point, without noughts at the end. -/
def fr8 (f : Nat) : List UInt8 := Lib.trimRightB [UInt8.ofNat (48 + f / 100), UInt8.ofNat (48 + f / 10 % 10), UInt8.ofNat (48 + f % 10)] 48
def frL (f : Nat) : List Int := (fr8 f).map fun b => (b.toNat : Int)
theorem frac_eq {n : Int} (h0 : 0 ≤ n) : fracL n = fr8 (n % 1000).toNat := by
  unfold K.fracL fr8 Lib.itoa
  have hr0 : 0 ≤ n % 1000 := by omega
  have hr1 : n % 1000 < 1000 := by omega
  obtain ⟨f, hf⟩ : ∃ f : Nat, n % 1000 = (f : Int) := ⟨(n % 1000).toNat, by omega⟩
  have hf1 : f < 1000 := by omega
  rw [hf, if_neg (by omega), show (1000 + (f : Int)).toNat = 1000 + f by omega, show (f : Int).toNat = f by omega]
  have e : (Lib.decDigits (1000 + f)).drop 1 = [UInt8.ofNat (48 + f / 100), UInt8.ofNat (48 + f / 10 % 10), UInt8.ofNat (48 + f % 10)] := by
    rw [Lib.decDigits, dif_neg (by omega), Lib.decDigits, dif_neg (by omega), Lib.decDigits, dif_neg (by omega), Lib.decDigits, dif_pos (by omega)]
    simp only [List.nil_append, List.singleton_append, List.cons_append, List.drop_succ_cons, List.drop_zero]
    rw [show (1000 + f) / 10 / 10 % 10 = f / 100 by omega, show (1000 + f) / 10 % 10 = f / 10 % 10 by omega, show (1000 + f) % 10 = f % 10 by omega]
    try rfl
  rw [e]
def chkF (f : Nat) : Bool := (frL f).all dgB && decide ((frL f).length ≤ 3) && decide (valN (frL f) 3 0 = (f : Int))
theorem chkF_all : (List.range 1000).all chkF = true := by kernel_rfl
theorem frL_ok {f : Nat} (h : f < 1000) : (frL f).all dgB = true ∧ (frL f).length ≤ 3 ∧ valN (frL f) 3 0 = (f : Int) := by
  have := List.all_eq_true.1 chkF_all f (List.mem_range.2 h)
  unfold chkF at this
  simp only [Bool.and_eq_true, decide_eq_true_eq] at this
  exact ⟨this.1.1, this.1.2, this.2⟩
def pntL (f : List Int) : List Int := if f = [] then [] else 46 :: f
theorem numT_eq {n : Int} (h0 : 0 ≤ n) (h1 : n ≤ 999999) : numT n = decL (n / 1000).toNat ++ pntL (frL (n % 1000).toNat) := by
  unfold K.numT pntL
  rw [decT_eq (by omega) (by omega), frac_eq h0]
  unfold frL
  cases h : fr8 (n % 1000).toNat with
  | nil => rfl
  | cons a t => rfl
theorem many_app {p : Int → Bool} {l rest : List Int} (h : l.all p = true) (hr : p (rest.headD (-1)) = false) (hm : p (-1) = false) : many p (l ++ rest) = l.length := by
  unfold W.many
  rw [List.takeWhile_append_of_pos (fun x hx => List.all_eq_true.1 h x hx)]
  cases rest with
  | nil => simp
  | cons c t => rw [List.takeWhile_cons_of_neg (by rw [show p c = false from hr]; decide), List.append_nil]
theorem num_of {d fr rest : List Int} (hd : d.all dgB = true) (h1 : 1 ≤ d.length) (h3 : d.length ≤ 3) (h48 : d.length = 1 ∨ d[0]? ≠ some 48) (hf : fr.all dgB = true) (hf3 : fr.length ≤ 3) (hr : dgB (rest.headD (-1)) = false) (h46 : rest.headD (-1) ≠ 46) :
    numB (d ++ pntL fr ++ rest) = (valN d d.length 0 * 1000 + valN fr 3 0, (d ++ pntL fr).length, 0) := by
  have hX : dgB ((pntL fr ++ rest).headD (-1)) = false := by
    unfold pntL
    split
    · exact hr
    · rfl
  have hm : many dgB (d ++ pntL fr ++ rest) = d.length := by rw [List.append_assoc]; exact many_app hd hX rfl
  have hat : (d ++ pntL fr ++ rest)[d.length]? = (pntL fr ++ rest)[0]? := by rw [List.append_assoc, List.getElem?_append_right (Nat.le_refl _), Nat.sub_self]
  have hdrop : (d ++ pntL fr ++ rest).drop (d.length + 1) = (pntL fr ++ rest).drop 1 := by rw [List.append_assoc, ← List.drop_drop, List.drop_left]
  have hp : partN (d ++ pntL fr ++ rest) = fr.length := by
    unfold W.partN
    rw [hm, hat, hdrop]
    unfold pntL
    by_cases he : fr = []
    · rw [if_pos he, he, List.nil_append]
      rw [if_neg]
      · rfl
      · cases rest with
        | nil => simp
        | cons c t => simpa using h46
    · rw [if_neg he, if_pos (by rfl)]
      show many dgB (fr ++ rest) = _
      exact many_app hf hr rfl
  have h0 : (d ++ pntL fr ++ rest)[0]? = d[0]? := by rw [List.append_assoc, List.getElem?_append_left (by omega)]
  have htk : (d ++ pntL fr ++ rest).take d.length = d := by rw [List.append_assoc, List.take_left]
  have htk2 : ((d ++ pntL fr ++ rest).drop (d.length + 1)).take fr.length = fr := by
    rw [hdrop]
    unfold pntL
    by_cases he : fr = []
    · rw [he]; rfl
    · rw [if_neg he]
      show (fr ++ rest).take fr.length = fr
      rw [List.take_left]
  unfold W.numB
  rw [hm, hp, h0, htk, htk2, if_neg (by rintro (h | ⟨h, h'⟩); · omega
                                        · rcases h48 with h48 | h48
                                          · omega
                                          · exact h48 h'), if_neg (by omega)]
  congr 2
  rw [List.length_append]
  unfold pntL
  by_cases he : fr = []
  · rw [if_pos he, he]; rfl
  · have : 0 < fr.length := List.length_pos_iff.2 he
    rw [if_pos this, if_neg he, List.length_cons]; omega
theorem num_back {n : Int} (h0 : 0 ≤ n) (h1 : n ≤ 999999) {rest : List Int} (hr : dgB (rest.headD (-1)) = false) (h46 : rest.headD (-1) ≠ 46) : numB (numT n ++ rest) = (n, (numT n).length, 0) := by
  obtain ⟨a1, a2, a3, a4, a5⟩ := decL_ok (a := (n / 1000).toNat) (by omega)
  obtain ⟨b1, b2, b3⟩ := frL_ok (f := (n % 1000).toNat) (by omega)
  rw [numT_eq h0 h1, num_of a1 a2 a3 a4 b1 b2 hr h46, a5, b3]
  congr 1
  omega
/-- With what a number begins. -/
theorem num_head {n : Int} (h0 : 0 ≤ n) (h1 : n ≤ 999999) : ∃ c t, numT n = c :: t ∧ dgB c = true := by
  obtain ⟨a1, a2, _⟩ := decL_ok (a := (n / 1000).toNat) (by omega)
  rw [numT_eq h0 h1]
  cases hd : decL (n / 1000).toNat with
  | nil => rw [hd] at a2; simp at a2
  | cons c t =>
    rw [hd, List.all_cons, Bool.and_eq_true] at a1
    exact ⟨c, _, rfl, a1.1⟩
theorem num_low {n : Int} (h0 : 0 ≤ n) (h1 : n ≤ 999999) : ∀ x ∈ numT n, 46 ≤ x ∧ x ≤ 57 := by
  obtain ⟨a1, _⟩ := decL_ok (a := (n / 1000).toNat) (by omega)
  obtain ⟨b1, _⟩ := frL_ok (f := (n % 1000).toNat) (by omega)
  have hdg : ∀ x, dgB x = true → 46 ≤ x ∧ x ≤ 57 := fun x h => by unfold W.dgB at h; rw [decide_eq_true_eq] at h; omega
  rw [numT_eq h0 h1]
  intro x hx
  rcases List.mem_append.1 hx with hx | hx
  · exact hdg x (List.all_eq_true.1 a1 x hx)
  · unfold pntL at hx
    split at hx
    · cases hx
    · rcases List.mem_cons.1 hx with rfl | hx
      · omega
      · exact hdg x (List.all_eq_true.1 b1 x hx)
theorem lex_number {n : Int} (h0 : 0 ≤ n) (h1 : n ≤ 999999) {rest : List Int} (hr : dgB (rest.headD (-1)) = false) (h46 : rest.headD (-1) ≠ 46) (ts : List Tk) : LexTo 0 ts (numT n) rest 0 [(2, [], n, 0)] := by
  obtain ⟨c, t, e, hc⟩ := num_head h0 h1
  have hnb := num_back h0 h1 hr h46
  have hcc := hc
  unfold W.dgB at hcc
  rw [decide_eq_true_eq] at hcc
  rw [e] at hnb ⊢
  have hst : stepS 0 ts c (t ++ rest) = .tok 2 [] n 0 ((c :: t).length - 1) := by
    unfold W.stepS W.outS
    rw [if_neg (by omega), if_neg (by omega), if_pos hc]
    unfold W.numT
    rw [← List.cons_append, hnb, if_pos rfl]
  exact LexTo.tok (o := 0) (ts := ts) (c := c) (l := t) (rest := rest) (by omega) hst (by simp)
/-- What is allowed. -/
def nlT (n : Int) : List Int := if n = -1 then [] else 32 :: numT n
theorem letters_all {l : List Int} (h : lettersB l = true) : l.all smB = true ∧ 1 ≤ l.length := by
  unfold W.lettersB at h
  simp only [Bool.and_eq_true, decide_eq_true_eq] at h
  exact ⟨h.1.1, h.1.2⟩
theorem allow_back {l : List Int} (h : lettersB l = true) {n : Int} (hn : n = -1 ∨ 0 ≤ n ∧ n ≤ 999999) : allowB (l ++ nlT n) = some (l, n) := by
  have hall : l.all noBl = true := List.all_eq_true.2 fun x hx => by
    have := List.all_eq_true.1 (letters_all h).1 x hx
    unfold W.smB at this
    unfold W.noBl
    rw [decide_eq_true_eq] at this ⊢
    omega
  by_cases h1 : n = -1
  · subst h1
    have e0 : l ++ nlT (-1) = l := by unfold nlT; rw [if_pos rfl, List.append_nil]
    have htw : l.takeWhile noBl = l := by
      have := List.takeWhile_append_of_pos (l₁ := l) (l₂ := []) (fun x hx => List.all_eq_true.1 hall x hx)
      simpa using this
    unfold W.allowB W.many
    rw [e0, htw, if_pos h, if_pos rfl]
  · have hb : 0 ≤ n ∧ n ≤ 999999 := by omega
    have e0 : nlT n = 32 :: numT n := by unfold nlT; rw [if_neg h1]
    have htw : (l ++ 32 :: numT n).takeWhile noBl = l := by
      rw [List.takeWhile_append_of_pos (fun x hx => List.all_eq_true.1 hall x hx), List.takeWhile_cons_of_neg (by decide), List.append_nil]
    have hmany : many noBl (l ++ 32 :: numT n) = l.length := by unfold W.many; rw [htw]
    have hdr : (l ++ 32 :: numT n).drop (l.length + 1) = numT n := by rw [← List.drop_drop, List.drop_left]; rfl
    have hnb := num_back hb.1 hb.2 (rest := []) rfl (by decide)
    rw [List.append_nil] at hnb
    unfold W.allowB
    rw [e0, htw, hmany, hdr, hnb, if_pos h, if_neg (by simp), if_pos ⟨rfl, rfl⟩]
theorem lex_allow {l : List Int} (h : lettersB l = true) {n : Int} (hn : n = -1 ∨ 0 ≤ n ∧ n ≤ 999999) {rest : List Int} (hr : rest = [] ∨ ∃ t, rest = 10 :: t) (ts : List Tk) : LexTo 0 ts (allowT ++ l ++ nlT n) rest 0 [(19, l, n, 0)] := by
  have hnl : ∀ x ∈ l ++ nlT n, noLf x = true := fun x hx => by
    unfold W.noLf
    rw [decide_eq_true_eq]
    rcases List.mem_append.1 hx with hx | hx
    · have := List.all_eq_true.1 (letters_all h).1 x hx
      unfold W.smB at this
      rw [decide_eq_true_eq] at this
      omega
    · unfold nlT at hx
      split at hx
      · cases hx
      · rcases List.mem_cons.1 hx with rfl | hx
        · decide
        · have := num_low (n := n) (by omega) (by omega) x hx; omega
  have e : allowT ++ l ++ nlT n = 35 :: ([97, 108, 108, 111, 119, 32] ++ (l ++ nlT n)) := by unfold K.allowT; simp
  have htw : (allowT ++ l ++ nlT n ++ rest).takeWhile noLf = allowT ++ (l ++ nlT n) := by
    rw [List.append_assoc allowT, List.append_assoc allowT, List.takeWhile_append_of_pos (fun x hx => ?_)]
    · rw [List.takeWhile_append_of_pos hnl]
      rcases hr with rfl | ⟨t, rfl⟩
      · simp
      · rw [List.takeWhile_cons_of_neg (by decide), List.append_nil]
    · unfold K.allowT at hx
      unfold W.noLf
      rw [decide_eq_true_eq]
      simp at hx
      omega
  have hst : stepS 0 ts 35 (([97, 108, 108, 111, 119, 32] ++ (l ++ nlT n)) ++ rest) = .tok 19 l n 0 ((allowT ++ (l ++ nlT n)).length - 1) := by
    have h1 : stepS 0 ts 35 (([97, 108, 108, 111, 119, 32] ++ (l ++ nlT n)) ++ rest) = noteS (allowT ++ l ++ nlT n ++ rest) := by
      rw [e]; rfl
    rw [h1]
    unfold W.noteS W.many
    rw [htw, if_pos (by rfl)]
    have : (allowT ++ (l ++ nlT n)).drop 7 = l ++ nlT n := rfl
    rw [this, allow_back h hn]
  rw [e]
  exact LexTo.tok (o := 0) (ts := ts) (c := 35) (l := [97, 108, 108, 111, 119, 32] ++ (l ++ nlT n)) (rest := rest) (by decide) hst (by unfold K.allowT; simp)
end U
end Go.Proofs.YtmohefgdpddldaaGreatDoor
namespace Go.Proofs.YtmohefgdpddldaaGreatDoor
open Go.RowKit
open Y (Nd It Ps nextP takeP failP noTok noName)

section
variable {b : Nat} {w : World} {e : Int} {o : Nat} {s : Ps} {A : Option Addr} {n c : Nat}
end
end Go.Proofs.YtmohefgdpddldaaGreatDoor
namespace Go.Proofs.YtmohefgdpddldaaGreatDoor
open Go.RowKit
open Y (Nd It Ps nextP takeP failP noTok noName)

def Tok.v (t : Tok) : Value := .agg #[.int .i64 t.kind, .string (strOfNums t.text), .int .i64 t.low, .int .i64 t.high, .int .i64 t.pos]
/-- Five cells are stored. -/
def set5 (w : World) (N : Nat) (a0 a1 a2 a3 a4 : Value) : World := ((((w.setCell ⟨N, 0, none⟩ a0).setCell ⟨N, 1, none⟩ a1).setCell ⟨N, 2, none⟩ a2).setCell ⟨N, 3, none⟩ a3).setCell ⟨N, 4, none⟩ a4
theorem set5_row {w : World} {N : Nat} {x0 x1 x2 x3 x4 : Value} {t : TypeId} (h : w.heap[N]? = some (.cells #[x0, x1, x2, x3, x4] t (0, 0))) (a0 a1 a2 a3 a4 : Value) : (set5 w N a0 a1 a2 a3 a4).heap[N]? = some (.cells #[a0, a1, a2, a3, a4] t (0, 0)) :=
  heap_setCell_same _ _ _ _ _ _ (heap_setCell_same _ _ _ _ _ _ (heap_setCell_same _ _ _ _ _ _ (heap_setCell_same _ _ _ _ _ _ (heap_setCell_same _ _ _ _ _ _ h))))
theorem set5_size (w : World) (N : Nat) (a0 a1 a2 a3 a4 : Value) : (set5 w N a0 a1 a2 a3 a4).heap.size = w.heap.size := by simp [set5]
theorem set5_block (w : World) (N : Nat) (a0 a1 a2 a3 a4 : Value) {i : Nat} (hi : i ≠ N) : (set5 w N a0 a1 a2 a3 a4).heap[i]? = w.heap[i]? :=
  (Below.heap_setCell _ _ _ _ hi).trans ((Below.heap_setCell _ _ _ _ hi).trans ((Below.heap_setCell _ _ _ _ hi).trans ((Below.heap_setCell _ _ _ _ hi).trans (Below.heap_setCell _ _ _ _ hi))))
theorem Fe.set5 {b : Nat} {a c : World} (h : Fe b a c) {g : Nat} (hg : g = b ∨ a.heap.size ≤ g) (a0 a1 a2 a3 a4 : Value) : Fe b a (set5 c g a0 a1 a2 a3 a4) :=
  ((((h.set hg _ _).set hg _ _).set hg _ _).set hg _ _).set hg _ _
theorem cells5 {w : World} {N : Nat} {x0 x1 x2 x3 x4 : Value} {t : TypeId} (h : w.heap[N]? = some (.cells #[x0, x1, x2, x3, x4] t (0, 0))) :
    w.cell? ⟨N, 0, none⟩ = some x0 ∧ w.cell? ⟨N, 1, none⟩ = some x1 ∧ w.cell? ⟨N, 2, none⟩ = some x2 ∧ w.cell? ⟨N, 3, none⟩ = some x3 ∧ w.cell? ⟨N, 4, none⟩ = some x4 := by
  refine ⟨?_, ?_, ?_, ?_, ?_⟩ <;> (rw [cell_of_row _ _ _ _ _ _ h]; rfl)
theorem take_yes {e : Int} {ks : List Int} {t : Tok} {u : List Tok} (h : ks.contains t.kind = true) : takeP e ks (.live (t :: u)) = (t, .live u) := by rw [Y.take_cons, if_pos h]
theorem take_no {e : Int} {ks : List Int} {s : Ps} (h : nextP ks s = false) : takeP e ks s = (noTok, failP e 4 s) := by
  rcases s with (_ | ⟨t, u⟩) | ⟨a, y⟩
  · rfl
  · rw [Y.take_cons]; rw [Y.next_cons] at h; rw [if_neg (by rw [h]; decide)]; rfl
  · rfl
section
variable {b : Nat} {w : World} {e : Int} {o : Nat} {s : Ps} {A : Option Addr} {n c : Nat}
end
end Go.Proofs.YtmohefgdpddldaaGreatDoor
namespace Go.Proofs.YtmohefgdpddldaaGreatDoor
open Go.RowKit
open Y (Nd It Ps nextP takeP failP noTok noName)

/-- A value's five cells. -/
theorem IsN.parts {w : World} {S : Nat → Prop} {v : Value} {x : Nd} (h : IsN w S v x) : ∃ A n c, v = .agg #[.int .i64 x.kind, .string x.name, .int .i64 x.low, .int .i64 x.high, .slice A n c] ∧ RdN w S A n c x.kids := h
end Go.Proofs.YtmohefgdpddldaaGreatDoor
namespace Go.Proofs.YtmohefgdpddldaaGreatDoor
open Go.RowKit
open Y (Nd It Ps nextP takeP failP noTok noName formP orsP joinP piecesP pieceP bareP setP partsP partP heldP memberP)

section
variable {b N : Nat} {t : TypeId} {w w' : World} {e : Int} {o : Nat} {s : Ps}
/-- A block that is new holds these cells. -/
def Box5 (w : World) (N : Nat) (t : TypeId) : Prop := ∃ x0 x1 x2 x3 x4 : Value, w.heap[N]? = some (.cells #[x0, x1, x2, x3, x4] t (0, 0))
theorem Box5.fe (h : Box5 w N t) (hf : Fe b w w') (hN : N ≠ b) (hs : N < w.heap.size) : Box5 w' N t := by
  obtain ⟨x0, x1, x2, x3, x4, h⟩ := h
  exact ⟨x0, x1, x2, x3, x4, (hf.block N hs hN).trans h⟩
theorem Box5.facts (h : Box5 w N t) : (∃ x0 x1 x2 x3 x4, w.cell? ⟨N, 0, none⟩ = some x0 ∧ w.cell? ⟨N, 1, none⟩ = some x1 ∧ w.cell? ⟨N, 2, none⟩ = some x2 ∧ w.cell? ⟨N, 3, none⟩ = some x3 ∧ w.cell? ⟨N, 4, none⟩ = some x4) ∧ ∀ j, w.frozen? ⟨N, j, none⟩ = false := by
  obtain ⟨x0, x1, x2, x3, x4, h⟩ := h
  exact ⟨⟨x0, x1, x2, x3, x4, cells5 h⟩, fun j => frozen_of_row _ _ _ _ _ h⟩
theorem Box5.set (h : Box5 w N t) (a0 a1 a2 a3 a4 : Value) : (set5 w N a0 a1 a2 a3 a4).heap[N]? = some (.cells #[a0, a1, a2, a3, a4] t (0, 0)) := by
  obtain ⟨x0, x1, x2, x3, x4, h⟩ := h
  exact set5_row h _ _ _ _ _
end
end Go.Proofs.YtmohefgdpddldaaGreatDoor
namespace Go.Proofs.YtmohefgdpddldaaGreatDoor
open Go.RowKit
open Y (Nd It Ps nextP takeP failP noTok noName formP orsP joinP piecesP pieceP bareP setP partsP partP heldP memberP)

/-- The world in which a function begins that hands back a form. -/
def begN (w : World) : World := w.alloc (.cells #[.int .i64 0, .string { data := #[] }, .int .i64 0, .int .i64 0, .slice none 0 0] 24)
theorem begN_box (w : World) : Box5 (begN w) w.heap.size 24 := ⟨_, _, _, _, _, heap_alloc_new w _⟩
theorem begN_below (w : World) : Below w.heap.size w (begN w) := kbelow_push w _
theorem begN_size (w : World) : (begN w).heap.size = w.heap.size + 1 := by simp [begN]
end Go.Proofs.YtmohefgdpddldaaGreatDoor
namespace Go.Proofs.YtmohefgdpddldaaGreatDoor
open Go.RowKit
open Y (Nd It Ps nextP takeP failP noTok noName formP orsP joinP piecesP pieceP bareP setP partsP partP heldP memberP)

theorem Fe.grown {b : Nat} {a c d : World} {row : Option Nat} (h : Fe b a c) (hg : c.grownBy d row) (hr : ∀ i, row = some i → a.heap.size ≤ i) : Fe b a d :=
  ⟨hg.os.trans h.os, hg.tape.trans h.tape, hg.output.trans h.output, Nat.le_trans h.size hg.size, fun i hi hn => (hg.block i (Nat.lt_of_lt_of_le hi h.size) (fun e => by have := hr i e.symm; omega)).trans (h.block i hi hn)⟩
theorem app_n {w : World} {ops : Array Oper} {rest : List Oper} {o : Oper} {a : Act} {Q : Exit → Act → World → Prop} (hgd : o.guard = none) (s x : Operand) 
    (ho : o.op = .call { callee := .builtin .append, args := #[s, x], argTypes := #[22, 22] })
    (base : Nat) (v : Value) (l : List Nd) (hs : a.eval s = v) (hown : OwnN w base v l) (N : Nat) (y : Nd) (x0 x1 x2 x3 x4 : Value)
    (hx : a.eval x = .slice (some ⟨N, 0, none⟩) 1 1) (hrow : w.heap[N]? = some (.cells #[x0, x1, x2, x3, x4] 24 (0, 0))) (hy : NdAt w (fun b => base ≤ b ∧ b < w.heap.size ∧ v.ownBlock ≠ some b) [x0, x1, x2, x3, x4] y)
    (h63 : l.length ≤ 1000000) (hbase : base ≤ w.heap.size)
    (h : ∀ v' w', OwnN w' base v' (l ++ [y]) → w.grownBy w' v.ownBlock → wpList Tryz.prog ops Q rest (a.put o.dst v') w') : wpList Tryz.prog ops Q (o :: rest) a w := by
  obtain ⟨i0, hi0, hz0, hz1, hz2⟩ := info_k info_nd
  obtain ⟨cs, hc, hk⟩ := hown
  have h1 : ∀ u ∈ [x0, x1, x2, x3, x4], u.oneCell' = true := by
    obtain ⟨A, n, c, e, _⟩ := hy.inv
    rw [e]
    intro u hu
    simp only [List.mem_cons, List.not_mem_nil, or_false] at hu
    rcases hu with rfl | rfl | rfl | rfl | rfl <;> rfl
  refine wpList_append_own_at w hgd s x 22 ho base 24 i0 _ 5 64 Tryz.underlying22 hi0 hz0 hz1 hz2 rfl (by decide) v l.length cs hs hc ⟨N, 0, none⟩ 1 1 [x0, x1, x2, x3, x4] hx rfl ?_ h1 (by unfold maxLen; omega) (by omega) hbase ?_
  · intro j u hu
    rw [kadd_none, cell_of_row _ _ _ _ _ _ hrow, Nat.zero_add]
    simpa using hu
  · intro v' w' h2 h3 _ h4
    exact h v' w' (OwnN.push hk hc.1 hy rfl h2 h3 h4) h3
/-- A form is written out as a list of one. -/
def litN (w : World) (x0 x1 x2 x3 x4 : Value) : World := w.alloc (.cells #[x0, x1, x2, x3, x4] 24)
theorem litN_below (w : World) (x0 x1 x2 x3 x4 : Value) : Below w.heap.size w (litN w x0 x1 x2 x3 x4) := kbelow_push w _
theorem litN_size (w : World) (x0 x1 x2 x3 x4 : Value) : (litN w x0 x1 x2 x3 x4).heap.size = w.heap.size + 1 := by simp [litN]
theorem litN_row (w : World) (x0 x1 x2 x3 x4 : Value) (N : Nat) (hN : N = w.heap.size) : (litN w x0 x1 x2 x3 x4).heap[N]? = some (.cells #[x0, x1, x2, x3, x4] 24 (0, 0)) := by subst hN; exact heap_alloc_new w _
section
variable {α : Type} {b : Nat} {w wr W2 w3 w5 : World} {e : Int} {o L m K m' : Nat} {f : Nat → Nat → List Nd → Ps → α × Ps} {r : α × Ps} {v v5 : Value} {l : List Nd} {s : Ps} {k : Nd × Ps} {A : Option Addr} {n c : Nat}
end
end Go.Proofs.YtmohefgdpddldaaGreatDoor
namespace Go.Proofs.YtmohefgdpddldaaGreatDoor
open Go.RowKit
open Y (Nd It Ps nextP takeP failP noTok noName formP orsP joinP piecesP pieceP bareP setP partsP partP heldP memberP)

end Go.Proofs.YtmohefgdpddldaaGreatDoor
namespace Go.Proofs.YtmohefgdpddldaaGreatDoor
open Go.RowKit
open Y (Nd It Ps nextP takeP failP noTok noName formP orsP joinP piecesP pieceP bareP setP partsP partP heldP memberP)

/-- A list of one that is written out is a row of one's own. -/
theorem OwnN.lit {w : World} {B : Nat} {x : Nd} {x0 x1 x2 x3 x4 : Value} (hB : B ≤ w.heap.size) (hx : NdAt w (In B w.heap.size) [x0, x1, x2, x3, x4] x) : OwnN (litN w x0 x1 x2 x3 x4) B (.slice (some ⟨w.heap.size, 0, none⟩) 1 1) [x] := by
  refine ⟨[x0, x1, x2, x3, x4], World.ownsRow_lit w #[x0, x1, x2, x3, x4] 1 hB (by unfold maxLen; omega) rfl, fun i y hy => ?_⟩
  have hi : i = 0 := by
    have := (List.getElem?_eq_some_iff.1 hy).1; simp at this; omega
  subst hi
  simp at hy
  subst hy
  refine hx.keep (fun i hi => ⟨hi.1, by rw [litN_size]; have := hi.2; omega, fun e => ?_⟩) fun p hp => (litN_below w x0 x1 x2 x3 x4).cell hp.2
  have h2 : i < w.heap.size := hi.2
  have h3 : w.heap.size = i := Option.some.inj e
  omega
theorem nd_eta (x : Nd) : Nd.mk x.kind x.name x.low x.high x.kids = x := by cases x; rfl
end Go.Proofs.YtmohefgdpddldaaGreatDoor
namespace Go.Proofs.YtmohefgdpddldaaGreatDoor
open Go.RowKit
open Y (Nd It Ps nextP takeP failP noTok noName deepP formP orsP joinP piecesP pieceP bareP setP partsP partP heldP memberP)


end Go.Proofs.YtmohefgdpddldaaGreatDoor
namespace Go.Proofs.YtmohefgdpddldaaGreatDoor
open Go.RowKit
open Y (Nd It Ps nextP takeP failP noTok noName deepP formP orsP joinP piecesP pieceP bareP setP partsP partP heldP memberP)

section
variable {b : Nat} {w w10 : World} {e : Int} {o : Nat} {s2 : Ps} {A : Option Addr} {n c : Nat} {x : Nd} {t : Tok} {tx : ByteArray}
end

end Go.Proofs.YtmohefgdpddldaaGreatDoor
namespace Go.Proofs.YtmohefgdpddldaaGreatDoor
open Go.RowKit
open Y (Nd It Ps nextP takeP failP noTok noName deepP formP orsP joinP piecesP pieceP bareP setP partsP partP heldP memberP)

end Go.Proofs.YtmohefgdpddldaaGreatDoor
namespace Go.Proofs.YtmohefgdpddldaaGreatDoor
open Go.RowKit
open Y (Nd It Ps nextP takeP failP noTok noName deepP formP orsP joinP piecesP pieceP bareP setP partsP partP heldP memberP)

end Go.Proofs.YtmohefgdpddldaaGreatDoor
namespace Go.Proofs.YtmohefgdpddldaaGreatDoor
open Go.RowKit
open Y (Nd It Ps nextP takeP failP noTok noName deepP formP orsP joinP piecesP pieceP bareP setP partsP partP heldP memberP)

theorem Fe.drew {b : Nat} {a c : World} (h : Fe b a c) : Fe b a c.drew := ⟨h.os, h.tape, h.output, h.size, h.block⟩
end Go.Proofs.YtmohefgdpddldaaGreatDoor
namespace Go.Proofs.YtmohefgdpddldaaGreatDoor
open Go.RowKit
open Y (Nd It Ps nextP takeP failP noTok noName zeroN deepP formP orsP joinP piecesP pieceP bareP setP partsP partP heldP memberP)

/-- The cells of an item. -/
def itC (x : It) (Ab : Option Addr) (nb cb : Nat) (Aa : Option Addr) (na ca : Nat) : List Value := [.int .i64 x.kind, .string x.name, .int .i64 x.number, .bool x.cut, .int .i64 x.before.kind, .string x.before.name, .int .i64 x.before.low, .int .i64 x.before.high, .slice Ab nb cb, .int .i64 x.after.kind, .string x.after.name, .int .i64 x.after.low, .int .i64 x.after.high, .slice Aa na ca, .int .i64 x.pos]
def itV (x : It) (Ab : Option Addr) (nb cb : Nat) (Aa : Option Addr) (na ca : Nat) : Value := .agg #[.int .i64 x.kind, .string x.name, .int .i64 x.number, .bool x.cut, .int .i64 x.before.kind, .string x.before.name, .int .i64 x.before.low, .int .i64 x.before.high, .slice Ab nb cb, .int .i64 x.after.kind, .string x.after.name, .int .i64 x.after.low, .int .i64 x.after.high, .slice Aa na ca, .int .i64 x.pos]
def ItAt (w : World) (S : Nat → Prop) (cs : List Value) (x : It) : Prop := ∃ Ab nb cb Aa na ca, cs = itC x Ab nb cb Aa na ca ∧ RdN w S Ab nb cb x.before.kids ∧ RdN w S Aa na ca x.after.kids
def IsI (w : World) (S : Nat → Prop) (v : Value) (x : It) : Prop := ∃ Ab nb cb Aa na ca, v = itV x Ab nb cb Aa na ca ∧ RdN w S Ab nb cb x.before.kids ∧ RdN w S Aa na ca x.after.kids
theorem ItAt.keep {w w' : World} {S S' : Nat → Prop} {cs : List Value} {x : It} (h : ItAt w S cs x) (hS : ∀ b, S b → S' b) (hk : ∀ p : Addr, S p.block → w'.cell? p = w.cell? p) : ItAt w' S' cs x := by
  obtain ⟨Ab, nb, cb, Aa, na, ca, e, h1, h2⟩ := h
  exact ⟨Ab, nb, cb, Aa, na, ca, e, h1.keep hS hk, h2.keep hS hk⟩
/-- A slice value reads as these items. -/
structure RdI6 (w : World) (S : Nat → Prop) (A : Option Addr) (n c : Nat) (l : List It) : Prop where
  len : l.length = n
  cap : n ≤ c
  capm : c ≤ maxLen
  at_ : ∃ cs : Nat → List Value, (0 < n → ∃ b off, A = some ⟨b, off, none⟩ ∧ S b ∧ ∀ i, i < n → ∀ j u, (cs i)[j]? = some u → w.cell? ⟨b, off + (i * 15 + j), none⟩ = some u) ∧ ∀ i x, l[i]? = some x → ItAt w S (cs i) x
theorem RdI6.keep {w w' : World} {S S' : Nat → Prop} {A : Option Addr} {n c : Nat} {l : List It} (h : RdI6 w S A n c l) (hS : ∀ b, S b → S' b) (hk : ∀ p : Addr, S p.block → w'.cell? p = w.cell? p) : RdI6 w' S' A n c l := by
  obtain ⟨h1, h2, h3, cs, h4, h5⟩ := h
  refine ⟨h1, h2, h3, cs, fun hn => ?_, fun i x hx => (h5 i x hx).keep hS hk⟩
  obtain ⟨b, off, e, hb, hcc⟩ := h4 hn
  exact ⟨b, off, e, hS b hb, fun i hi j u hu => (hk ⟨b, _, none⟩ hb).trans (hcc i hi j u hu)⟩
theorem RdI6.nil (w : World) (S : Nat → Prop) : RdI6 w S none 0 0 [] := ⟨rfl, Nat.le_refl _, by simp [maxLen], fun _ => [], fun h => absurd h (by omega), fun i x hx => by simp at hx⟩
/-- Fifteen cells are stored. -/
def set15 (w : World) (N : Nat) (a0 a1 a2 a3 a4 a5 a6 a7 a8 a9 a10 a11 a12 a13 a14 : Value) : World := (((((((((((((((w.setCell ⟨N, 0, none⟩ a0).setCell ⟨N, 1, none⟩ a1).setCell ⟨N, 2, none⟩ a2).setCell ⟨N, 3, none⟩ a3).setCell ⟨N, 4, none⟩ a4).setCell ⟨N, 5, none⟩ a5).setCell ⟨N, 6, none⟩ a6).setCell ⟨N, 7, none⟩ a7).setCell ⟨N, 8, none⟩ a8).setCell ⟨N, 9, none⟩ a9).setCell ⟨N, 10, none⟩ a10).setCell ⟨N, 11, none⟩ a11).setCell ⟨N, 12, none⟩ a12).setCell ⟨N, 13, none⟩ a13).setCell ⟨N, 14, none⟩ a14)
theorem set15_row {w : World} {N : Nat} {x0 x1 x2 x3 x4 x5 x6 x7 x8 x9 x10 x11 x12 x13 x14 : Value} {t : TypeId} (h : w.heap[N]? = some (.cells #[x0, x1, x2, x3, x4, x5, x6, x7, x8, x9, x10, x11, x12, x13, x14] t (0, 0))) (a0 a1 a2 a3 a4 a5 a6 a7 a8 a9 a10 a11 a12 a13 a14 : Value) : (set15 w N a0 a1 a2 a3 a4 a5 a6 a7 a8 a9 a10 a11 a12 a13 a14).heap[N]? = some (.cells #[a0, a1, a2, a3, a4, a5, a6, a7, a8, a9, a10, a11, a12, a13, a14] t (0, 0)) := by
  have h0 : (w.setCell ⟨N, 0, none⟩ a0).heap[N]? = some (.cells #[a0, x1, x2, x3, x4, x5, x6, x7, x8, x9, x10, x11, x12, x13, x14] t (0, 0)) := heap_setCell_same _ _ _ _ _ _ h
  have h1 : ((w.setCell ⟨N, 0, none⟩ a0).setCell ⟨N, 1, none⟩ a1).heap[N]? = some (.cells #[a0, a1, x2, x3, x4, x5, x6, x7, x8, x9, x10, x11, x12, x13, x14] t (0, 0)) := heap_setCell_same _ _ _ _ _ _ h0
  have h2 : (((w.setCell ⟨N, 0, none⟩ a0).setCell ⟨N, 1, none⟩ a1).setCell ⟨N, 2, none⟩ a2).heap[N]? = some (.cells #[a0, a1, a2, x3, x4, x5, x6, x7, x8, x9, x10, x11, x12, x13, x14] t (0, 0)) := heap_setCell_same _ _ _ _ _ _ h1
  have h3 : ((((w.setCell ⟨N, 0, none⟩ a0).setCell ⟨N, 1, none⟩ a1).setCell ⟨N, 2, none⟩ a2).setCell ⟨N, 3, none⟩ a3).heap[N]? = some (.cells #[a0, a1, a2, a3, x4, x5, x6, x7, x8, x9, x10, x11, x12, x13, x14] t (0, 0)) := heap_setCell_same _ _ _ _ _ _ h2
  have h4 : (((((w.setCell ⟨N, 0, none⟩ a0).setCell ⟨N, 1, none⟩ a1).setCell ⟨N, 2, none⟩ a2).setCell ⟨N, 3, none⟩ a3).setCell ⟨N, 4, none⟩ a4).heap[N]? = some (.cells #[a0, a1, a2, a3, a4, x5, x6, x7, x8, x9, x10, x11, x12, x13, x14] t (0, 0)) := heap_setCell_same _ _ _ _ _ _ h3
  have h5 : ((((((w.setCell ⟨N, 0, none⟩ a0).setCell ⟨N, 1, none⟩ a1).setCell ⟨N, 2, none⟩ a2).setCell ⟨N, 3, none⟩ a3).setCell ⟨N, 4, none⟩ a4).setCell ⟨N, 5, none⟩ a5).heap[N]? = some (.cells #[a0, a1, a2, a3, a4, a5, x6, x7, x8, x9, x10, x11, x12, x13, x14] t (0, 0)) := heap_setCell_same _ _ _ _ _ _ h4
  have h6 : (((((((w.setCell ⟨N, 0, none⟩ a0).setCell ⟨N, 1, none⟩ a1).setCell ⟨N, 2, none⟩ a2).setCell ⟨N, 3, none⟩ a3).setCell ⟨N, 4, none⟩ a4).setCell ⟨N, 5, none⟩ a5).setCell ⟨N, 6, none⟩ a6).heap[N]? = some (.cells #[a0, a1, a2, a3, a4, a5, a6, x7, x8, x9, x10, x11, x12, x13, x14] t (0, 0)) := heap_setCell_same _ _ _ _ _ _ h5
  have h7 : ((((((((w.setCell ⟨N, 0, none⟩ a0).setCell ⟨N, 1, none⟩ a1).setCell ⟨N, 2, none⟩ a2).setCell ⟨N, 3, none⟩ a3).setCell ⟨N, 4, none⟩ a4).setCell ⟨N, 5, none⟩ a5).setCell ⟨N, 6, none⟩ a6).setCell ⟨N, 7, none⟩ a7).heap[N]? = some (.cells #[a0, a1, a2, a3, a4, a5, a6, a7, x8, x9, x10, x11, x12, x13, x14] t (0, 0)) := heap_setCell_same _ _ _ _ _ _ h6
  have h8 : (((((((((w.setCell ⟨N, 0, none⟩ a0).setCell ⟨N, 1, none⟩ a1).setCell ⟨N, 2, none⟩ a2).setCell ⟨N, 3, none⟩ a3).setCell ⟨N, 4, none⟩ a4).setCell ⟨N, 5, none⟩ a5).setCell ⟨N, 6, none⟩ a6).setCell ⟨N, 7, none⟩ a7).setCell ⟨N, 8, none⟩ a8).heap[N]? = some (.cells #[a0, a1, a2, a3, a4, a5, a6, a7, a8, x9, x10, x11, x12, x13, x14] t (0, 0)) := heap_setCell_same _ _ _ _ _ _ h7
  have h9 : ((((((((((w.setCell ⟨N, 0, none⟩ a0).setCell ⟨N, 1, none⟩ a1).setCell ⟨N, 2, none⟩ a2).setCell ⟨N, 3, none⟩ a3).setCell ⟨N, 4, none⟩ a4).setCell ⟨N, 5, none⟩ a5).setCell ⟨N, 6, none⟩ a6).setCell ⟨N, 7, none⟩ a7).setCell ⟨N, 8, none⟩ a8).setCell ⟨N, 9, none⟩ a9).heap[N]? = some (.cells #[a0, a1, a2, a3, a4, a5, a6, a7, a8, a9, x10, x11, x12, x13, x14] t (0, 0)) := heap_setCell_same _ _ _ _ _ _ h8
  have h10 : (((((((((((w.setCell ⟨N, 0, none⟩ a0).setCell ⟨N, 1, none⟩ a1).setCell ⟨N, 2, none⟩ a2).setCell ⟨N, 3, none⟩ a3).setCell ⟨N, 4, none⟩ a4).setCell ⟨N, 5, none⟩ a5).setCell ⟨N, 6, none⟩ a6).setCell ⟨N, 7, none⟩ a7).setCell ⟨N, 8, none⟩ a8).setCell ⟨N, 9, none⟩ a9).setCell ⟨N, 10, none⟩ a10).heap[N]? = some (.cells #[a0, a1, a2, a3, a4, a5, a6, a7, a8, a9, a10, x11, x12, x13, x14] t (0, 0)) := heap_setCell_same _ _ _ _ _ _ h9
  have h11 : ((((((((((((w.setCell ⟨N, 0, none⟩ a0).setCell ⟨N, 1, none⟩ a1).setCell ⟨N, 2, none⟩ a2).setCell ⟨N, 3, none⟩ a3).setCell ⟨N, 4, none⟩ a4).setCell ⟨N, 5, none⟩ a5).setCell ⟨N, 6, none⟩ a6).setCell ⟨N, 7, none⟩ a7).setCell ⟨N, 8, none⟩ a8).setCell ⟨N, 9, none⟩ a9).setCell ⟨N, 10, none⟩ a10).setCell ⟨N, 11, none⟩ a11).heap[N]? = some (.cells #[a0, a1, a2, a3, a4, a5, a6, a7, a8, a9, a10, a11, x12, x13, x14] t (0, 0)) := heap_setCell_same _ _ _ _ _ _ h10
  have h12 : (((((((((((((w.setCell ⟨N, 0, none⟩ a0).setCell ⟨N, 1, none⟩ a1).setCell ⟨N, 2, none⟩ a2).setCell ⟨N, 3, none⟩ a3).setCell ⟨N, 4, none⟩ a4).setCell ⟨N, 5, none⟩ a5).setCell ⟨N, 6, none⟩ a6).setCell ⟨N, 7, none⟩ a7).setCell ⟨N, 8, none⟩ a8).setCell ⟨N, 9, none⟩ a9).setCell ⟨N, 10, none⟩ a10).setCell ⟨N, 11, none⟩ a11).setCell ⟨N, 12, none⟩ a12).heap[N]? = some (.cells #[a0, a1, a2, a3, a4, a5, a6, a7, a8, a9, a10, a11, a12, x13, x14] t (0, 0)) := heap_setCell_same _ _ _ _ _ _ h11
  have h13 : ((((((((((((((w.setCell ⟨N, 0, none⟩ a0).setCell ⟨N, 1, none⟩ a1).setCell ⟨N, 2, none⟩ a2).setCell ⟨N, 3, none⟩ a3).setCell ⟨N, 4, none⟩ a4).setCell ⟨N, 5, none⟩ a5).setCell ⟨N, 6, none⟩ a6).setCell ⟨N, 7, none⟩ a7).setCell ⟨N, 8, none⟩ a8).setCell ⟨N, 9, none⟩ a9).setCell ⟨N, 10, none⟩ a10).setCell ⟨N, 11, none⟩ a11).setCell ⟨N, 12, none⟩ a12).setCell ⟨N, 13, none⟩ a13).heap[N]? = some (.cells #[a0, a1, a2, a3, a4, a5, a6, a7, a8, a9, a10, a11, a12, a13, x14] t (0, 0)) := heap_setCell_same _ _ _ _ _ _ h12
  have h14 : (((((((((((((((w.setCell ⟨N, 0, none⟩ a0).setCell ⟨N, 1, none⟩ a1).setCell ⟨N, 2, none⟩ a2).setCell ⟨N, 3, none⟩ a3).setCell ⟨N, 4, none⟩ a4).setCell ⟨N, 5, none⟩ a5).setCell ⟨N, 6, none⟩ a6).setCell ⟨N, 7, none⟩ a7).setCell ⟨N, 8, none⟩ a8).setCell ⟨N, 9, none⟩ a9).setCell ⟨N, 10, none⟩ a10).setCell ⟨N, 11, none⟩ a11).setCell ⟨N, 12, none⟩ a12).setCell ⟨N, 13, none⟩ a13).setCell ⟨N, 14, none⟩ a14).heap[N]? = some (.cells #[a0, a1, a2, a3, a4, a5, a6, a7, a8, a9, a10, a11, a12, a13, a14] t (0, 0)) := heap_setCell_same _ _ _ _ _ _ h13
  exact h14
theorem set15_size (w : World) (N : Nat) (a0 a1 a2 a3 a4 a5 a6 a7 a8 a9 a10 a11 a12 a13 a14 : Value) : (set15 w N a0 a1 a2 a3 a4 a5 a6 a7 a8 a9 a10 a11 a12 a13 a14).heap.size = w.heap.size := by simp [set15]
theorem set15_block (w : World) (N : Nat) (a0 a1 a2 a3 a4 a5 a6 a7 a8 a9 a10 a11 a12 a13 a14 : Value) {i : Nat} (hi : i ≠ N) : (set15 w N a0 a1 a2 a3 a4 a5 a6 a7 a8 a9 a10 a11 a12 a13 a14).heap[i]? = w.heap[i]? := by
  unfold set15
  rw [Below.heap_setCell _ _ _ _ hi]; rw [Below.heap_setCell _ _ _ _ hi]; rw [Below.heap_setCell _ _ _ _ hi]; rw [Below.heap_setCell _ _ _ _ hi]; rw [Below.heap_setCell _ _ _ _ hi]; rw [Below.heap_setCell _ _ _ _ hi]; rw [Below.heap_setCell _ _ _ _ hi]; rw [Below.heap_setCell _ _ _ _ hi]; rw [Below.heap_setCell _ _ _ _ hi]; rw [Below.heap_setCell _ _ _ _ hi]; rw [Below.heap_setCell _ _ _ _ hi]; rw [Below.heap_setCell _ _ _ _ hi]; rw [Below.heap_setCell _ _ _ _ hi]; rw [Below.heap_setCell _ _ _ _ hi]; rw [Below.heap_setCell _ _ _ _ hi]
theorem Fe.set15 {b : Nat} {a c : World} (h : Fe b a c) {g : Nat} (hg : g = b ∨ a.heap.size ≤ g) (a0 a1 a2 a3 a4 a5 a6 a7 a8 a9 a10 a11 a12 a13 a14 : Value) : Fe b a (set15 c g a0 a1 a2 a3 a4 a5 a6 a7 a8 a9 a10 a11 a12 a13 a14) :=
  ((((((((((((((h.set hg _ _).set hg _ _).set hg _ _).set hg _ _).set hg _ _).set hg _ _).set hg _ _).set hg _ _).set hg _ _).set hg _ _).set hg _ _).set hg _ _).set hg _ _).set hg _ _).set hg _ _
theorem cells15 {w : World} {N : Nat} {x0 x1 x2 x3 x4 x5 x6 x7 x8 x9 x10 x11 x12 x13 x14 : Value} {t : TypeId} (h : w.heap[N]? = some (.cells #[x0, x1, x2, x3, x4, x5, x6, x7, x8, x9, x10, x11, x12, x13, x14] t (0, 0))) :
    w.cell? ⟨N, 0, none⟩ = some x0 ∧ w.cell? ⟨N, 1, none⟩ = some x1 ∧ w.cell? ⟨N, 2, none⟩ = some x2 ∧ w.cell? ⟨N, 3, none⟩ = some x3 ∧ w.cell? ⟨N, 4, none⟩ = some x4 ∧ w.cell? ⟨N, 5, none⟩ = some x5 ∧ w.cell? ⟨N, 6, none⟩ = some x6 ∧ w.cell? ⟨N, 7, none⟩ = some x7 ∧ w.cell? ⟨N, 8, none⟩ = some x8 ∧ w.cell? ⟨N, 9, none⟩ = some x9 ∧ w.cell? ⟨N, 10, none⟩ = some x10 ∧ w.cell? ⟨N, 11, none⟩ = some x11 ∧ w.cell? ⟨N, 12, none⟩ = some x12 ∧ w.cell? ⟨N, 13, none⟩ = some x13 ∧ w.cell? ⟨N, 14, none⟩ = some x14 := by
  refine ⟨?_, ?_, ?_, ?_, ?_, ?_, ?_, ?_, ?_, ?_, ?_, ?_, ?_, ?_, ?_⟩ <;> (rw [cell_of_row _ _ _ _ _ _ h]; rfl)
def Box15 (w : World) (N : Nat) : Prop := ∃ x0 x1 x2 x3 x4 x5 x6 x7 x8 x9 x10 x11 x12 x13 x14 : Value, w.heap[N]? = some (.cells #[x0, x1, x2, x3, x4, x5, x6, x7, x8, x9, x10, x11, x12, x13, x14] 35 (0, 0))
theorem Box15.fe {b N : Nat} {w w' : World} (h : Box15 w N) (hf : Fe b w w') (hN : N ≠ b) (hs : N < w.heap.size) : Box15 w' N := by
  obtain ⟨x0, x1, x2, x3, x4, x5, x6, x7, x8, x9, x10, x11, x12, x13, x14, h⟩ := h
  exact ⟨x0, x1, x2, x3, x4, x5, x6, x7, x8, x9, x10, x11, x12, x13, x14, (hf.block N hs hN).trans h⟩
theorem Box15.set {w : World} {N : Nat} (h : Box15 w N) (a0 a1 a2 a3 a4 a5 a6 a7 a8 a9 a10 a11 a12 a13 a14 : Value) : (set15 w N a0 a1 a2 a3 a4 a5 a6 a7 a8 a9 a10 a11 a12 a13 a14).heap[N]? = some (.cells #[a0, a1, a2, a3, a4, a5, a6, a7, a8, a9, a10, a11, a12, a13, a14] 35 (0, 0)) := by
  obtain ⟨x0, x1, x2, x3, x4, x5, x6, x7, x8, x9, x10, x11, x12, x13, x14, h⟩ := h
  exact set15_row h _ _ _ _ _ _ _ _ _ _ _ _ _ _ _
def zeroI : Obj := .cells #[.int .i64 0, .string { data := #[] }, .int .i64 0, .bool false, .int .i64 0, .string { data := #[] }, .int .i64 0, .int .i64 0, .slice none 0 0, .int .i64 0, .string { data := #[] }, .int .i64 0, .int .i64 0, .slice none 0 0, .int .i64 0] 35
def begI (w : World) : World := w.alloc zeroI
theorem begI_box (w : World) : Box15 (begI w) w.heap.size := ⟨_, _, _, _, _, _, _, _, _, _, _, _, _, _, _, heap_alloc_new w _⟩
theorem begI_below (w : World) : Below w.heap.size w (begI w) := kbelow_push w _
theorem begI_size (w : World) : (begI w).heap.size = w.heap.size + 1 := by simp [begI]
/-- The result's cells of an item, stored. -/
def set15I (w : World) (N : Nat) (x : It) (Ab : Option Addr) (nb cb : Nat) (Aa : Option Addr) (na ca : Nat) : World :=
  set15 w N (.int .i64 x.kind) (.string x.name) (.int .i64 x.number) (.bool x.cut) (.int .i64 x.before.kind) (.string x.before.name) (.int .i64 x.before.low) (.int .i64 x.before.high) (.slice Ab nb cb) (.int .i64 x.after.kind) (.string x.after.name) (.int .i64 x.after.low) (.int .i64 x.after.high) (.slice Aa na ca) (.int .i64 x.pos)
end Go.Proofs.YtmohefgdpddldaaGreatDoor
namespace Go.Proofs.YtmohefgdpddldaaGreatDoor
open Go.RowKit
open Y (Nd It Ps nextP takeP failP noTok noName zeroN formP itemP)

end Go.Proofs.YtmohefgdpddldaaGreatDoor
namespace Go.Proofs.YtmohefgdpddldaaGreatDoor
open Go.RowKit
open Y (Nd It Ps nextP takeP failP noTok noName zeroN formP itemP lineP itemsP)

theorem item_less (e : Int) (n : Nat) (s : Ps) (h : s.toks ≠ []) : (itemP e n s).2.toks.length < s.toks.length := by
  have h1 : (takeP e [1, 2, 19] s).2.toks.length < s.toks.length := by
    rcases s with (_ | ⟨t, u⟩) | ⟨a, y⟩
    · exact absurd rfl h
    · rw [Y.take_cons]; split <;> simp [Y.Ps.toks]
    · exact absurd rfl h
  unfold Y.itemP
  split
  · exact Nat.lt_of_le_of_lt (Nat.le_trans ((Y.len_all e n).form _ _) (Y.take_len _ _ _)) h1
  · split
    · exact Nat.lt_of_le_of_lt (Nat.le_trans ((Y.len_all e n).form _ _) (Nat.le_trans (Y.take_len _ _ _) ((Y.len_all e n).form _ _))) h1
    · exact h1
/-- A row of items of one's own. -/
def OwnI (w : World) (B : Nat) (v : Value) (l : List It) : Prop := ∃ cs, w.ownsRow B 35 15 v l.length cs ∧ ∀ i x, l[i]? = some x → ItAt w (fun b => B ≤ b ∧ b < w.heap.size ∧ v.ownBlock ≠ some b) ((cs.drop (i * 15)).take 15) x
theorem info_it : (Tryz.prog.info? 35).map (fun i => (i.zero, i.size, i.bytes)) = some (some (.agg #[.int .i64 0, .string { data := #[] }, .int .i64 0, .bool false, .int .i64 0, .string { data := #[] }, .int .i64 0, .int .i64 0, .slice none 0 0, .int .i64 0, .string { data := #[] }, .int .i64 0, .int .i64 0, .slice none 0 0, .int .i64 0]), 15, 176) := by kernel_rfl
section
variable {w w' : World} {B : Nat} {v : Value} {l : List It}
theorem OwnI.nil (w : World) (B : Nat) : OwnI w B (.slice none 0 0) [] := ⟨[], World.ownsRow_nil w B _ 15, fun i x hx => by simp at hx⟩
theorem OwnI.rd (h : OwnI w B v l) : ∃ A c, v = .slice A l.length c ∧ RdI6 w (In B w.heap.size) A l.length c l := by
  obtain ⟨cs, ho, hk⟩ := h
  have hs : ∀ i x, l[i]? = some x → ItAt w (In B w.heap.size) ((cs.drop (i * 15)).take 15) x := fun i x hx => (hk i x hx).keep (fun b hb => ⟨hb.1, hb.2.1⟩) (fun _ _ => rfl)
  rcases ho.2 with ⟨h1, h2⟩ | ⟨g, cap, cur, h1, hB, hg, h3, h4, _, _⟩
  · subst h1
    have : l = [] := List.eq_nil_of_length_eq_zero h2
    subst this
    exact ⟨none, 0, rfl, RdI6.nil _ _⟩
  · subst h1
    have hlt : g < w.heap.size := by
      rcases Nat.lt_or_ge g w.heap.size with hlt | hge
      · exact hlt
      · rw [Array.getElem?_eq_none hge] at hg; cases hg
    refine ⟨_, cap, rfl, rfl, h3, h4, fun i => (cs.drop (i * 15)).take 15, fun _ => ⟨g, 0, rfl, ⟨hB, hlt⟩, fun i hi j u hu => ?_⟩, hs⟩
    rw [← kadd_none]
    have hj : j < 15 := by
      have := (List.getElem?_eq_some_iff.1 hu).1; rw [List.length_take] at this; omega
    rw [List.getElem?_take_of_lt hj, List.getElem?_drop] at hu
    exact World.ownsRow.cells ho (g := g) rfl _ _ hu
theorem OwnI.keep (h : OwnI w B v l) (hs : w.heap.size ≤ w'.heap.size) (hb : ∀ i, B ≤ i → i < w.heap.size → w'.heap[i]? = w.heap[i]?) : OwnI w' B v l := by
  obtain ⟨cs, ho, hk⟩ := h
  exact ⟨cs, row_keep ho fun i h1 h2 _ => hb i h1 h2, fun i x hx => (hk i x hx).keep (fun b hb => ⟨hb.1, by omega, hb.2.2⟩) (fun p hp => World.cell?_of_block (hb p.block hp.1 hp.2.1))⟩
theorem OwnI.block (h : OwnI w B v l) : ∀ i, v.ownBlock = some i → B ≤ i ∧ i < w.heap.size := by
  obtain ⟨cs, ho, _⟩ := h
  exact World.ownsRow.lt ho
theorem OwnI.push {v' : Value} {ns cs : List Value} {x : It} (hk : ∀ i x, l[i]? = some x → ItAt w (fun b => B ≤ b ∧ b < w.heap.size ∧ v.ownBlock ≠ some b) ((cs.drop (i * 15)).take 15) x) (hcl : cs.length = l.length * 15)
    (hx : ItAt w (fun b => B ≤ b ∧ b < w.heap.size ∧ v.ownBlock ≠ some b) ns x) (hn : ns.length = 15) (ho : w'.ownsRow B 35 15 v' (l.length + 1) (cs ++ ns)) (hg : w.grownBy w' v.ownBlock) (hat : v'.ownBlock = v.ownBlock ∨ v'.ownBlock = some w.heap.size) : OwnI w' B v' (l ++ [x]) := by
  have hS : ∀ b, (B ≤ b ∧ b < w.heap.size ∧ v.ownBlock ≠ some b) → B ≤ b ∧ b < w'.heap.size ∧ v'.ownBlock ≠ some b := fun b ⟨h1, h2, h3⟩ => ⟨h1, Nat.lt_of_lt_of_le h2 hg.size, by
    rcases hat with e | e
    · rw [e]; exact h3
    · rw [e]; intro e2; injection e2 with e2; omega⟩
  have hc : ∀ p : Addr, (B ≤ p.block ∧ p.block < w.heap.size ∧ v.ownBlock ≠ some p.block) → w'.cell? p = w.cell? p := fun p ⟨_, h2, h3⟩ => World.cell?_of_block (hg.block p.block h2 (fun e => h3 e.symm))
  refine ⟨cs ++ ns, by simpa using ho, fun i y hy => ?_⟩
  rcases Nat.lt_or_ge i l.length with hi | hi
  · rw [List.getElem?_append_left hi] at hy
    have := (hk i y hy).keep hS hc
    rw [List.drop_append_of_le_length (by omega), List.take_append_of_le_length (by rw [List.length_drop]; omega)]
    exact this
  · have hil : i = l.length := by
      have := (List.getElem?_eq_some_iff.1 hy).1; simp at this; omega
    subst hil
    rw [List.getElem?_append_right (Nat.le_refl _), Nat.sub_self] at hy
    simp at hy
    subst hy
    rw [List.drop_append, List.drop_eq_nil_of_le (by omega), List.nil_append, hcl, Nat.sub_self, List.drop_zero, List.take_of_length_le (by omega)]
    exact hx.keep hS hc
end
theorem app_i {w : World} {ops : Array Oper} {rest : List Oper} {o : Oper} {a : Act} {Q : Exit → Act → World → Prop} (hgd : o.guard = none) (s y : Operand)
    (ho : o.op = .call { callee := .builtin .append, args := #[s, y], argTypes := #[25, 25] })
    (base : Nat) (v : Value) (l : List It) (hs : a.eval s = v) (hown : OwnI w base v l) (N : Nat) (x : It) (Ab : Option Addr) (nb cb : Nat) (Aa : Option Addr) (na ca : Nat)
    (hx : a.eval y = .slice (some ⟨N, 0, none⟩) 1 1) (hrow : w.heap[N]? = some (.cells #[.int .i64 x.kind, .string x.name, .int .i64 x.number, .bool x.cut, .int .i64 x.before.kind, .string x.before.name, .int .i64 x.before.low, .int .i64 x.before.high, .slice Ab nb cb, .int .i64 x.after.kind, .string x.after.name, .int .i64 x.after.low, .int .i64 x.after.high, .slice Aa na ca, .int .i64 x.pos] 35 (0, 0))) (hy : ItAt w (fun b => base ≤ b ∧ b < w.heap.size ∧ v.ownBlock ≠ some b) (itC x Ab nb cb Aa na ca) x)
    (h63 : l.length ≤ 1000000) (hbase : base ≤ w.heap.size)
    (h : ∀ v' w', OwnI w' base v' (l ++ [x]) → w.grownBy w' v.ownBlock → wpList Tryz.prog ops Q rest (a.put o.dst v') w') : wpList Tryz.prog ops Q (o :: rest) a w := by
  obtain ⟨i0, hi0, hz0, hz1, hz2⟩ := info_k info_it
  obtain ⟨cs, hc, hk⟩ := hown
  refine wpList_append_own_at w hgd s y 25 ho base 35 i0 _ 15 176 Tryz.underlying25 hi0 hz0 hz1 hz2 rfl (by decide) v l.length cs hs hc ⟨N, 0, none⟩ 1 1 (itC x Ab nb cb Aa na ca) hx rfl ?_ ?_ (by unfold maxLen; omega) (by omega) hbase ?_
  · intro j u hu
    rw [kadd_none, cell_of_row _ _ _ _ _ _ hrow, Nat.zero_add]
    unfold itC at hu
    simpa using hu
  · intro u hu
    unfold itC at hu
    simp only [List.mem_cons, List.not_mem_nil, or_false] at hu
    rcases hu with rfl | rfl | rfl | rfl | rfl | rfl | rfl | rfl | rfl | rfl | rfl | rfl | rfl | rfl | rfl <;> rfl
  · intro v' w' h2 h3 _ h4
    exact h v' w' (OwnI.push hk hc.1 hy rfl h2 h3 h4) h3
end Go.Proofs.YtmohefgdpddldaaGreatDoor
namespace Go.Proofs.YtmohefgdpddldaaGreatDoor
open Go.RowKit
open Y (Nd It Ps nextP takeP failP noTok noName zeroN formP itemP lineP itemsP)

end Go.Proofs.YtmohefgdpddldaaGreatDoor
namespace Go.Proofs.YtmohefgdpddldaaGreatDoor
open Go.RowKit
open Q (isC plainB digV)

theorem ret_bool {a b : Bool} (h : a = b) : Ending.returned (.bool a) = .returned (.bool b) := by rw [h]
theorem ret_i64 {a b : Int} (h : a = b) : Ending.returned (.int .i64 a) = .returned (.int .i64 b) := by rw [h]
theorem plain_any (c : Int) (w : World) : Calls Tryz.prog 71 #[.int .i64 c] w fun e w' => e = .returned (.bool (plainB c)) ∧ w = w' := by
  go_enter Tryz.func71, Tryz.ntmps71
  go_wp2
  all_goals
    go_ret
    refine ⟨ret_bool ?_, rfl⟩
    rw [Bool.eq_iff_iff, Q.plain_iff]
    simp
    try omega
theorem isc_any (c : Int) (w : World) : Calls Tryz.prog 129 #[.int .i64 c] w fun e w' => e = .returned (.bool (isC c)) ∧ w = w' := by
  go_enter Tryz.func129, Tryz.ntmps129
  go_wp2
  all_goals
    go_ret
    refine ⟨ret_bool ?_, rfl⟩
    rw [Bool.eq_iff_iff, Q.isC_iff]
    simp
    try omega
end Go.Proofs.YtmohefgdpddldaaGreatDoor
namespace Go.Proofs.YtmohefgdpddldaaGreatDoor
open Go.RowKit
open E (okb encB)

theorem info_i64 : (Tryz.prog.info? 3).map (fun i => (i.zero, i.size, i.bytes)) = some (some (.int .i64 0), 1, 8) := by kernel_rfl
/-- A fresh slice of numbers, given back alone. -/
def NewK (k : IntKind) (w : World) (L : List Int) (e : Ending) (w' : World) : Prop := ∃ A n c, e = .returned (.slice A n c) ∧ RdK k w' w'.heap.size A n c L ∧ Below w.heap.size w w'
def Byt (L : List Int) : Prop := ∀ x ∈ L, 0 ≤ x ∧ x < 256
theorem Byt.take {L : List Int} (h : Byt L) (m : Nat) : Byt (L.take m) := fun x hx => h x (List.mem_of_mem_take hx)
theorem Byt.drop {L : List Int} (h : Byt L) (m : Nat) : Byt (L.drop m) := fun x hx => h x (List.mem_of_mem_drop hx)
theorem enc_byt (c : Int) : Byt (encB c) := fun _ hx => E.enc_byte hx
end Go.Proofs.YtmohefgdpddldaaGreatDoor
namespace Go.Proofs.YtmohefgdpddldaaGreatDoor
open Go.RowKit
open W (dgB ltB smB nmB markB signK many valN)

theorem letter_any (c : Int) (w : World) : Calls Tryz.prog 68 #[.int .i64 c] w fun e w' => e = .returned (.bool (ltB c)) ∧ w = w' := by
  go_enter Tryz.func68, Tryz.ntmps68
  go_wp2
  all_goals
    go_ret
    refine ⟨ret_bool ?_, rfl⟩
    rw [Bool.eq_iff_iff]
    simp [ltB]
    try omega
end Go.Proofs.YtmohefgdpddldaaGreatDoor
namespace Go.Proofs.YtmohefgdpddldaaGreatDoor
open Go.RowKit
open W (dgB many valN partN numB)

theorem RdK.mid {k : IntKind} {w : World} {B n c : Nat} {b off : Nat} {L : List Int} (h : RdK k w B (some ⟨b, off, none⟩) n c L) {lo m : Nat} (hm : lo + m ≤ n) : RdK k w B (some ⟨b, off + lo, none⟩) m (c - lo) ((L.drop lo).take m) :=
  ⟨by rw [List.length_take, List.length_drop, h.len]; omega, by have := h.cap; omega, by have := h.capm; omega, fun h0 => by
    obtain ⟨b', off', e, hb, hc⟩ := h.at_ (by omega)
    injection e with e; injection e with e1 e2 _; subst e1 e2
    refine ⟨b, off + lo, rfl, hb, fun j x hx => ?_⟩
    have hj : j < m := by have := (List.getElem?_eq_some_iff.1 hx).1; rw [List.length_take] at this; omega
    rw [List.getElem?_take_of_lt hj, List.getElem?_drop] at hx
    rw [Nat.add_assoc]; exact hc _ x hx⟩
end Go.Proofs.YtmohefgdpddldaaGreatDoor
namespace Go.Proofs.YtmohefgdpddldaaGreatDoor
open Go.RowKit
open Q (isC plainB digV R numS uS escS readS textB flatT PIs)

/-- A string of these bytes. -/
structure StrIs (s : ByteArray) (S : List Int) : Prop where
  eq : s = strOfNums S
  byt : ∀ x ∈ S, 0 ≤ x ∧ x < 256
theorem StrIs.size {s : ByteArray} {S : List Int} (h : StrIs s S) : s.size = S.length := by rw [h.eq, strOfNums_size]
theorem StrIs.get {s : ByteArray} {S : List Int} (h : StrIs s S) {k : Nat} {x : Int} (hx : S[k]? = some x) (hh : k < s.size) : ((s[k]'hh).toNat : Int) = x := by
  have hb := h.byt x (List.mem_of_getElem? hx)
  have e : s.data.toList = S.map fun n => UInt8.ofNat n.toNat := by rw [h.eq, strOfNums_data]
  have h1 : s.data.toList[k]? = some (UInt8.ofNat x.toNat) := by rw [e]; simp [hx]
  have h2 : s[k]'hh = UInt8.ofNat x.toNat := by
    have h3 : s.data[k]? = some (UInt8.ofNat x.toNat) := by simpa using h1
    have h4 : s.data[k]? = some (s[k]'hh) := Array.getElem?_eq_getElem (by simpa using hh)
    rw [h4] at h3
    exact Option.some.inj h3
  rw [h2]; simp; omega
theorem StrIs.cut {s : ByteArray} {S : List Int} (h : StrIs s S) (i j : Nat) : s.extract i j = strOfNums ((S.drop i).take (j - i)) := by
  apply ByteArray.ext
  apply Array.ext'
  rw [ByteArray.data_extract, Array.toList_extract, h.eq, strOfNums_data, strOfNums_data]
  simp [List.extract_eq_take_drop]
theorem read_errs {l : List Int} {p : Nat} {e : Int} (h : readS l p = .bad e) : e = 5 ∨ e = 6 := by
  have hn : ∀ (l : List Int) (d : Nat) (v : Int) (p : Nat) (e : Int), numS l d v p = .bad e → e = 5 ∨ e = 6 := by
    intro l
    induction l with
    | nil => intro d v p e h; simp [Q.numS] at h; omega
    | cons x t ih =>
      intro d v p e h
      rw [Q.numS] at h
      split at h
      · cases h
      · split at h
        · injection h with h; omega
        · exact ih _ _ _ _ h
  cases l with
  | nil => simp [Q.readS] at h; omega
  | cons x t =>
    rw [Q.readS] at h
    split at h
    · cases t with
      | nil => simp [Q.escS] at h; omega
      | cons y u =>
        rw [Q.escS] at h
        split at h
        · cases u with
          | nil => simp [Q.uS] at h; omega
          | cons z o =>
            rw [Q.uS] at h
            split at h
            · exact hn _ _ _ _ _ h
            · injection h with h; omega
        · split at h
          · cases h
          · split at h
            · cases h
            · split at h
              · cases h
              · injection h with h; omega
    · split at h
      · cases h
      · injection h with h; omega
end Go.Proofs.YtmohefgdpddldaaGreatDoor
namespace Go.Proofs.YtmohefgdpddldaaGreatDoor
open Go.RowKit
open W (dgB smB many numB noBl lettersB allowB)

theorem sm_iff (c : Int) : smB c = true ↔ 97 ≤ c ∧ c ≤ 122 := by unfold W.smB; exact decide_eq_true_iff
set_option maxHeartbeats 1000000 in
theorem letters_any {w : World} {s : ByteArray} {S : List Int} (h : StrIs s S) (hn : S.length ≤ 140737488355328) :
    Calls Tryz.prog 34 #[.string s] w fun e w' => e = .returned (.bool (lettersB S)) ∧ w = w' := by
  have HS := Lib.hid h
  have hsz := h.size
  generalize hl : S.length = n at hn hsz
  have HL := Lib.hid hl
  clear h hl
  go_enter Tryz.func34, Tryz.ntmps34
  go_wp2_with fail
  go_loopw [6] (fun iv wx => ∃ k : Nat, k ≤ n ∧ iv = .int .i64 k ∧ w = wx ∧ Hid (∀ j x, j < k → S[j]? = some x → smB x = true)) (fun iv _ => n - (intOf iv).toNat)
  case atStart => exact ⟨0, by omega, rfl, by trivial, fun j x hj => by omega⟩
  case round =>
    obtain ⟨k, hk, rfl, rfl, HD⟩ := hrel
    by_cases hlt : k < n
    · obtain ⟨x, hx⟩ : ∃ x, S[k]? = some x := ⟨S[k]'(by rw [HL.out]; exact hlt), List.getElem?_eq_getElem _⟩
      have g1 := HS.out.get hx
      obtain ⟨x0, x1⟩ := HS.out.byt x (List.mem_of_getElem? hx)
      have HX := Lib.hid hx
      clear hx
      have hlt2 : k < s.size := by omega
      by_cases hb : 97 ≤ x ∧ x ≤ 122
      · have HD2 : Hid (∀ j y, j < k + 1 → S[j]? = some y → smB y = true) := fun j y hj hy => by
          rcases Nat.lt_or_ge j k with h1 | h1
          · exact HD.out j y h1 hy
          · obtain rfl : j = k := by omega
            rw [HX.out] at hy; injection hy with hy; subst hy; exact (sm_iff x).2 hb
        obtain ⟨b1, b2⟩ := hb
        clear HD
        go_wp2_with fail
        go_roundw
        case rel => exact ⟨k + 1, by omega, by go_num, by trivial, HD2.out⟩
        case measure => simp [intOf]; omega
      · have HF : Hid (lettersB S = false) := by
          show _ = _
          unfold W.lettersB
          have : S.all smB = false := by
            rw [← Bool.not_eq_true]
            intro h
            exact hb ((sm_iff x).1 (List.all_eq_true.1 h x (List.mem_of_getElem? HX.out)))
          rw [this]; rfl
        have hb2 : x < 97 ∨ ¬ x < 97 ∧ 122 < x := by omega
        clear hb
        rcases hb2 with hb2 | ⟨hb2, hb3⟩
        · go_wp2_with fail
          go_ret
          exact ⟨ret_bool HF.out.symm, rfl⟩
        · go_wp2_with fail
          go_ret
          exact ⟨ret_bool HF.out.symm, rfl⟩
    · obtain rfl : k = n := by omega
      have HA : Hid (lettersB S = (decide (1 ≤ k) && decide (k ≤ 16))) := by
        show _ = _
        unfold W.lettersB
        have : S.all smB = true := List.all_eq_true.2 fun x hx => by
          obtain ⟨j, hj, e⟩ := List.getElem_of_mem hx
          exact HD.out j x (by rw [← HL.out]; exact hj) (by rw [List.getElem?_eq_getElem hj, e])
        rw [this, HL.out]; rfl
      clear HD
      by_cases h1 : 1 ≤ k
      · rw [decide_eq_true h1, Bool.true_and] at HA
        go_wp2_with fail
        go_ret
        exact ⟨ret_bool (by rw [HA.out, Bool.eq_iff_iff]; simp; try omega), rfl⟩
      · rw [decide_eq_false h1] at HA
        obtain rfl : k = 0 := by omega
        go_wp2_with fail
        go_ret
        exact ⟨ret_bool HA.out.symm, rfl⟩
end Go.Proofs.YtmohefgdpddldaaGreatDoor
namespace Go.Proofs
open Go.Shelf
def Tryz.layItoa_ren : Go.Shelf.Ren := ⟨fun | 171 => 97 | 243 => 118 | 246 => 131 | 283 => 138 | 284 => 139 | 285 => 140 | 286 => 141 | 129 => 146 | 317 => 145 | 318 => 147 | 319 => 148 | 320 => 149 | 337 => 155 | 338 => 156 | n => n, fun | 3 => 3 | 9 => 9 | 2 => 2 | 4 => 4 | 171 => 126 | 0 => 0 | 53 => 127 | 37 => 41 | 5 => 5 | 173 => 130 | 212 => 134 | 51 => 135 | 20 => 20 | 213 => 136 | 46 => 137 | 232 => 147 | 233 => 148 | n => n, fun | 17 => 0 | 18 => 4 | 19 => 5 | n => n⟩
theorem Tryz.layItoa : Go.Proofs.LaysM.n171 Tryz.prog Tryz.layItoa_ren := {
  mixed := by kernel_rfl
  f129 := Tryz.func146.trans (congrArg some (by kernel_rfl))
  f171 := Tryz.func97.trans (congrArg some (by kernel_rfl))
  f243 := Tryz.func118.trans (congrArg some (by kernel_rfl))
  f246 := Tryz.func131.trans (congrArg some (by kernel_rfl))
  f283 := Tryz.func138.trans (congrArg some (by kernel_rfl))
  f284 := Tryz.func139.trans (congrArg some (by kernel_rfl))
  f285 := Tryz.func140.trans (congrArg some (by kernel_rfl))
  f286 := Tryz.func141.trans (congrArg some (by kernel_rfl))
  f317 := Tryz.func145.trans (congrArg some (by kernel_rfl))
  f318 := Tryz.func147.trans (congrArg some (by kernel_rfl))
  f319 := Tryz.func148.trans (congrArg some (by kernel_rfl))
  f320 := Tryz.func149.trans (congrArg some (by kernel_rfl))
  f337 := Tryz.func155.trans (congrArg some (by kernel_rfl))
  f338 := Tryz.func156.trans (congrArg some (by kernel_rfl))
  t0 := Tryz.underlying0
  a0 := Tryz.isAgg0
  z0 := Tryz.sizeOf0
  v0 := Tryz.zeroValue0
  t2 := Tryz.underlying2
  a2 := Tryz.isAgg2
  z2 := Tryz.sizeOf2
  v2 := Tryz.zeroValue2
  t3 := Tryz.underlying3
  a3 := Tryz.isAgg3
  z3 := Tryz.sizeOf3
  v3 := Tryz.zeroValue3
  t4 := Tryz.underlying4
  a4 := Tryz.isAgg4
  z4 := Tryz.sizeOf4
  v4 := Tryz.zeroValue4
  t5 := Tryz.underlying5
  a5 := Tryz.isAgg5
  z5 := Tryz.sizeOf5
  v5 := Tryz.zeroValue5
  t9 := Tryz.underlying9
  a9 := Tryz.isAgg9
  z9 := Tryz.sizeOf9
  v9 := Tryz.zeroValue9
  t20 := Tryz.underlying20
  a20 := Tryz.isAgg20
  z20 := Tryz.sizeOf20
  v20 := Tryz.zeroValue20
  t37 := Tryz.underlying41
  a37 := Tryz.isAgg41
  z37 := Tryz.sizeOf41
  v37 := Tryz.zeroValue41
  t46 := Tryz.underlying137
  a46 := Tryz.isAgg137
  z46 := Tryz.sizeOf137
  v46 := Tryz.zeroValue137
  t51 := Tryz.underlying135
  a51 := Tryz.isAgg135
  z51 := Tryz.sizeOf135
  v51 := Tryz.zeroValue135
  t53 := Tryz.underlying127
  a53 := Tryz.isAgg127
  z53 := Tryz.sizeOf127
  v53 := Tryz.zeroValue127
  t171 := Tryz.underlying126
  a171 := Tryz.isAgg126
  z171 := Tryz.sizeOf126
  v171 := Tryz.zeroValue126
  t173 := Tryz.underlying130
  a173 := Tryz.isAgg130
  z173 := Tryz.sizeOf130
  v173 := Tryz.zeroValue130
  t212 := Tryz.underlying134
  a212 := Tryz.isAgg134
  z212 := Tryz.sizeOf134
  v212 := Tryz.zeroValue134
  t213 := Tryz.underlying136
  a213 := Tryz.isAgg136
  z213 := Tryz.sizeOf136
  t232 := Tryz.underlying147
  a232 := Tryz.isAgg147
  z232 := Tryz.sizeOf147
  v232 := Tryz.zeroValue147
  t233 := Tryz.underlying148
  a233 := Tryz.isAgg148
  z233 := Tryz.sizeOf148
  v233 := Tryz.zeroValue148
  g17 := by kernel_rfl
  g18 := by kernel_rfl
  g19 := by kernel_rfl
  i0 := by kernel_rfl
  i2 := by kernel_rfl
  i3 := by kernel_rfl
  i4 := by kernel_rfl
  i5 := by kernel_rfl
  i9 := by kernel_rfl
  i20 := by kernel_rfl
  i37 := by kernel_rfl
  i46 := by kernel_rfl
  i51 := by kernel_rfl
  i53 := by kernel_rfl
  i171 := by kernel_rfl
  i173 := by kernel_rfl
  i212 := by kernel_rfl
  i232 := by kernel_rfl
  i233 := by kernel_rfl
  m17 := by kernel_rfl
  m18 := by kernel_rfl
  m19 := by kernel_rfl }
def Tryz.layTrim_ren : Go.Shelf.Ren := ⟨fun | 162 => 98 | 232 => 119 | 227 => 120 | 234 => 121 | 236 => 122 | 228 => 132 | 271 => 133 | 151 => 134 | 120 => 142 | 197 => 143 | 152 => 144 | 260 => 150 | 137 => 151 | 119 => 152 | 224 => 153 | 225 => 154 | 217 => 157 | 266 => 158 | n => n, fun | 9 => 9 | 4 => 4 | 3 => 3 | 5 => 5 | 117 => 114 | 116 => 113 | 0 => 0 | 124 => 117 | 21 => 21 | 105 => 122 | 46 => 137 | 119 => 143 | 139 => 146 | 138 => 145 | n => n, fun | 3 => 1 | 4 => 2 | n => n⟩
theorem Tryz.layTrim : Go.Proofs.Lays.n162 Tryz.prog Tryz.layTrim_ren := {
  mixed := by kernel_rfl
  f119 := Tryz.func152.trans (congrArg some (by kernel_rfl))
  f120 := Tryz.func142.trans (congrArg some (by kernel_rfl))
  f137 := Tryz.func151.trans (congrArg some (by kernel_rfl))
  f151 := Tryz.func134.trans (congrArg some (by kernel_rfl))
  f152 := Tryz.func144.trans (congrArg some (by kernel_rfl))
  f162 := Tryz.func98.trans (congrArg some (by kernel_rfl))
  f197 := Tryz.func143.trans (congrArg some (by kernel_rfl))
  f217 := Tryz.func157.trans (congrArg some (by kernel_rfl))
  f224 := Tryz.func153.trans (congrArg some (by kernel_rfl))
  f225 := Tryz.func154.trans (congrArg some (by kernel_rfl))
  f227 := Tryz.func120.trans (congrArg some (by kernel_rfl))
  f228 := Tryz.func132.trans (congrArg some (by kernel_rfl))
  f232 := Tryz.func119.trans (congrArg some (by kernel_rfl))
  f234 := Tryz.func121.trans (congrArg some (by kernel_rfl))
  f236 := Tryz.func122.trans (congrArg some (by kernel_rfl))
  f260 := Tryz.func150.trans (congrArg some (by kernel_rfl))
  f266 := Tryz.func158.trans (congrArg some (by kernel_rfl))
  f271 := Tryz.func133.trans (congrArg some (by kernel_rfl))
  t0 := Tryz.underlying0
  a0 := Tryz.isAgg0
  z0 := Tryz.sizeOf0
  v0 := Tryz.zeroValue0
  t3 := Tryz.underlying3
  a3 := Tryz.isAgg3
  z3 := Tryz.sizeOf3
  v3 := Tryz.zeroValue3
  t4 := Tryz.underlying4
  a4 := Tryz.isAgg4
  z4 := Tryz.sizeOf4
  v4 := Tryz.zeroValue4
  t5 := Tryz.underlying5
  a5 := Tryz.isAgg5
  z5 := Tryz.sizeOf5
  v5 := Tryz.zeroValue5
  t9 := Tryz.underlying9
  a9 := Tryz.isAgg9
  z9 := Tryz.sizeOf9
  v9 := Tryz.zeroValue9
  t21 := Tryz.underlying21
  a21 := Tryz.isAgg21
  z21 := Tryz.sizeOf21
  v21 := Tryz.zeroValue21
  t46 := Tryz.underlying137
  a46 := Tryz.isAgg137
  z46 := Tryz.sizeOf137
  v46 := Tryz.zeroValue137
  t105 := Tryz.underlying122
  a105 := Tryz.isAgg122
  z105 := Tryz.sizeOf122
  v105 := Tryz.zeroValue122
  t116 := Tryz.underlying113
  a116 := Tryz.isAgg113
  z116 := Tryz.sizeOf113
  t117 := Tryz.underlying114
  a117 := Tryz.isAgg114
  z117 := Tryz.sizeOf114
  v117 := Tryz.zeroValue114
  t119 := Tryz.underlying143
  a119 := Tryz.isAgg143
  z119 := Tryz.sizeOf143
  t124 := Tryz.underlying117
  a124 := Tryz.isAgg117
  z124 := Tryz.sizeOf117
  v124 := Tryz.zeroValue117
  t138 := Tryz.underlying145
  a138 := Tryz.isAgg145
  z138 := Tryz.sizeOf145
  v138 := Tryz.zeroValue145
  t139 := Tryz.underlying146
  a139 := Tryz.isAgg146
  z139 := Tryz.sizeOf146
  v139 := Tryz.zeroValue146
  g3 := by kernel_rfl
  g4 := by kernel_rfl }
end Go.Proofs
namespace Go.Proofs.YtmohefgdpddldaaGreatDoor
open Go.RowKit
open W (dgB smB many numB noBl lettersB allowB)

open W (allowP)
end Go.Proofs.YtmohefgdpddldaaGreatDoor
namespace Go.Proofs.YtmohefgdpddldaaGreatDoor
open Go.RowKit
open W (dgB smB many numB noBl lettersB allowB allowP)

/-- A token, as a value. -/
def tokV (k : Int) (s : ByteArray) (lo hi pos : Int) : Value := .agg #[.int .i64 k, .string s, .int .i64 lo, .int .i64 hi, .int .i64 pos]
end Go.Proofs.YtmohefgdpddldaaGreatDoor
namespace Go.Proofs.YtmohefgdpddldaaGreatDoor
open Go.RowKit
open E (okb encB flat offs)
open W (Tk lexS)

/-- What a reader goes through: a text, its characters, their places. -/
structure Cx where
  At : Option Addr
  nt : Nat
  ct : Nat
  Bs : List Int
  Ac : Option Addr
  nc : Nat
  cc : Nat
  L : List Int
  Ap : Option Addr
  np : Nat
  cp : Nat
  P : List Int
/-- Where a character begins. -/
def plc (L : List Int) (i : Nat) : Nat := (flat (L.take i)).length
structure Cx.Ok (X : Cx) : Prop where
  ok : X.L.all okb = true
  flat : X.Bs = flat X.L
  few : X.Bs.length ≤ 3000
  pl : X.P = offs 0 X.L ++ [(X.Bs.length : Int)]
theorem offs_at (L : List Int) (k i : Nat) (hi : i < L.length) : (offs k L)[i]? = some ((k + plc L i : Nat) : Int) := by
  induction L generalizing k i with
  | nil => simp at hi
  | cons c t ih =>
    rw [E.offs]
    cases i with
    | zero => simp [plc, E.flat]
    | succ i =>
      simp only [List.length_cons] at hi
      rw [List.getElem?_cons_succ, ih _ i (by omega)]
      simp [plc, E.flat]; omega
theorem Cx.Ok.at_ {X : Cx} (h : X.Ok) {i : Nat} (hi : i ≤ X.L.length) : X.P[i]? = some ((plc X.L i : Nat) : Int) := by
  rw [h.pl]
  have hl := E.offs_len 0 X.L
  rcases Nat.lt_or_ge i X.L.length with h1 | h1
  · rw [List.getElem?_append_left (by omega), offs_at _ _ _ h1, Nat.zero_add]
  · have e : i = X.L.length := by omega
    rw [List.getElem?_append_right (by omega), hl, e, Nat.sub_self, h.flat]
    simp [plc]
theorem plc_le (L : List Int) (i : Nat) : plc L i ≤ (flat L).length := E.flat_mono L i
/-- Tokens with their places. -/
def Cx.put (X : Cx) (t : Tk) : Tok := ⟨t.kind, t.text, t.low, t.high, plc X.L t.at_⟩
/-- Only the reader's block b and what lies from block b + 4 on may have turned. -/
structure Fr (b : Nat) (w w' : World) : Prop where
  os : w'.os = w.os
  tape : w'.tape = w.tape
  output : w'.output = w.output
  size : w.heap.size ≤ w'.heap.size
  block : ∀ i, i < b + 4 → i ≠ b → w'.heap[i]? = w.heap[i]?
theorem Fr.refl (b : Nat) (w : World) : Fr b w w := ⟨rfl, rfl, rfl, Nat.le_refl _, fun _ _ _ => rfl⟩
theorem Fr.trans {b : Nat} {a c d : World} (h : Fr b a c) (k : Fr b c d) : Fr b a d :=
  ⟨k.os.trans h.os, k.tape.trans h.tape, k.output.trans h.output, Nat.le_trans h.size k.size, fun i hi hn => (k.block i hi hn).trans (h.block i hi hn)⟩
theorem Fr.drewN {b : Nat} {a c : World} (h : Fr b a c) (q : Nat) : Fr b a (c.drewN q) := ⟨h.os, h.tape, h.output, h.size, h.block⟩
theorem Fr.set {b : Nat} {a c : World} (h : Fr b a c) (o : Nat) (v : Value) : Fr b a (c.setCell ⟨b, o, none⟩ v) :=
  h.trans ⟨rfl, rfl, rfl, by simp [World.setCell], fun i _ hi => Below.heap_setCell _ _ _ _ hi⟩
theorem Fr.below {b : Nat} {w w' : World} (h : Below w.heap.size w w') (hs : b + 4 ≤ w.heap.size) : Fr b w w' := ⟨h.os, h.tape, h.output, h.size, fun i hi _ => h.block i (by omega)⟩
section
variable {X : Cx} {b : Nat} {w w' : World} {p o : Nat} {tv : Value} {ts : List Tk}
end
end Go.Proofs.YtmohefgdpddldaaGreatDoor
namespace Go.Proofs.YtmohefgdpddldaaGreatDoor
open Go.RowKit
open W (Tk lexS)

section
variable {X : Cx} {b : Nat} {w : World} {p o : Nat} {tv : Value} {ts : List Tk}
end
end Go.Proofs.YtmohefgdpddldaaGreatDoor
namespace Go.Proofs.YtmohefgdpddldaaGreatDoor
open Go.RowKit
open W (Tk lexS)

theorem info_tok : (Tryz.prog.info? 94).map (fun i => (i.zero, i.size, i.bytes)) = some (some (.agg #[.int .i64 0, .string { data := #[] }, .int .i64 0, .int .i64 0, .int .i64 0]), 5, 48) := by kernel_rfl
/-- The cells that put loads. -/
def HeldT (b N : Nat) (tv : Value) (k : Int) (s : ByteArray) (lo hi pl : Int) (w : World) : Prop :=
  w.cell? ⟨b, 5, none⟩ = some tv ∧ w.cell? ⟨N, 0, none⟩ = some (.int .i64 k) ∧ w.cell? ⟨N, 1, none⟩ = some (.string s) ∧ w.cell? ⟨N, 2, none⟩ = some (.int .i64 lo) ∧ w.cell? ⟨N, 3, none⟩ = some (.int .i64 hi) ∧ w.cell? ⟨N, 4, none⟩ = some (.int .i64 pl)
theorem HeldT.keep {b N : Nat} {tv : Value} {k lo hi pl : Int} {s : ByteArray} {w w' : World} (h : HeldT b N tv k s lo hi pl w) (hb : w'.heap[b]? = w.heap[b]?) (hN : w'.heap[N]? = w.heap[N]?) : HeldT b N tv k s lo hi pl w' := by
  obtain ⟨h0, h1, h2, h3, h4, h5⟩ := h
  exact ⟨(World.cell?_of_block (a := ⟨b, 5, none⟩) hb).trans h0, (World.cell?_of_block (a := ⟨N, 0, none⟩) hN).trans h1, (World.cell?_of_block (a := ⟨N, 1, none⟩) hN).trans h2, (World.cell?_of_block (a := ⟨N, 2, none⟩) hN).trans h3, (World.cell?_of_block (a := ⟨N, 3, none⟩) hN).trans h4, (World.cell?_of_block (a := ⟨N, 4, none⟩) hN).trans h5⟩
section
variable {X : Cx} {b : Nat} {w : World} {p o : Nat} {tv : Value} {ts : List Tk}
end
end Go.Proofs.YtmohefgdpddldaaGreatDoor
namespace Go.Proofs.YtmohefgdpddldaaGreatDoor
open Go.RowKit
open W (Tk St lexS opn setS numT numB nameS many nmB ltB)

section
variable {X : Cx} {b : Nat} {w : World} {p o : Nat} {tv : Value} {ts : List Tk}
end
end Go.Proofs.YtmohefgdpddldaaGreatDoor
namespace Go.Proofs.YtmohefgdpddldaaGreatDoor
open Go.RowKit
open W (Tk St lexS opn nameS many nmB ltB)

section
variable {X : Cx} {b : Nat} {w : World} {p o : Nat} {tv : Value} {ts : List Tk}
end
end Go.Proofs.YtmohefgdpddldaaGreatDoor
namespace Go.Proofs.YtmohefgdpddldaaGreatDoor
open Go.RowKit
open Q (isC plainB digV R numS uS escS readS)

/-- Only block b may have turned. -/
structure Only (b : Nat) (w w' : World) : Prop where
  os : w'.os = w.os
  tape : w'.tape = w.tape
  output : w'.output = w.output
  size : w'.heap.size = w.heap.size
  block : ∀ i, i ≠ b → w'.heap[i]? = w.heap[i]?
theorem Only.refl (b : Nat) (w : World) : Only b w w := ⟨rfl, rfl, rfl, rfl, fun _ _ => rfl⟩
theorem Only.trans {b : Nat} {a c d : World} (h : Only b a c) (k : Only b c d) : Only b a d :=
  ⟨k.os.trans h.os, k.tape.trans h.tape, k.output.trans h.output, k.size.trans h.size, fun i hi => (k.block i hi).trans (h.block i hi)⟩
theorem Only.drewN {b : Nat} {a c : World} (h : Only b a c) (q : Nat) : Only b a (c.drewN q) := ⟨h.os, h.tape, h.output, h.size, h.block⟩
theorem Only.set {b : Nat} {a c : World} (h : Only b a c) (o : Nat) (v : Value) : Only b a (c.setCell ⟨b, o, none⟩ v) :=
  h.trans ⟨rfl, rfl, rfl, by simp [World.setCell], fun i hi => Below.heap_setCell _ _ _ _ hi⟩
section
variable {w w' : World} {b n c p : Nat} {A : Option Addr} {L : List Int}
end
theorem drop_at {L : List Int} {p : Nat} {x : Int} (h : L[p]? = some x) : L.drop p = x :: L.drop (p + 1) := by
  obtain ⟨hp, e⟩ := List.getElem?_eq_some_iff.1 h
  rw [List.drop_eq_getElem_cons hp, e]
end Go.Proofs.YtmohefgdpddldaaGreatDoor
namespace Go.Proofs.YtmohefgdpddldaaGreatDoor
open Go.RowKit
open Q (isC plainB digV R numS uS escS readS)

end Go.Proofs.YtmohefgdpddldaaGreatDoor
namespace Go.Proofs.YtmohefgdpddldaaGreatDoor
open Go.RowKit
open Q (isC plainB digV R numS uS escS readS)

/-- Four variables that a closure holds: a place, and three results. -/
structure Four (w : World) (b0 b1 b2 b3 : Nat) (at_ v1 v2 v3 : Int) : Prop where
  k0 : w.heap[b0]? = some (.cells #[.int .i64 at_] 3 (0, 0))
  k1 : w.heap[b1]? = some (.cells #[.int .i64 v1] 3 (0, 0))
  k2 : w.heap[b2]? = some (.cells #[.int .i64 v2] 3 (0, 0))
  k3 : w.heap[b3]? = some (.cells #[.int .i64 v3] 29 (0, 0))
  d1 : b1 = b0 + 1
  d2 : b2 = b0 + 2
  d3 : b3 = b0 + 3
theorem Four.lt {w : World} {b0 b1 b2 b3 : Nat} {at_ v1 v2 v3 : Int} (h : Four w b0 b1 b2 b3 at_ v1 v2 v3) : b3 < w.heap.size := by
  rcases Nat.lt_or_ge b3 w.heap.size with hl | hl
  · exact hl
  · have := h.k3; rw [Array.getElem?_eq_none hl] at this; cases this
theorem Four.on {w w' : World} {b0 b1 b2 b3 : Nat} {at_ v1 v2 v3 : Int} (h : Four w b0 b1 b2 b3 at_ v1 v2 v3) (hb : Below w.heap.size w w') : Four w' b0 b1 b2 b3 at_ v1 v2 v3 := by
  have hl := h.lt
  have e1 := h.d1; have e2 := h.d2; have e3 := h.d3
  exact ⟨(hb.block _ (by omega)).trans h.k0, (hb.block _ (by omega)).trans h.k1, (hb.block _ (by omega)).trans h.k2, (hb.block _ (by omega)).trans h.k3, e1, e2, e3⟩
theorem Four.drew {w : World} {b0 b1 b2 b3 : Nat} {at_ v1 v2 v3 : Int} (h : Four w b0 b1 b2 b3 at_ v1 v2 v3) : Four w.drew b0 b1 b2 b3 at_ v1 v2 v3 := ⟨h.k0, h.k1, h.k2, h.k3, h.d1, h.d2, h.d3⟩
end Go.Proofs.YtmohefgdpddldaaGreatDoor
namespace Go.Proofs.YtmohefgdpddldaaGreatDoor
open Go.RowKit
open Q (isC plainB digV R numS uS escS readS)

theorem Four.cells {w : World} {b0 b1 b2 b3 : Nat} {at_ v1 v2 v3 : Int} (h : Four w b0 b1 b2 b3 at_ v1 v2 v3) :
    w.cell? ⟨b0, 0, none⟩ = some (.int .i64 at_) ∧ w.cell? ⟨b1, 0, none⟩ = some (.int .i64 v1) ∧ w.cell? ⟨b2, 0, none⟩ = some (.int .i64 v2) ∧ w.cell? ⟨b3, 0, none⟩ = some (.int .i64 v3) ∧ w.frozen? ⟨b1, 0, none⟩ = false ∧ w.frozen? ⟨b2, 0, none⟩ = false ∧ w.frozen? ⟨b3, 0, none⟩ = false := by
  refine ⟨?_, ?_, ?_, ?_, frozen_of_row _ _ _ _ _ h.k1, frozen_of_row _ _ _ _ _ h.k2, frozen_of_row _ _ _ _ _ h.k3⟩
  · rw [cell_of_row _ _ _ _ _ _ h.k0]; rfl
  · rw [cell_of_row _ _ _ _ _ _ h.k1]; rfl
  · rw [cell_of_row _ _ _ _ _ _ h.k2]; rfl
  · rw [cell_of_row _ _ _ _ _ _ h.k3]; rfl
theorem Four.only {w w' : World} {b0 b1 b2 b3 b : Nat} {at_ v1 v2 v3 : Int} (h : Four w b0 b1 b2 b3 at_ v1 v2 v3) (ho : Only b w w') (hb : b3 < b) : Four w' b0 b1 b2 b3 at_ v1 v2 v3 := by
  have e1 := h.d1; have e2 := h.d2; have e3 := h.d3
  exact ⟨(ho.block _ (by omega)).trans h.k0, (ho.block _ (by omega)).trans h.k1, (ho.block _ (by omega)).trans h.k2, (ho.block _ (by omega)).trans h.k3, e1, e2, e3⟩
theorem Only.below {w w' : World} {b B : Nat} (h : Only b w w') (hb : B ≤ b) : Below B w w' := ⟨h.os, h.tape, h.output, Nat.le_of_eq h.size.symm, fun k hk => h.block k (by omega)⟩
end Go.Proofs.YtmohefgdpddldaaGreatDoor
namespace Go.Proofs.YtmohefgdpddldaaGreatDoor
open Go.RowKit
open W (Tk St C lexS opn chS hiS charsS markB)
open Q (R readS numS uS escS)

def shR (d : Nat) : R → R
  | .ok c n => .ok c (n + d)
  | .bad e => .bad e
theorem num_sh (d : Nat) : ∀ (l : List Int) (k : Nat) (v : Int) (p : Nat), numS l k v (p + d) = shR d (numS l k v p)
  | [], _, _, _ => rfl
  | c :: t, k, v, p => by
    rw [numS, numS]
    split
    · simp [shR]; omega
    · split
      · rfl
      · rw [show p + d + 1 = p + 1 + d by omega, num_sh d t]
theorem read_sh (d : Nat) (l : List Int) (p : Nat) : readS l (p + d) = shR d (readS l p) := by
  cases l with
  | nil => rfl
  | cons x t =>
    rw [readS, readS]
    split
    · cases t with
      | nil => rfl
      | cons y u =>
        rw [escS, escS]
        split
        · cases u with
          | nil => rfl
          | cons z o =>
            rw [uS, uS]
            split
            · rw [show p + d + 1 + 1 + 1 = p + 1 + 1 + 1 + d by omega, num_sh]
            · rfl
        · split
          · simp [shR]; omega
          · split
            · simp [shR]; omega
            · split
              · simp [shR]; omega
              · rfl
    · split
      · simp [shR]; omega
      · rfl
section
variable {X : Cx} {b : Nat} {w : World} {p o : Nat} {tv : Value} {ts : List Tk}
end
end Go.Proofs.YtmohefgdpddldaaGreatDoor
namespace Go.Proofs.YtmohefgdpddldaaGreatDoor
open Go.RowKit
open W (Tk St C lexS opn chS hiS charsS markB)

section
variable {X : Cx} {b : Nat} {w : World} {p o : Nat} {tv : Value} {ts : List Tk}
end
end Go.Proofs.YtmohefgdpddldaaGreatDoor
namespace Go.Proofs.YtmohefgdpddldaaGreatDoor
namespace W
open E (okb encB flat)

end W
end Go.Proofs.YtmohefgdpddldaaGreatDoor
namespace Go.Proofs.YtmohefgdpddldaaGreatDoor
open Go.RowKit

theorem byt_of {l : List Int} (h : (l.all fun x => decide (0 ≤ x ∧ x < 256)) = true) : Byt l := fun x hx => by
  have := List.all_eq_true.1 h x hx; simpa using this
theorem rd_lit_m (w : World) (fr : Nat × Nat) (k : IntKind) (L : List Int) (t : TypeId) (cs : Array Value) (hc : cs.toList = L.map (Value.int k)) (hm : L.length ≤ 1099511627776) :
    RdK k (w.alloc (.cells cs t fr)) (w.alloc (.cells cs t fr)).heap.size (some ⟨w.heap.size, 0, none⟩) L.length L.length L :=
  ⟨rfl, Nat.le_refl _, by unfold maxLen; omega, fun _ => ⟨w.heap.size, 0, rfl, by simp, fun j u hu => by
    rw [World.cell?_alloc_mark, Nat.zero_add]
    have : cs.toList[j]? = some (.int k u) := by rw [hc]; simp [hu]
    simpa using this⟩⟩
end Go.Proofs.YtmohefgdpddldaaGreatDoor
namespace Go.Proofs.YtmohefgdpddldaaGreatDoor
open Go.RowKit
open E (okb encB Fst)

/-- The library's two tables lie as its text lays them. -/
def Tabs (w : World) : Prop := Lib.Utf8Tabs 1 2 w
theorem Tabs.on {w w' : World} (h : Tabs w) (hb : Below w.heap.size w w') : Tabs w' :=
  ⟨fun c hc => by
    have h1 := h.1 c hc
    exact (hb.cell (p := ⟨_, c, none⟩) (klt_of_cell h1)).trans h1, fun i hi => by
    have h1 := (h.2 i hi).1
    have h2 := (h.2 i hi).2
    exact ⟨(hb.cell (p := ⟨_, 2 * i, none⟩) (klt_of_cell h1)).trans h1, (hb.cell (p := ⟨_, 2 * i + 1, none⟩) (klt_of_cell h2)).trans h2⟩⟩
/-- What the bytes L begin with is handed back. -/
def FstP (w : World) (L : List Int) (e : Ending) (w' : World) : Prop := ∃ (c : Int) (k : Nat), e = .returned (.tuple #[.int .i64 c, .int .i64 k]) ∧ Fst L c k ∧ Below w.heap.size w w'
end Go.Proofs.YtmohefgdpddldaaGreatDoor
namespace Go.Proofs.YtmohefgdpddldaaGreatDoor
open Go.RowKit
open E (okb encB Fst Upto Dead DecIs offs)

/-- What Decode leaves. -/
def DecP (w : World) (L : List Int) (e : Ending) (w' : World) : Prop := ∃ (A1 A2 : Option Addr) (n1 c1 n2 c2 : Nat) (cs ats : List Int) (x er : Int),
  e = .returned (.tuple #[.slice A1 n1 c1, .slice A2 n2 c2, .int .i64 x, .int .i64 er]) ∧ RdK .i64 w' w'.heap.size A1 n1 c1 cs ∧ RdK .i64 w' w'.heap.size A2 n2 c2 ats ∧ DecIs L cs ats x er ∧ Below w.heap.size w w'
theorem decP_ok {w w' : World} {L cs : List Int} {v1 v2 : Value} {n1 n2 : Nat} (hl : L.length ≤ 3000) (hu : Upto L L.length cs) (h1 : OwnK .i64 w' w.heap.size 3 v1 n1 cs) (h2 : OwnK .i64 w' w.heap.size 3 v2 n2 (offs 0 cs ++ [(L.length : Int)])) (hb : Below w.heap.size w w') :
    DecP w L (.returned (.tuple #[v1, v2, .int .i64 (-1), .int .i64 0])) w' := by
  obtain ⟨A1, c1, rfl, r1⟩ := h1.rd
  obtain ⟨A2, c2, rfl, r2⟩ := h2.rd
  exact ⟨A1, A2, n1, c1, n2, c2, cs, _, _, _, rfl, r1, r2, .ok cs hl hu, hb⟩
theorem decP_bad {w w' : World} {L cs : List Int} {p : Nat} (hl : L.length ≤ 3000) (hp : p < L.length) (hu : Upto L p cs) (hd : Dead L p) (hb : Below w.heap.size w w') :
    DecP w L (.returned (.tuple #[.slice none 0 0, .slice none 0 0, .int .i64 p, .int .i64 3])) w' :=
  ⟨none, none, 0, 0, 0, 0, [], [], _, _, rfl, RdK.nil _ _ _, RdK.nil _ _ _, .bad p cs hl hp hu hd, hb⟩
theorem decP_long {w : World} {L : List Int} (hl : 3000 < L.length) : DecP w L (.returned (.tuple #[.slice none 0 0, .slice none 0 0, .int .i64 0, .int .i64 2])) w :=
  ⟨none, none, 0, 0, 0, 0, [], [], _, _, rfl, RdK.nil _ _ _, RdK.nil _ _ _, .long hl, Below.refl _ _⟩
/-- What stands at the head of each round: the characters so far, their places. -/
structure DecR (w : World) (L : List Int) (vc va : Value) (p : Nat) (cs : List Int) (wx : World) : Prop where
  up : Upto L p cs
  c : OwnK .i64 wx w.heap.size 3 vc cs.length cs
  a : OwnK .i64 wx w.heap.size 3 va cs.length (offs 0 cs)
  apt : Apt vc va
  b : Below w.heap.size w wx
theorem DecR.start (w : World) (L : List Int) : DecR w L (.slice none 0 0) (.slice none 0 0) 0 [] w :=
  ⟨Upto.start L, OwnK.nil _ _ _ _, OwnK.nil _ _ _ _, apt_nil _, Below.refl _ _⟩
theorem DecR.on {w wx w' : World} {L cs : List Int} {vc va : Value} {p : Nat} (h : DecR w L vc va p cs wx) (hb : Below wx.heap.size wx w') : DecR w L vc va p cs w' :=
  ⟨h.up, h.c.below hb, h.a.below hb, h.apt, h.b.trans (hb.mono h.b.size)⟩
theorem decR_c {w w3 w4 : World} {L cs : List Int} {vc va v4 : Value} {p : Nat} {d : Int} {o : Obj} (h : DecR w L vc va p cs w3) (ho : OwnK .i64 w4 w.heap.size 3 v4 (cs.length + 1) (cs ++ [d])) (hg : (w3.alloc o).grownBy w4 vc.ownBlock) (hv : v4.ownBlock = vc.ownBlock ∨ v4.ownBlock = some (w3.heap.size + 1)) :
    OwnK .i64 w4 w.heap.size 3 v4 (cs.length + 1) (cs ++ [d]) ∧ OwnK .i64 w4 w.heap.size 3 va cs.length (offs 0 cs) ∧ Apt v4 va ∧ Below w.heap.size w w4 := by
  have ha := (h.a.alloc o).block
  have hc := (h.c.alloc o).block
  refine ⟨ho, (h.a.alloc o).kept hg ?_, ?_, below_grown (h.b.alloc (by have := h.b.size; omega) o) hg fun i hi => (hc i hi).1⟩
  · rcases h.apt with e | e
    · cases hva : va.ownBlock with
      | none => exact Or.inl rfl
      | some i => exact Or.inr (by rw [e]; simp)
    · exact Or.inr (Ne.symm e)
  · rcases hv with e | e
    · rcases h.apt with e' | e'
      · exact Or.inl (e.trans e')
      · exact Or.inr (by rw [e]; exact e')
    · refine Or.inr fun e' => ?_
      have := (ha _ (e'.symm.trans e)).2
      simp at this
theorem decR_a {w w4 w5 : World} {L cs : List Int} {va v4 v5 : Value} {p k : Nat} {d : Int} {o : Obj} (h : OwnK .i64 w4 w.heap.size 3 v4 (cs.length + 1) (cs ++ [d]) ∧ OwnK .i64 w4 w.heap.size 3 va cs.length (offs 0 cs) ∧ Apt v4 va ∧ Below w.heap.size w w4)
    (hu : Upto L (p + k) (cs ++ [d])) (hO : offs 0 (cs ++ [d]) = offs 0 cs ++ [(p : Int)])
    (ho : OwnK .i64 w5 w.heap.size 3 v5 (cs.length + 1) (offs 0 cs ++ [(p : Int)])) (hg : (w4.alloc o).grownBy w5 va.ownBlock) (hv : v5.ownBlock = va.ownBlock ∨ v5.ownBlock = some (w4.heap.size + 1)) :
    DecR w L v4 v5 (p + k) (cs ++ [d]) w5 := by
  obtain ⟨h1, h2, h3, h4⟩ := h
  have ha := (h2.alloc o).block
  have hc := (h1.alloc o).block
  refine ⟨hu, ?_, ?_, ?_, below_grown (h4.alloc (by have := h4.size; omega) o) hg fun i hi => (ha i hi).1⟩
  · rw [List.length_append]; exact (h1.alloc o).kept hg h3
  · rw [List.length_append, hO]; exact ho
  · rcases hv with e | e
    · rcases h3 with e' | e'
      · exact Or.inl e'
      · exact Or.inr (by rw [e]; exact e')
    · cases hv4 : v4.ownBlock with
      | none => exact Or.inl hv4
      | some i =>
        refine Or.inr fun e' => ?_
        have := (hc i hv4).2
        rw [hv4, e] at e'
        injection e' with e'
        simp at this
        omega
theorem decR_end {w wr w5 : World} {L cs : List Int} {vc va v5 : Value} {p : Nat} {o : Obj} (h : DecR w L vc va p cs wr) (hlen : L.length = p) (hl : p ≤ 3000) (hu : Upto L L.length cs) (ho : OwnK .i64 w5 w.heap.size 3 v5 (cs.length + 1) (offs 0 cs ++ [(p : Int)])) (hg : (wr.alloc o).grownBy w5 va.ownBlock) :
    DecP w L (.returned (.tuple #[vc, v5, .int .i64 (-1), .int .i64 0])) w5 := by
  rw [← hlen] at ho
  exact decP_ok (by rw [hlen]; exact hl) hu ((h.c.alloc o).kept hg h.apt) ho (below_grown (h.b.alloc (by have := h.b.size; omega) o) hg fun i hi => ((h.a.alloc o).block i hi).1)
end Go.Proofs.YtmohefgdpddldaaGreatDoor
namespace Go.Proofs.YtmohefgdpddldaaGreatDoor
open Go.RowKit
open W (Tk St C lexS opn noLf many noteS allowB allowP)

/-- The cells that note loads. -/
def HeldN (b b2 off2 p t : Nat) (v0 v2 : Value) (plA plB : Nat) (w : World) : Prop :=
  w.cell? ⟨b, 0, none⟩ = some v0 ∧ w.cell? ⟨b, 2, none⟩ = some v2 ∧ w.cell? ⟨b, 3, none⟩ = some (.int .i64 p) ∧ w.cell? ⟨b2, off2 + p, none⟩ = some (.int .i64 plA) ∧ w.cell? ⟨b2, off2 + t, none⟩ = some (.int .i64 plB)
theorem HeldN.push {b b2 off2 p t : Nat} {v0 v2 : Value} {plA plB : Nat} {w : World} (h : HeldN b b2 off2 p t v0 v2 plA plB w) (o : Obj) : HeldN b b2 off2 p t v0 v2 plA plB (w.alloc o) := by
  obtain ⟨h0, h1, h2, h3, h4⟩ := h
  have hk : ∀ {a : Addr} {v : Value}, w.cell? a = some v → (w.alloc o).cell? a = some v := fun {a} {v} hc => ((kbelow_push w o).cell (klt_of_cell hc)).trans hc
  exact ⟨hk h0, hk h1, hk h2, hk h3, hk h4⟩
section
variable {X : Cx} {b : Nat} {w : World} {p o : Nat} {tv : Value} {ts : List Tk}
end
end Go.Proofs.YtmohefgdpddldaaGreatDoor
namespace Go.Proofs.YtmohefgdpddldaaGreatDoor
open Go.RowKit
open W (Tk St C lexS opn dgB signK outS inS stepS lastK nameS setS numT noteS charsS)

section
variable {X : Cx} {b : Nat} {w : World} {p o : Nat} {tv : Value} {ts : List Tk}
end
end Go.Proofs.YtmohefgdpddldaaGreatDoor
namespace Go.Proofs.YtmohefgdpddldaaGreatDoor
open Go.RowKit
open W (Tk St C lexS opn dgB signK outS inS stepS lastK nameS setS numT noteS charsS)

section
variable {X : Cx} {b : Nat} {w : World} {p o : Nat} {tv : Value} {ts : List Tk}
end
end Go.Proofs.YtmohefgdpddldaaGreatDoor
namespace Go.Proofs.YtmohefgdpddldaaGreatDoor
open Go.RowKit

/-- Three results that a closure holds. -/
structure Tri (w : World) (b : Nat) (tv : Value) (v2 v3 : Int) : Prop where
  k1 : w.heap[b + 1]? = some (.cells #[tv] 38 (0, 0))
  k2 : w.heap[b + 2]? = some (.cells #[.int .i64 v2] 3 (0, 0))
  k3 : w.heap[b + 3]? = some (.cells #[.int .i64 v3] 29 (0, 0))
section
variable {w w' : World} {b : Nat} {tv : Value} {v2 v3 : Int}
theorem Tri.lt (h : Tri w b tv v2 v3) : b + 3 < w.heap.size := by
  rcases Nat.lt_or_ge (b + 3) w.heap.size with hl | hl
  · exact hl
  · have := h.k3; rw [Array.getElem?_eq_none hl] at this; cases this
theorem Tri.fr (h : Tri w b tv v2 v3) (hf : Fr b w w') : Tri w' b tv v2 v3 :=
  ⟨(hf.block _ (by omega) (by omega)).trans h.k1, (hf.block _ (by omega) (by omega)).trans h.k2, (hf.block _ (by omega) (by omega)).trans h.k3⟩
theorem Tri.below (h : Tri w b tv v2 v3) (hb : Below w.heap.size w w') : Tri w' b tv v2 v3 := by
  have := h.lt
  exact ⟨(hb.block _ (by omega)).trans h.k1, (hb.block _ (by omega)).trans h.k2, (hb.block _ (by omega)).trans h.k3⟩
theorem Tri.drewN (h : Tri w b tv v2 v3) (q : Nat) : Tri (w.drewN q) b tv v2 v3 := ⟨h.k1, h.k2, h.k3⟩
theorem Tri.cells (h : Tri w b tv v2 v3) : w.cell? ⟨b + 1, 0, none⟩ = some tv ∧ w.cell? ⟨b + 2, 0, none⟩ = some (.int .i64 v2) ∧ w.cell? ⟨b + 3, 0, none⟩ = some (.int .i64 v3) ∧ w.frozen? ⟨b + 1, 0, none⟩ = false ∧ w.frozen? ⟨b + 2, 0, none⟩ = false ∧ w.frozen? ⟨b + 3, 0, none⟩ = false := by
  refine ⟨?_, ?_, ?_, frozen_of_row _ _ _ _ _ h.k1, frozen_of_row _ _ _ _ _ h.k2, frozen_of_row _ _ _ _ _ h.k3⟩
  · rw [cell_of_row _ _ _ _ _ _ h.k1]; rfl
  · rw [cell_of_row _ _ _ _ _ _ h.k2]; rfl
  · rw [cell_of_row _ _ _ _ _ _ h.k3]; rfl
theorem Tri.put (h : Tri w b tv v2 v3) (x1 : Value) (x2 x3 : Int) : Tri (((w.setCell ⟨b + 1, 0, none⟩ x1).setCell ⟨b + 2, 0, none⟩ (.int .i64 x2)).setCell ⟨b + 3, 0, none⟩ (.int .i64 x3)) b x1 x2 x3 := by
  refine ⟨?_, ?_, ?_⟩
  · rw [heap_setCell_other _ _ _ _ (by show b + 1 ≠ b + 3; omega), heap_setCell_other _ _ _ _ (by show b + 1 ≠ b + 2; omega), heap_setCell_same _ _ _ _ _ _ h.k1]; rfl
  · rw [heap_setCell_other _ _ _ _ (by show b + 2 ≠ b + 3; omega), heap_setCell_same _ _ _ _ _ _ ((heap_setCell_other _ _ _ _ (by show b + 2 ≠ b + 1; omega)).trans h.k2)]; rfl
  · rw [heap_setCell_same _ _ _ _ _ _ ((heap_setCell_other _ _ _ _ (by show b + 3 ≠ b + 2; omega)).trans ((heap_setCell_other _ _ _ _ (by show b + 3 ≠ b + 1; omega)).trans h.k3))]; rfl
end
end Go.Proofs.YtmohefgdpddldaaGreatDoor
namespace Go.Proofs.YtmohefgdpddldaaGreatDoor
open Go.RowKit
open W (Tk St C Lx lexS opn outS inS stepS lastK)

theorem opn_le (k : Int) (o : Nat) : opn k o ≤ o + 1 := by unfold W.opn; split <;> (try split) <;> omega
theorem Fr.all {b : Nat} {w W0 w1 : World} (hb : Below b w W0) (hf : Fr b W0 w1) : Below b w w1 :=
  ⟨hf.os.trans hb.os, hf.tape.trans hb.tape, hf.output.trans hb.output, Nat.le_trans hb.size hf.size, fun i hi => (hf.block i (by omega) (by omega)).trans (hb.block i hi)⟩
end Go.Proofs.YtmohefgdpddldaaGreatDoor
namespace Go.Proofs.YtmohefgdpddldaaGreatDoor
open Go.RowKit
open E (okb encB flat offs DecIs Upto)
open W (Tk Lx lexS)

/-- Tokens with their places among bytes. -/
def placed (L : List Int) (ts : List Tk) : List Tok := ts.map fun t => ⟨t.kind, t.text, t.low, t.high, plc L t.at_⟩
/-- What a text's tokens come to: the tokens, or the place and the error. -/
inductive TokIs (Bs : List Int) : List Tok → Int → Int → Prop where
  | dec (cs ats : List Int) (x er : Int) (h : DecIs Bs cs ats x er) (he : er ≠ 0) : TokIs Bs [] x er
  | bad (cs ats : List Int) (x : Int) (h : DecIs Bs cs ats x 0) (k : Nat) (er : Int) (hl : lexS cs 0 0 [] = .bad k er) : TokIs Bs [] (plc cs k : Nat) er
  | ok (cs ats : List Int) (x : Int) (h : DecIs Bs cs ats x 0) (ts : List Tk) (hl : lexS cs 0 0 [] = .ok ts) : TokIs Bs (placed cs ts) (-1) 0
/-- What Of leaves. -/
def OfP5 (w : World) (Bs : List Int) (e : Ending) (w' : World) : Prop := ∃ (A : Option Addr) (n c : Nat) (l : List Tok) (x er : Int),
  e = .returned (.tuple #[.slice A n c, .int .i64 x, .int .i64 er]) ∧ RdT w' w'.heap.size A n c l ∧ TokIs Bs l x er ∧ Below w.heap.size w w'
theorem dec_ok {Bs cs ats : List Int} {x er : Int} (h : DecIs Bs cs ats x er) (he : er = 0) : cs.all okb = true ∧ Bs = flat cs ∧ Bs.length ≤ 3000 ∧ ats = offs 0 cs ++ [(Bs.length : Int)] := by
  cases h with
  | ok _ hl hu => exact ⟨List.all_eq_true.2 hu.ok, by have := hu.eq; rw [List.take_length] at this; exact this, hl, rfl⟩
  | bad _ _ _ _ _ _ => omega
  | long _ => omega
end Go.Proofs.YtmohefgdpddldaaGreatDoor
namespace Go.Proofs.YtmohefgdpddldaaGreatDoor
open Go.RowKit
open Y (Nd It Ps nextP takeP failP noTok noName zeroN formP itemP lineP itemsP lastP)

/-- What all tokens say: the items, or where and why it is wrong. -/
def allS (e : Int) (n m : Nat) (ts : List Tok) : List It × Int × Int :=
  match lastP e (itemsP e n m [] (.live ts)).2 with
  | .live _ => ((itemsP e n m [] (.live ts)).1, -1, 0)
  | .dead a y => ([], a, y)
def AllQ (w : World) (r : List It × Int × Int) (en : Ending) (w' : World) : Prop := ∃ A c, en = .returned (.tuple #[.slice A r.1.length c, .int .i64 r.2.1, .int .i64 r.2.2]) ∧ RdI6 w' (In w.heap.size w'.heap.size) A r.1.length c r.1 ∧ Below w.heap.size w w'
/-- What a text's items are, by its tokens. -/
inductive ItemsIs (Bs : List Int) (N M : Nat) : List It × Int × Int → Prop where
  | bad (x er : Int) (h : TokIs Bs [] x er) (he : er ≠ 0) : ItemsIs Bs N M ([], x, er)
  | ok (ts : List Tok) (x : Int) (h : TokIs Bs ts x 0) : ItemsIs Bs N M (allS Bs.length N M ts)
theorem lex_len : ∀ (n : Nat) (l : List Int), l.length ≤ n → ∀ (i o : Nat) (ts ts' : List W.Tk), W.lexS l i o ts = .ok ts' → ts'.length ≤ ts.length + l.length := by
  intro n
  induction n with
  | zero =>
    intro l hl i o ts ts' h
    obtain rfl : l = [] := List.eq_nil_of_length_eq_zero (by omega)
    rw [W.lexS_nil] at h
    split at h
    · cases h
    · injection h with h; subst h; simp
  | succ n ih =>
    intro l hl i o ts ts' h
    cases l with
    | nil =>
      rw [W.lexS_nil] at h
      split at h
      · cases h
      · injection h with h; subst h; simp
    | cons c t =>
      simp only [List.length_cons] at hl ⊢
      by_cases hb : c = 32 ∨ c = 9
      · rw [W.lexS_blank hb] at h
        have := ih t (by omega) _ _ _ _ h
        omega
      · rw [W.lexS_step hb] at h
        cases hs : W.stepS o ts c t with
        | bad k e => rw [hs] at h; cases h
        | tok k x lo hi m =>
          rw [hs] at h
          have := ih (t.drop m) (by rw [List.length_drop]; omega) _ _ _ _ h
          rw [List.length_drop, List.length_append] at this
          simp at this
          omega
        | skip m =>
          rw [hs] at h
          have := ih (t.drop m) (by rw [List.length_drop]; omega) _ _ _ _ h
          rw [List.length_drop] at this
          omega
theorem tok_few {Bs : List Int} {ts : List Tok} {x er : Int} (h : TokIs Bs ts x er) : ts.length ≤ Bs.length := by
  cases h with
  | dec => simp
  | bad => simp
  | ok cs ats x h ts hl =>
    obtain ⟨o1, o2, _, _⟩ := dec_ok h rfl
    have h1 := lex_len cs.length cs (Nat.le_refl _) 0 0 [] ts hl
    have h2 := W.flat_len o1
    rw [← o2] at h2
    simp [placed] at h1 ⊢
    omega
end Go.Proofs.YtmohefgdpddldaaGreatDoor
namespace Go.Proofs.YtmohefgdpddldaaGreatDoor
namespace U
open Y (Nd It Ps noName zeroN sizeL nextP takeP failP noTok deepP formP itemP itemsP lineP lastP next_cons take_dead take_cons dead_all)
open K (numsOf nameB aloneB inS inF nosB txt kidsT partT behindT betweenT rngT anyB rightB noneB numOk mayB numT allowT lineT itemsT okL)
open W (Tk lexS nmB)
open E (okb encB flat Upto DecIs offs)

/-! ### Small bytes are characters -/
def Lw (l : List Int) : Prop := ∀ x ∈ l, 0 ≤ x ∧ x < 128
theorem Lw.app {l m : List Int} (h : Lw l) (k : Lw m) : Lw (l ++ m) := fun x hx => (List.mem_append.1 hx).elim (h x) (k x)
theorem lw_of {l : List Int} (h : (l.all fun x => decide (0 ≤ x ∧ x < 128)) = true) : Lw l := fun x hx => by
  have := List.all_eq_true.1 h x hx
  rwa [decide_eq_true_eq] at this
theorem Lw.flat {l : List Int} (h : Lw l) : E.flat l = l := by
  induction l with
  | nil => rfl
  | cons c t ih =>
    have hc := h c (by simp)
    have := ih fun x hx => h x (by simp [hx])
    unfold E.flat at this ⊢
    rw [List.flatMap_cons, this]
    unfold E.encB
    rw [if_neg (by omega), if_pos (by omega)]; rfl
theorem Lw.ok {l : List Int} (h : Lw l) : l.all okb = true := List.all_eq_true.2 fun x hx => (E.okb_iff x).2 (by have := h x hx; omega)
theorem lw_nm {l : List Int} (h : l.all nmB = true) : Lw l := fun x hx => by
  have := List.all_eq_true.1 h x hx
  unfold W.nmB at this
  rw [Bool.or_eq_true, Q.plain_iff, decide_eq_true_eq] at this
  omega
theorem lw_name {l : List Int} (h : nameB l = true) : Lw l := by
  unfold K.nameB at h
  split at h
  · cases h
  · simp only [Bool.and_eq_true] at h
    exact lw_nm h.2
theorem text_lw {c : Int} (h : Q.isC c = true) : Lw (Q.textB c) := fun x hx => by
  have hc := (Q.isC_iff c).1 h
  unfold Q.textB at hx
  split at hx
  · rename_i hp
    rw [Q.plain_iff] at hp
    simp at hx; subst hx; omega
  · rcases List.mem_append.1 hx with hx | hx
    · rcases List.mem_append.1 hx with hx | hx
      · simp at hx; omega
      · have := Q.hex_mem 6 c hc.1 x hx; omega
    · simp at hx; omega
theorem lw_kids (k : Int) : ∀ (l : List Nd) (f : Bool), (∀ y ∈ l, Lw (txt y)) → Lw (kidsT k f l)
  | [], f, _ => by rw [kidsT]; exact fun x hx => by cases hx
  | y :: t, f, h => by
    rw [K.kidsT_cons]
    refine Lw.app (Lw.app ?_ ?_) (lw_kids k t false fun z hz => h z (by simp [hz]))
    · split
      · exact fun x hx => by cases hx
      · unfold K.betweenT; split <;> (try split) <;> (try split) <;> exact lw_of (by decide)
    · unfold K.partT
      have := h y (by simp)
      split
      · exact Lw.app (Lw.app (lw_of (by decide)) this) (lw_of (by decide))
      · exact this
theorem lw_txt : ∀ (N : Nat) (x : Nd), x.size ≤ N → anyB x = true → Lw (txt x)
  | 0, x, h, _ => by have := x.size_pos; omega
  | N + 1, x, h, ha => by
    have hs := K.size_eq x
    obtain ⟨hk, _⟩ := K.any_kids ha
    have hnos : x.kind = 2 → nosB x = true := fun h2 => by
      unfold K.anyB at ha
      rw [Bool.or_eq_true] at ha
      rcases ha with ha | ha
      · exact inF_nos ha (.inl h2)
      · exact inS_nos ha (.inl h2)
    have hkids : ∀ k f, Lw (kidsT k f x.kids) := fun k f => lw_kids k x.kids f fun y hy => lw_txt N y (by have := K.size_in hy; omega) (hk y hy)
    rw [K.txt_eq]
    by_cases h1 : x.kind = 1
    · rw [if_pos h1]; exact lw_of (by decide)
    · rw [if_neg h1]
      by_cases h3 : x.kind = 3
      · rw [if_pos h3]; exact lw_of (by decide)
      · rw [if_neg h3]
        by_cases h2 : x.kind = 2
        · rw [if_pos h2]
          exact Lw.app (l := [36]) (lw_of (by decide)) (lw_name (nos_name (hnos h2) h2).2)
        · rw [if_neg h2]
          by_cases h4 : x.kind = 4
          · rw [if_pos h4]
            refine Lw.app (Lw.app ?_ (hkids 4 true)) (lw_of (by decide))
            split <;> exact lw_of (by decide)
          · rw [if_neg h4]
            by_cases h5 : x.kind = 5
            · rw [if_pos h5]
              have hS : inS x = true := by
                unfold K.anyB at ha
                rw [Bool.or_eq_true] at ha
                rcases ha with ha | ha
                · have := inF_kind ha; omega
                · exact ha
              obtain ⟨_, h0, h1, h2⟩ := inS_range hS h5
              unfold K.rngT
              refine Lw.app (text_lw ((Q.isC_iff _).2 (by omega))) ?_
              split
              · exact fun x hx => by cases hx
              · exact Lw.app (l := [45]) (lw_of (by decide)) (text_lw ((Q.isC_iff _).2 (by omega)))
            · rw [if_neg h5]
              refine Lw.app (hkids _ _) ?_
              unfold K.behindT; split <;> (try split) <;> (try split) <;> exact lw_of (by decide)
theorem right_F {x : Nd} (h : rightB x = true) : inF x = true ∧ x.size ≤ 500 := by
  unfold K.rightB at h
  simp only [Bool.and_eq_true, decide_eq_true_eq] at h
  exact ⟨h.2, h.1.1⟩
theorem right_lw {x : Nd} (h : rightB x = true) : Lw (txt x) := lw_txt _ x (Nat.le_refl _) (by unfold K.anyB; rw [(right_F h).1, Bool.true_or])

/-! ### Lines, in characters -/
def lineC (x : It) : List Int :=
  if x.kind = 1 then 36 :: numsOf x.name ++ [32, 61, 32] ++ txt x.before
  else if x.kind = 2 then numT x.number ++ [32] ++ txt x.before ++ (if x.cut = true then [32, 247, 32] else [32, 215, 32]) ++ txt x.after
  else allowT ++ numsOf x.name ++ nlT x.number
def itemS (x : It) : List Sh :=
  if x.kind = 1 then [(1, numsOf x.name, 0, 0)] ++ [sg 3] ++ shp x.before
  else if x.kind = 2 then [(2, [], x.number, 0)] ++ [] ++ shp x.before ++ [sg (if x.cut = true then 5 else 4)] ++ shp x.after
  else [(19, numsOf x.name, x.number, 0)]
def linesC (l : List It) : List Int := l.flatMap fun x => lineC x ++ [10]
def linesS (l : List It) : List Sh := l.flatMap fun x => itemS x ++ [sg 18]
theorem lineC1 {x : It} (hk : x.kind = 1) : lineC x = 36 :: numsOf x.name ++ [32, 61, 32] ++ txt x.before := by unfold lineC; rw [hk]; rfl
theorem lineC2 {x : It} (hk : x.kind = 2) : lineC x = numT x.number ++ [32] ++ txt x.before ++ (if x.cut = true then [32, 247, 32] else [32, 215, 32]) ++ txt x.after := by unfold lineC; rw [hk]; rfl
theorem lineC3 {x : It} (hk : x.kind = 3) : lineC x = allowT ++ numsOf x.name ++ nlT x.number := by unfold lineC; rw [hk]; rfl
theorem lineT1 {x : It} (hk : x.kind = 1) : lineT x = 36 :: numsOf x.name ++ [32, 61, 32] ++ txt x.before := by unfold K.lineT; rw [hk]; rfl
theorem lineT2 {x : It} (hk : x.kind = 2) : lineT x = numT x.number ++ [32] ++ txt x.before ++ (if x.cut = true then [32, 195, 183, 32] else [32, 195, 151, 32]) ++ txt x.after := by unfold K.lineT; rw [hk]; rfl
theorem lineT3 {x : It} (hk : x.kind = 3) : lineT x = allowT ++ numsOf x.name ++ nlT x.number := by unfold K.lineT nlT; rw [hk]; rfl
theorem itemS1 {x : It} (hk : x.kind = 1) : itemS x = [(1, numsOf x.name, 0, 0)] ++ [sg 3] ++ shp x.before := by unfold itemS; rw [hk]; rfl
theorem itemS2 {x : It} (hk : x.kind = 2) : itemS x = [(2, [], x.number, 0)] ++ [] ++ shp x.before ++ [sg (if x.cut = true then 5 else 4)] ++ shp x.after := by unfold itemS; rw [hk]; rfl
theorem itemS3 {x : It} (hk : x.kind = 3) : itemS x = [(19, numsOf x.name, x.number, 0)] := by unfold itemS; rw [hk]; rfl
theorem flat_app (a b : List Int) : flat (a ++ b) = flat a ++ flat b := by unfold E.flat; rw [List.flatMap_append]
theorem may_kind {x : It} (h : mayB x = true) : x.kind = 1 ∨ x.kind = 2 ∨ x.kind = 3 := by
  unfold K.mayB at h
  split at h
  · exact .inl (by assumption)
  · split at h
    · exact .inr (.inl (by assumption))
    · split at h
      · exact .inr (.inr (by assumption))
      · cases h
theorem none_eq {x : Nd} (h : noneB x = true) : x = zeroN := by
  unfold K.noneB at h
  simp only [Bool.and_eq_true, decide_eq_true_eq] at h
  have := alone_eq h.1.2
  rw [h.1.1, List.eq_nil_of_length_eq_zero h.2] at this
  exact this
theorem may1 {x : It} (h : mayB x = true) (hk : x.kind = 1) : nameB (numsOf x.name) = true ∧ x.number = 0 ∧ x.cut = false ∧ rightB x.before = true ∧ x.after = zeroN := by
  unfold K.mayB at h
  rw [if_pos hk] at h
  simp only [Bool.and_eq_true, decide_eq_true_eq, Bool.not_eq_true'] at h
  exact ⟨h.1.1.1.1, h.1.1.1.2, h.1.1.2, h.1.2, none_eq h.2⟩
theorem may2 {x : It} (h : mayB x = true) (hk : x.kind = 2) : x.name = noName ∧ (0 ≤ x.number ∧ x.number ≤ 999999) ∧ rightB x.before = true ∧ rightB x.after = true := by
  unfold K.mayB K.numOk at h
  rw [if_neg (by omega), if_pos hk] at h
  simp only [Bool.and_eq_true, decide_eq_true_eq] at h
  exact ⟨name_no h.1.1.1, h.1.1.2, h.1.2, h.2⟩
theorem may3 {x : It} (h : mayB x = true) (hk : x.kind = 3) : W.lettersB (numsOf x.name) = true ∧ (x.number = -1 ∨ 0 ≤ x.number ∧ x.number ≤ 999999) ∧ x.cut = false ∧ x.before = zeroN ∧ x.after = zeroN := by
  unfold K.mayB K.numOk at h
  rw [if_neg (by omega), if_neg (by omega), if_pos hk] at h
  simp only [Bool.and_eq_true, Bool.or_eq_true, decide_eq_true_eq, Bool.not_eq_true'] at h
  exact ⟨h.1.1.1.1, h.1.1.1.2, h.1.1.2, none_eq h.1.2, none_eq h.2⟩
theorem lw_num {n : Int} (h0 : 0 ≤ n) (h1 : n ≤ 999999) : Lw (numT n) := fun x hx => by have := num_low h0 h1 x hx; omega
theorem line_flat {x : It} (h : mayB x = true) : flat (lineC x) = lineT x ∧ (lineC x).all okb = true := by
  rcases may_kind h with hk | hk | hk
  · obtain ⟨h1, _, _, h4, _⟩ := may1 h hk
    rw [lineC1 hk, lineT1 hk]
    have : Lw (36 :: numsOf x.name ++ [32, 61, 32] ++ txt x.before) := Lw.app (Lw.app (Lw.app (l := [36]) (lw_of (by decide)) (lw_name h1)) (lw_of (by decide))) (right_lw h4)
    exact ⟨this.flat, this.ok⟩
  · obtain ⟨_, hn, h3, h4⟩ := may2 h hk
    rw [lineC2 hk, lineT2 hk]
    have a1 : Lw (numT x.number ++ [32] ++ txt x.before) := Lw.app (Lw.app (lw_num hn.1 hn.2) (lw_of (by decide))) (right_lw h3)
    have a2 := right_lw h4
    rw [flat_app, flat_app, a1.flat, a2.flat, List.all_append, List.all_append, a1.ok, a2.ok]
    cases x.cut <;> exact ⟨rfl, rfl⟩
  · obtain ⟨h1, hn, _⟩ := may3 h hk
    rw [lineC3 hk, lineT3 hk]
    have a1 : Lw (numsOf x.name) := fun c hc => by
      have := List.all_eq_true.1 (letters_all h1).1 c hc
      unfold W.smB at this
      rw [decide_eq_true_eq] at this
      omega
    have a2 : Lw (nlT x.number) := by
      unfold nlT
      split
      · exact fun c hc => by cases hc
      · exact Lw.app (l := [32]) (lw_of (by decide)) (lw_num (by omega) (by omega))
    have : Lw (allowT ++ numsOf x.name ++ nlT x.number) := Lw.app (Lw.app (lw_of (by decide)) a1) a2
    exact ⟨this.flat, this.ok⟩
theorem lines_flat : ∀ {l : List It}, l.all mayB = true → flat (linesC l) = itemsT l ∧ (linesC l).all okb = true
  | [], _ => ⟨rfl, rfl⟩
  | x :: t, h => by
    rw [List.all_cons, Bool.and_eq_true] at h
    obtain ⟨h1, h2⟩ := line_flat h.1
    obtain ⟨h3, h4⟩ := lines_flat h.2
    have e1 : linesC (x :: t) = lineC x ++ [10] ++ linesC t := by unfold linesC; rw [List.flatMap_cons]
    have e2 : itemsT (x :: t) = lineT x ++ [10] ++ itemsT t := by unfold K.itemsT; rw [List.flatMap_cons]
    rw [e1, e2, flat_app, flat_app, h1, h3, List.all_append, List.all_append, h2, h4]
    exact ⟨rfl, rfl⟩
theorem lex_line {x : It} (h : mayB x = true) (t : List Int) (ts : List Tk) : LexTo 0 ts (lineC x) (10 :: t) 0 (itemS x) := by
  rcases may_kind h with hk | hk | hk
  · obtain ⟨h1, _, _, h4, _⟩ := may1 h hk
    rw [lineC1 hk, itemS1 hk]
    refine LexTo.seq (o1 := 0) (LexTo.seq (o1 := 0) (lex_name h1 rfl) fun us _ => ?_) fun us _ => lex_form (right_F h4).1 rfl _
    exact LexTo.seq (l1 := [32]) (l2 := [61, 32]) (s1 := []) (s2 := [sg 3]) (LexTo.blank _ _ _) fun _ _ => LexTo.seq (l1 := [61]) (l2 := [32]) (s1 := [sg 3]) (s2 := []) (sign61 _ _) fun _ _ => LexTo.blank _ _ _
  · obtain ⟨_, hn, h3, h4⟩ := may2 h hk
    rw [lineC2 hk, itemS2 hk]
    refine LexTo.seq (o1 := 0) (LexTo.seq (o1 := 0) (LexTo.seq (o1 := 0) (LexTo.seq (o1 := 0) (lex_number hn.1 hn.2 rfl (by show (32 : Int) ≠ 46; decide) ts) fun us _ => LexTo.blank _ _ _) fun us _ => lex_form (right_F h3).1 ?_ _) fun us _ => ?_) fun us _ => lex_form (right_F h4).1 rfl _
    · cases x.cut <;> rfl
    · cases x.cut with
      | true => exact LexTo.seq (l1 := [32]) (l2 := [247, 32]) (s1 := []) (s2 := [sg 5]) (LexTo.blank _ _ _) fun _ _ => LexTo.seq (l1 := [247]) (l2 := [32]) (s1 := [sg 5]) (s2 := []) (sign247 _ _) fun _ _ => LexTo.blank _ _ _
      | false => exact LexTo.seq (l1 := [32]) (l2 := [215, 32]) (s1 := []) (s2 := [sg 4]) (LexTo.blank _ _ _) fun _ _ => LexTo.seq (l1 := [215]) (l2 := [32]) (s1 := [sg 4]) (s2 := []) (sign215 _ _) fun _ _ => LexTo.blank _ _ _
  · obtain ⟨h1, hn, _⟩ := may3 h hk
    rw [lineC3 hk, itemS3 hk]
    exact lex_allow h1 hn (.inr ⟨t, rfl⟩) ts
theorem lex_lines : ∀ {l : List It}, l.all mayB = true → ∀ ts : List Tk, LexTo 0 ts (linesC l) [] 0 (linesS l)
  | [], _, ts => LexTo.nil _ _ _
  | x :: t, h, ts => by
    rw [List.all_cons, Bool.and_eq_true] at h
    have e1 : linesC (x :: t) = lineC x ++ [10] ++ linesC t := by unfold linesC; rw [List.flatMap_cons]
    have e2 : linesS (x :: t) = itemS x ++ [sg 18] ++ linesS t := by unfold linesS; rw [List.flatMap_cons]
    rw [e1, e2]
    exact LexTo.seq (o1 := 0) (LexTo.seq (o1 := 0) (lex_line h.1 _ ts) fun us _ => sign10 _ _) fun us _ => lex_lines h.2 _

/-! ### Lines, as they are read -/
/-- The item, and the tokens behind it; or too deep. -/
def GtI (r : It × Ps) (x : It) (rest : List Tok) : Prop := (∃ y : It, r = (y, .live rest) ∧ y.core = x.core) ∨ ∃ a, r.2 = .dead a 8
theorem it_fst {x : It} (h : mayB x = true) : ∃ c b, itemS x = c :: b ∧ (c.1 = 1 ∨ c.1 = 2 ∨ c.1 = 19) := by
  rcases may_kind h with hk | hk | hk
  · rw [itemS1 hk]; exact ⟨_, _, rfl, .inl rfl⟩
  · rw [itemS2 hk]; exact ⟨_, _, rfl, .inr (.inl rfl)⟩
  · rw [itemS3 hk]; exact ⟨_, _, rfl, .inr (.inr rfl)⟩
theorem item_back (e : Int) {x : It} (h : mayB x = true) {us : List Tok} (hu : Is (itemS x) us) {n : Nat} (hn : 6003 ≤ n) {rest : List Tok} (hs : Stp rest) (h8 : nextP [8] (.live rest) = false) : GtI (itemP e n (.live (us ++ rest))) x rest := by
  rcases may_kind h with hk | hk | hk
  · obtain ⟨h1, h2, h3, h4, h5⟩ := may1 h hk
    obtain ⟨hF, hsz⟩ := right_F h4
    rw [itemS1 hk] at hu
    obtain ⟨u1, ub, rfl, hu1, hub⟩ := hu.app
    obtain ⟨u2, u3, rfl, hu2, hu3⟩ := hu1.app
    obtain ⟨t1, rfl, ht1⟩ := hu2.one
    obtain ⟨t3, rfl, ht3⟩ := hu3.one
    have k1 : t1.kind = 1 := core_kind ht1
    have k3 : t3.kind = 3 := core_kind ht3
    have l1 : t1.text = numsOf x.name := congrArg (·.2.1) ht1
    have hap : ([t1] ++ [t3] ++ ub) ++ rest = t1 :: t3 :: (ub ++ rest) := by simp
    rw [hap]
    unfold Y.itemP
    rw [take_yes (show [1, 2, 19].contains t1.kind = true by rw [k1]; decide), if_pos k1]
    show GtI (⟨1, strOfNums t1.text, 0, false, (formP e n 0 (takeP e [3] (.live (t3 :: (ub ++ rest)))).2).1, zeroN, t1.pos⟩, (formP e n 0 (takeP e [3] (.live (t3 :: (ub ++ rest)))).2).2) x rest
    rw [take_yes (show [3].contains t3.kind = true by rw [k3]; decide)]
    rcases form_back e hF hub (n := n) (o := 0) (rest := rest) (by omega) hs h8 with hg | ⟨a, hg⟩
    · left
      refine ⟨_, by rw [hg], ?_⟩
      rw [l1, K.strOf_numsOf]
      unfold Y.It.core
      simp only [hk, h2, h3, h5]
    · exact .inr ⟨a, hg⟩
  · obtain ⟨h1, hnm, h3, h4⟩ := may2 h hk
    obtain ⟨hFb, hsb⟩ := right_F h3
    obtain ⟨hFa, hsa⟩ := right_F h4
    rw [itemS2 hk] at hu
    obtain ⟨u1, ua, rfl, hu1, hua⟩ := hu.app
    obtain ⟨u2, us2, rfl, hu2, hus⟩ := hu1.app
    obtain ⟨u3, ub, rfl, hu3, hub⟩ := hu2.app
    rw [List.append_nil] at hu3
    obtain ⟨t2, rfl, ht2⟩ := hu3.one
    obtain ⟨tk, rfl, htk⟩ := hus.one
    have k2 : t2.kind = 2 := core_kind ht2
    have l2 : t2.low = x.number := congrArg (·.2.2.1) ht2
    have kk : tk.kind = if x.cut = true then 5 else 4 := core_kind htk
    have kk' : tk.kind = 4 ∨ tk.kind = 5 := by rw [kk]; cases x.cut <;> simp
    have hap : ([t2] ++ ub ++ [tk] ++ ua) ++ rest = t2 :: (ub ++ tk :: (ua ++ rest)) := by simp
    rw [hap]
    unfold Y.itemP
    rw [take_yes (show [1, 2, 19].contains t2.kind = true by rw [k2]; decide), if_neg (show ¬ t2.kind = 1 by omega), if_pos k2]
    show GtI (⟨2, noName, t2.low, decide ((takeP e [4, 5] (formP e n 0 (.live (ub ++ tk :: (ua ++ rest)))).2).1.kind = 5), (formP e n 0 (.live (ub ++ tk :: (ua ++ rest)))).1, (formP e n 0 (takeP e [4, 5] (formP e n 0 (.live (ub ++ tk :: (ua ++ rest)))).2).2).1, t2.pos⟩, (formP e n 0 (takeP e [4, 5] (formP e n 0 (.live (ub ++ tk :: (ua ++ rest)))).2).2).2) x rest
    have hst : Stp (tk :: (ua ++ rest)) := by
      rcases kk' with h | h <;> exact ⟨by rw [next_cons, h]; decide, by rw [next_cons, h]; decide⟩
    have hs8 : nextP [8] (.live (tk :: (ua ++ rest))) = false := by rcases kk' with h | h <;> rw [next_cons, h] <;> decide
    rcases form_back e hFb hub (n := n) (o := 0) (rest := tk :: (ua ++ rest)) (by omega) hst hs8 with hg | ⟨a, hg⟩
    · rw [hg]
      show GtI (⟨2, noName, t2.low, decide ((takeP e [4, 5] (.live (tk :: (ua ++ rest)))).1.kind = 5), x.before, (formP e n 0 (takeP e [4, 5] (.live (tk :: (ua ++ rest)))).2).1, t2.pos⟩, (formP e n 0 (takeP e [4, 5] (.live (tk :: (ua ++ rest)))).2).2) x rest
      rw [take_yes (show [4, 5].contains tk.kind = true by rcases kk' with h | h <;> rw [h] <;> decide)]
      rcases form_back e hFa hua (n := n) (o := 0) (rest := rest) (by omega) hs h8 with hg2 | ⟨a, hg2⟩
      · left
        refine ⟨_, by rw [hg2], ?_⟩
        have hcut : decide (tk.kind = 5) = x.cut := by rw [kk]; cases x.cut <;> rfl
        unfold Y.It.core
        simp only [hk, h1, l2, hcut]
      · exact .inr ⟨a, hg2⟩
    · right
      refine ⟨a, ?_⟩
      show (formP e n 0 (takeP e [4, 5] (formP e n 0 (.live (ub ++ tk :: (ua ++ rest)))).2).2).2 = _
      rw [hg, take_dead]
      exact (dead_all e n).form _ _ _
  · obtain ⟨h1, hnm, h3, h4, h5⟩ := may3 h hk
    rw [itemS3 hk] at hu
    obtain ⟨t, rfl, ht⟩ := hu.one
    have k : t.kind = 19 := core_kind ht
    have l1 : t.text = numsOf x.name := congrArg (·.2.1) ht
    have l2 : t.low = x.number := congrArg (·.2.2.1) ht
    rw [List.singleton_append]
    unfold Y.itemP
    rw [take_yes (show [1, 2, 19].contains t.kind = true by rw [k]; decide), if_neg (show ¬ t.kind = 1 by omega), if_neg (show ¬ t.kind = 2 by omega)]
    left
    refine ⟨_, rfl, ?_⟩
    show Y.It.core ⟨3, strOfNums t.text, t.low, false, zeroN, zeroN, t.pos⟩ = _
    rw [l1, l2, K.strOf_numsOf]
    unfold Y.It.core
    simp only [hk, h3, h4, h5]
theorem items_dead8 (e : Int) (n m : Nat) (l : List It) (a : Int) : (itemsP e n m l (.dead a 8)).2 = .dead a 8 := by
  cases m with
  | zero => rw [itemsP]
  | succ m => rw [itemsP, if_pos (show (Ps.dead a 8).toks = [] from rfl)]
theorem items_back (e : Int) {n : Nat} (hn : 6003 ≤ n) : ∀ (l2 l : List It) (us : List Tok) (m : Nat), l2.all mayB = true → Is (linesS l2) us → l2.length + 1 ≤ m → l.length + l2.length ≤ 100 →
    (∃ l', itemsP e n m l (.live us) = (l ++ l', .live []) ∧ l'.map It.core = l2.map It.core) ∨ ∃ a, (itemsP e n m l (.live us)).2 = .dead a 8
  | [], l, us, m, _, hu, hm, _ => by
    obtain rfl := Is.nil hu
    obtain ⟨m, rfl⟩ : ∃ k, m = k + 1 := ⟨m - 1, by omega⟩
    left
    exact ⟨[], by rw [itemsP, if_pos (show (Ps.live []).toks = [] from rfl), List.append_nil], rfl⟩
  | x :: t, l, us, m, h, hu, hm, hl => by
    rw [List.all_cons, Bool.and_eq_true] at h
    simp only [List.length_cons] at hm hl
    obtain ⟨m, rfl⟩ : ∃ k, m = k + 1 := ⟨m - 1, by omega⟩
    have e2 : linesS (x :: t) = itemS x ++ [sg 18] ++ linesS t := by unfold linesS; rw [List.flatMap_cons]
    rw [e2] at hu
    obtain ⟨u1, ut, rfl, hu1, hut⟩ := hu.app
    obtain ⟨ux, u18, rfl, hux, hu18⟩ := hu1.app
    obtain ⟨t18, rfl, ht18⟩ := hu18.one
    have k18 : t18.kind = 18 := core_kind ht18
    have hap : ux ++ [t18] ++ ut = ux ++ t18 :: ut := by simp
    rw [hap]
    obtain ⟨c, b, hc, hck⟩ := it_fst h.1
    have hnx : nextP [18] (.live (ux ++ t18 :: ut)) = false := by
      rw [hc] at hux
      obtain ⟨t0, v, rfl, ht0, _⟩ := hux.cons
      rw [List.cons_append, next_cons, core_kind ht0]
      rcases hck with h | h | h <;> rw [h] <;> decide
    have hne : ¬ (Ps.live (ux ++ t18 :: ut)).toks = [] := by show ¬ (ux ++ t18 :: ut) = []; simp
    rw [itemsP, if_neg hne, if_neg (by rw [hnx]; decide), if_neg (by omega)]
    have hst : Stp (t18 :: ut) := ⟨by rw [next_cons, k18]; decide, by rw [next_cons, k18]; decide⟩
    have hs8 : nextP [8] (.live (t18 :: ut)) = false := by rw [next_cons, k18]; decide
    rcases item_back e h.1 hux hn hst hs8 with ⟨y, hg, hy⟩ | ⟨a, hg⟩
    · rw [hg]
      have hline : lineP e (.live (t18 :: ut)) = .live ut := by
        unfold Y.lineP
        rw [if_neg (by simp [Ps.toks]), take_yes (show [18].contains t18.kind = true by rw [k18]; decide)]
      show (∃ l', itemsP e n m (l ++ [y]) (lineP e (.live (t18 :: ut))) = _ ∧ _) ∨ ∃ a, (itemsP e n m (l ++ [y]) (lineP e (.live (t18 :: ut)))).2 = _
      rw [hline]
      rcases items_back e hn t (l ++ [y]) ut m h.2 hut (by omega) (by simp; omega) with ⟨l', hg2, hm2⟩ | hg2
      · left
        refine ⟨y :: l', by rw [hg2, List.append_assoc]; rfl, ?_⟩
        rw [List.map_cons, List.map_cons, hy, hm2]
      · exact .inr hg2
    · right
      refine ⟨a, ?_⟩
      rw [hg]
      have hline : lineP e (.dead a 8) = .dead a 8 := rfl
      rw [hline]
      exact items_dead8 _ _ _ _ _
/-- All items of a text that was written out. -/
theorem all_back (e : Int) {n m : Nat} (hn : 6003 ≤ n) {l : List It} (h : okL l = true) {us : List Tok} (hu : Is (linesS l) us) (hm : 101 ≤ m) :
    (∃ l', allS e n m us = (l', -1, 0) ∧ l'.map It.core = l.map It.core) ∨ ∃ a, allS e n m us = ([], a, 8) := by
  unfold K.okL at h
  rw [Bool.and_eq_true, decide_eq_true_eq] at h
  unfold allS
  rcases items_back e hn l [] us m h.2 hu (by omega) (by simp; omega) with ⟨l', hg, hl⟩ | ⟨a, hg⟩
  · left
    refine ⟨l', ?_, hl⟩
    rw [hg]; rfl
  · right
    refine ⟨a, ?_⟩
    rw [hg]; rfl
/-- A text whose characters are these tokens has no others. -/
theorem tok_back {Bs cs : List Int} (hf : flat cs = Bs) (hok : cs.all okb = true) (hl : Bs.length ≤ 3000) {s : List Sh} (hL : LexTo 0 [] cs [] 0 s) {ts : List Tok} {x er : Int} (h : TokIs Bs ts x er) : er = 0 ∧ Is s ts := by
  have hd : DecIs Bs cs (offs 0 cs ++ [(Bs.length : Int)]) (-1) 0 := .ok cs hl ⟨fun c hc => List.all_eq_true.1 hok c hc, by rw [List.take_length, hf], Nat.le_refl _⟩
  obtain ⟨us, hus, hx⟩ := hL 0
  rw [List.append_nil, W.lexS_nil, if_neg (by omega), List.nil_append] at hx
  cases h with
  | dec cs' ats' _ _ h he => obtain ⟨_, _, _, e⟩ := h.one hd; exact absurd e he
  | bad cs' ats' _ h k _ hl' => obtain ⟨e, _⟩ := h.one hd; subst e; rw [hx] at hl'; cases hl'
  | ok cs' ats' _ h ts' hl' =>
    obtain ⟨e, _⟩ := h.one hd
    subst e
    rw [hx] at hl'
    injection hl' with e
    subst e
    refine ⟨rfl, ?_⟩
    unfold Is placed
    rw [List.map_map, ← hus]
    rfl
theorem form_tok {x : Nd} (h : rightB x = true) (hl : (txt x).length ≤ 3000) {ts : List Tok} {y er : Int} (ht : TokIs (txt x) ts y er) : er = 0 ∧ Is (shp x) ts :=
  tok_back (right_lw h).flat (right_lw h).ok hl (lex_form (right_F h).1 rfl []) ht
theorem items_tok {l : List It} (h : okL l = true) (hl : (itemsT l).length ≤ 3000) {ts : List Tok} {y er : Int} (ht : TokIs (itemsT l) ts y er) : er = 0 ∧ Is (linesS l) ts := by
  unfold K.okL at h
  rw [Bool.and_eq_true] at h
  obtain ⟨h1, h2⟩ := lines_flat h.2
  exact tok_back h1 h2 hl (lex_lines h.2 []) ht
/-- What is read of what was written out. -/
theorem read_back {l : List It} (h : okL l = true) (hl : (itemsT l).length ≤ 3000) {N M : Nat} (hN : 6003 ≤ N) (hM : 101 ≤ M) {r : List It × Int × Int} (hr : ItemsIs (itemsT l) N M r) :
    (∃ l', r = (l', -1, 0) ∧ l'.map It.core = l.map It.core) ∨ ∃ a, r = ([], a, 8) := by
  cases hr with
  | bad x er h' he => exact absurd (items_tok h hl h').1 he
  | ok ts x h' => exact all_back _ hN h (items_tok h hl h').2 hM
end U
end Go.Proofs.YtmohefgdpddldaaGreatDoor
namespace Go.Proofs.YtmohefgdpddldaaGreatDoor
open W (Tk St lexS lexS_nil lexS_blank lexS_step stepS inS outS nameS setS numT noteS charsS signK)

/-- A token as the lexer makes it. -/
def GdK (k : Int) (x : List Int) (lo : Int) : Prop := k ≠ 0 ∧ (k = 1 → lo = 0) ∧ (k = 2 → x = [])
def Gd (t : Tok) : Prop := GdK t.kind t.text t.low
def GdS : St → Prop
  | .tok k x lo _ _ => GdK k x lo
  | _ => True
theorem gd_bare {k lo : Int} (h : k ≠ 0) (h1 : k ≠ 1) : GdK k [] lo := ⟨h, fun e => absurd e h1, fun _ => rfl⟩
theorem nameS_gd (t : List Int) : GdS (nameS t) := by
  unfold W.nameS
  split
  · split
    · trivial
    · exact ⟨by decide, fun _ => rfl, fun h => absurd h (by decide)⟩
  · trivial
theorem setS_gd (t : List Int) : GdS (setS t) := by
  unfold W.setS
  split <;> exact gd_bare (by decide) (by decide)
theorem numT_gd (t : List Int) : GdS (numT t) := by
  unfold W.numT
  split
  · exact gd_bare (by decide) (by decide)
  · trivial
theorem noteS_gd (t : List Int) : GdS (noteS t) := by
  unfold W.noteS
  split
  · split
    · exact ⟨by decide, fun h => absurd h (by decide), fun h => absurd h (by decide)⟩
    · trivial
  · trivial
theorem charsS_gd (t : List Int) : GdS (charsS t) := by
  unfold W.charsS
  split
  · trivial
  · split
    · trivial
    · split
      · trivial
      · exact gd_bare (by decide) (by decide)
theorem stepS_gd (o : Nat) (ts : List Tk) (c : Int) (t : List Int) : GdS (stepS o ts c t) := by
  unfold W.stepS
  split
  · unfold W.inS
    split
    · exact nameS_gd t
    · split
      · exact setS_gd t
      · split
        · exact gd_bare (by decide) (by decide)
        · split
          · exact gd_bare (by decide) (by decide)
          · split
            · split
              · exact gd_bare (by decide) (by decide)
              · trivial
            · exact charsS_gd _
  · unfold W.outS
    split
    · exact nameS_gd t
    · split
      · exact numT_gd _
      · split
        · exact setS_gd t
        · split
          · exact noteS_gd _
          · split
            · trivial
            · rename_i h
              exact ⟨h, fun _ => rfl, fun _ => rfl⟩
theorem lex_gd : ∀ (n : Nat) (l : List Int), l.length ≤ n → ∀ (i o : Nat) (ts ts' : List Tk), (∀ t ∈ ts, GdK t.kind t.text t.low) → lexS l i o ts = .ok ts' → ∀ t ∈ ts', GdK t.kind t.text t.low := by
  intro n
  induction n with
  | zero =>
    intro l hl i o ts ts' hg h
    obtain rfl : l = [] := List.eq_nil_of_length_eq_zero (by omega)
    rw [lexS_nil] at h
    split at h
    · cases h
    · injection h with h; subst h; exact hg
  | succ n ih =>
    intro l hl i o ts ts' hg h
    cases l with
    | nil =>
      rw [lexS_nil] at h
      split at h
      · cases h
      · injection h with h; subst h; exact hg
    | cons c t =>
      simp only [List.length_cons] at hl
      by_cases hb : c = 32 ∨ c = 9
      · rw [lexS_blank hb] at h
        exact ih t (by omega) _ _ _ _ hg h
      · rw [lexS_step hb] at h
        have hs2 := stepS_gd o ts c t
        cases hs : stepS o ts c t with
        | bad k e => rw [hs] at h; cases h
        | tok k x lo hi m =>
          rw [hs] at h hs2
          refine ih (t.drop m) (by rw [List.length_drop]; omega) _ _ _ _ (fun u hu => ?_) h
          rcases List.mem_append.1 hu with h1 | h1
          · exact hg u h1
          · simp at h1; subst h1; exact hs2
        | skip m =>
          rw [hs] at h
          exact ih (t.drop m) (by rw [List.length_drop]; omega) _ _ _ _ hg h
end Go.Proofs.YtmohefgdpddldaaGreatDoor
namespace Go.Proofs.YtmohefgdpddldaaGreatDoor
open Y (Nd Ps)
/-- Two answers agree where what is left is right. -/
def Agr {α : Type} (p q : α × Ps) : Prop := p.2 = q.2 ∧ ∀ ts, p.2 = .live ts → p.1 = q.1
theorem Agr.refl {α : Type} (p : α × Ps) : Agr p p := ⟨rfl, fun _ _ => rfl⟩
end Go.Proofs.YtmohefgdpddldaaGreatDoor
