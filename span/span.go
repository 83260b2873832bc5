// Package span is layer 1: sets of characters. See shared/doc/01-span.md.
package span

import (
	"cmp"
	"slices"

	"caesura/api"
)

// Right: is a set as it is least?
func Right(l []api.Range) bool {
	if tooMany(l) {
		return false
	}
	// Two below the first character, so that the first range too has a free character ahead of it.
	last := -2
	for _, r := range l {
		if r.Low <= last+1 || r.Low > r.High || r.High > api.Top {
			return false
		}
		last = r.High
	}
	return true
}

// Plain: a set as it is least.
func Plain(l []api.Range) []api.Range {
	if tooMany(l) {
		return nil
	}
	var clipped []api.Range
	for _, r := range l {
		// Clipped ahead of all counting, lest the ends of int wrap round.
		low, high := max(r.Low, 0), min(r.High, api.Top)
		if low <= high {
			clipped = append(clipped, api.Range{Low: low, High: high})
		}
	}
	slices.SortFunc(clipped, func(a, b api.Range) int { return cmp.Compare(a.Low, b.Low) })
	var least []api.Range
	for _, r := range clipped {
		least = join(least, r)
	}
	return least
}

// Or: what one of both has.
func Or(a, b []api.Range) []api.Range {
	return sweep(a, b, func(inA, inB bool) bool { return inA || inB })
}

// And: what both have.
func And(a, b []api.Range) []api.Range {
	return sweep(a, b, func(inA, inB bool) bool { return inA && inB })
}

// Less: what one has, and another one hasn't.
func Less(a, b []api.Range) []api.Range {
	return sweep(a, b, func(inA, inB bool) bool { return inA && !inB })
}

// Not: all others.
func Not(l []api.Range) []api.Range {
	return sweep(l, nil, func(in, _ bool) bool { return !in })
}

// Has: is a character there?
func Has(l []api.Range, c int) bool {
	if tooMany(l) || c < 0 || c > api.Top {
		return false
	}
	return slices.ContainsFunc(l, func(r api.Range) bool { return r.Low <= c && c <= r.High })
}

// First: the least character.
func First(l []api.Range) int {
	least := Plain(l)
	if len(least) == 0 {
		return -1
	}
	return least[0].Low
}

// Size: how many there are.
func Size(l []api.Range) int {
	n := 0
	for _, r := range Plain(l) {
		n += r.High - r.Low + 1
	}
	return n
}

// Same: have both the same?
func Same(a, b []api.Range) bool {
	return slices.Equal(Plain(a), Plain(b))
}

// tooMany: is a list so long that it has nothing?
func tooMany(l []api.Range) bool { return len(l) > api.MaxRanges }

// sweep gathers, as it is least, what tell says of each stretch of characters, from a place up to another one, in which neither set changes. What it gathers may be of more than MaxRanges ranges, so no answer of it is made of another one.
func sweep(a, b []api.Range, tell func(inA, inB bool) bool) []api.Range {
	restA, restB := Plain(a), Plain(b)
	var least []api.Range
	for from := 0; from <= api.Top; {
		restA, restB = ahead(restA, from), ahead(restB, from)
		inA, endA := stretch(restA, from)
		inB, endB := stretch(restB, from)
		to := min(endA, endB)
		if tell(inA, inB) {
			least = join(least, api.Range{Low: from, High: to - 1})
		}
		from = to
	}
	return least
}

// ahead: a least list without the range that ends ahead of a place; there is at most one, since sweep halts behind each.
func ahead(least []api.Range, from int) []api.Range {
	if len(least) > 0 && least[0].High < from {
		return least[1:]
	}
	return least
}

// stretch: is a place in the first range of a least list, and up to where is that so?
func stretch(least []api.Range, from int) (in bool, to int) {
	switch {
	case len(least) == 0:
		return false, api.Top + 1
	case from < least[0].Low:
		return false, least[0].Low
	}
	return true, least[0].High + 1
}

// join: a least list and a range behind it, that may touch its last one or lie within it.
func join(least []api.Range, r api.Range) []api.Range {
	n := len(least)
	if n > 0 && r.Low <= least[n-1].High+1 {
		least[n-1].High = max(least[n-1].High, r.High)
		return least
	}
	return append(least, r)
}
