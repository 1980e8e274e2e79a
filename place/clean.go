package place

import "credenza/api"

// What stands here goes by lists that are clean: their ranges rise, none is empty, and none touch.

// join is the clean list l with a in it, which is not empty and begins at no byte ahead of l's last range.
func join(l []api.Range, a api.Range) []api.Range {
	last := len(l) - 1
	if last < 0 || l[last].To < a.From {
		return append(l, a)
	}
	l[last].To = max(l[last].To, a.To)
	return l
}

// rest is left with what r leaves of a behind it; neither a nor r is empty.
func rest(left []api.Range, a, r api.Range) []api.Range {
	switch {
	case r.To <= a.From, a.To <= r.From:
		return append(left, a)
	case a.From < r.From && r.To < a.To:
		// r parts a in two: this is the one ahead, the other one is as if r began where a does.
		left = append(left, api.Range{From: a.From, To: r.From})
		fallthrough
	case r.To < a.To:
		return append(left, api.Range{From: r.To, To: a.To})
	case a.From < r.From:
		return append(left, api.Range{From: a.From, To: r.From})
	}
	return left
}

// empty says whether a has no byte.
func empty(a api.Range) bool {
	return a.To <= a.From
}

// held is how many bytes are held for size, which is not below 0.
func held(size int) int {
	return max(size, 1)
}

// up is the least place that is not below n.
func up(n int) int {
	return (n + step - 1) / step * step
}
