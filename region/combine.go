package region

import (
	"slices"

	"tableau/api"
)

// row is what all lines of points from y on down to the next row have: the edges are where points begin to be in, and where they end, by turns, rising.
type row struct {
	y     int
	edges []int
}

// combine is the region of the points for which in says yes, told whether a and b have them; it says no to a point of neither. The lists are in bands, but a band may be like the one above it.
func combine(a, b []api.Rect, in func(inA, inB bool) bool) []api.Rect {
	var rows []row
	var above []int
	for _, y := range heights(a, b) {
		a, b = from(a, y), from(b, y)
		edges := mix(edgesAt(a, y), edgesAt(b, y), in)
		if !slices.Equal(edges, above) {
			rows = append(rows, row{y: y, edges: edges})
			above = edges
		}
	}
	return bands(rows)
}

// heights are where bands of a or b begin and end, rising.
func heights(a, b []api.Rect) []int {
	l := make([]int, 0, 2*(len(a)+len(b)))
	for _, r := range a {
		l = append(l, r.Y, r.Y+r.H)
	}
	for _, r := range b {
		l = append(l, r.Y, r.Y+r.H)
	}
	slices.Sort(l)
	return slices.Compact(l)
}

// from is the list without the bands that end above the line y.
func from(l []api.Rect, y int) []api.Rect {
	for len(l) > 0 && l[0].Y+l[0].H <= y {
		l = l[1:]
	}
	return l
}

// edgesAt are the edges on the line y, above which no band of the list ends.
func edgesAt(l []api.Rect, y int) []int {
	if len(l) == 0 || l[0].Y > y {
		return nil
	}
	band := first(l)
	edges := make([]int, 0, 2*len(band))
	for _, r := range band {
		edges = append(edges, r.X, r.X+r.W)
	}
	return edges
}

// mix are the edges of the points of a line for which in says yes. Behind an odd number of edges a point is in, behind an even one it is not.
func mix(a, b []int, in func(inA, inB bool) bool) []int {
	var edges []int
	i, j := 0, 0
	for i < len(a) || j < len(b) {
		x := least(a[i:], b[j:])
		if i < len(a) && a[i] == x {
			i++
		}
		if j < len(b) && b[j] == x {
			j++
		}
		if in(odd(i), odd(j)) != odd(len(edges)) {
			edges = append(edges, x)
		}
	}
	return edges
}

// least is the least number of two lists that rise; one of them has some.
func least(a, b []int) int {
	if len(a) == 0 {
		return b[0]
	}
	if len(b) == 0 {
		return a[0]
	}
	return min(a[0], b[0])
}

// odd tells whether a number that is not below 0 is odd.
func odd(n int) bool { return n%2 == 1 }

// bands are the rows' rectangles. A row that has points has one below it: the last one has none.
func bands(rows []row) []api.Rect {
	var l []api.Rect
	for i, r := range rows {
		for k := 0; k < len(r.edges); k += 2 {
			left, right := r.edges[k], r.edges[k+1]
			l = append(l, api.Rect{X: left, Y: r.y, W: right - left, H: rows[i+1].y - r.y})
		}
	}
	return l
}
