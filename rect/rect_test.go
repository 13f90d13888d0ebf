package rect_test

import (
	"math"
	"math/big"
	"math/rand"
	"slices"
	"testing"

	"sash/api"
	"sash/rect"
)

// What the document tells in numbers is written out here, not taken from api.
const (
	maxExtent = 10000
	across    = uint8(1)
	down      = uint8(2)
)

func of(x, y, w, h int) api.Rect { return api.Rect{X: x, Y: y, W: w, H: h} }

// edges are the numbers at which something changes, and those that an int can't add.
func edges() []int {
	return []int{
		math.MinInt, math.MinInt + 1, math.MinInt32, -maxExtent, -1, 0, 1, 2,
		maxExtent - 1, maxExtent, maxExtent + 1, math.MaxInt32, 1 << 62, math.MaxInt - maxExtent, math.MaxInt - 1, math.MaxInt,
	}
}

// edgeRects are all rectangles of these numbers.
func edgeRects() []api.Rect {
	var l []api.Rect
	for _, x := range edges() {
		for _, y := range edges() {
			for _, w := range edges() {
				for _, h := range edges() {
					l = append(l, of(x, y, w, h))
				}
			}
		}
	}
	return l
}

// smallRects are all rectangles from -1 to n in each number.
func smallRects(n int) []api.Rect {
	var l []api.Rect
	for x := -1; x <= n; x++ {
		for y := -1; y <= n; y++ {
			for w := -1; w <= n; w++ {
				for h := -1; h <= n; h++ {
					l = append(l, of(x, y, w, h))
				}
			}
		}
	}
	return l
}

// plainMay is the chapter's own sentence, in numbers without bounds.
func plainMay(r api.Rect) bool {
	far := func(from, size int) bool {
		sum := new(big.Int).Add(big.NewInt(int64(from)), big.NewInt(int64(size)))
		return sum.Cmp(big.NewInt(maxExtent)) <= 0
	}
	return r.X >= 0 && r.Y >= 0 && r.W >= 1 && r.H >= 1 && far(r.X, r.W) && far(r.Y, r.H)
}

type place struct{ x, y int }

// plainCells counts in how many of these rectangles each cell is; they may all be.
func plainCells(l ...api.Rect) map[place]int {
	m := map[place]int{}
	for _, r := range l {
		for x := r.X; x < r.X+r.W; x++ {
			for y := r.Y; y < r.Y+r.H; y++ {
				m[place{x, y}]++
			}
		}
	}
	return m
}

func plainAll(l ...api.Rect) bool {
	for _, r := range l {
		if !plainMay(r) {
			return false
		}
	}
	return true
}

func plainInside(outer api.Rect, l ...api.Rect) bool {
	if !plainMay(outer) || !plainAll(l...) {
		return false
	}
	has := plainCells(outer)
	for p := range plainCells(l...) {
		if has[p] == 0 {
			return false
		}
	}
	return true
}

func plainApart(l ...api.Rect) bool {
	if !plainAll(l...) {
		return false
	}
	for _, n := range plainCells(l...) {
		if n > 1 {
			return false
		}
	}
	return true
}

func plainArea(l ...api.Rect) int {
	n := 0
	for _, r := range l {
		if plainMay(r) {
			n += len(plainCells(r))
		}
	}
	return n
}

func TestMay(t *testing.T) {
	for _, c := range []struct {
		l    []api.Rect
		want bool
	}{
		{nil, true},
		{[]api.Rect{}, true},
		{[]api.Rect{{}}, false},
		{[]api.Rect{of(0, 0, 1, 1)}, true},
		{[]api.Rect{of(0, 0, 80, 24)}, true},
		{[]api.Rect{of(0, 0, 10000, 10000)}, true},
		{[]api.Rect{of(0, 0, 10001, 1)}, false},
		{[]api.Rect{of(0, 0, 1, 10001)}, false},
		{[]api.Rect{of(9999, 9999, 1, 1)}, true},
		{[]api.Rect{of(10000, 0, 1, 1)}, false},
		{[]api.Rect{of(0, 10000, 1, 1)}, false},
		{[]api.Rect{of(9999, 0, 2, 1)}, false},
		{[]api.Rect{of(0, 9999, 1, 2)}, false},
		{[]api.Rect{of(10000, 0, 0, 1)}, false},
		{[]api.Rect{of(10001, 0, -1, 1)}, false},
		{[]api.Rect{of(-1, 0, 1, 1)}, false},
		{[]api.Rect{of(0, -1, 1, 1)}, false},
		{[]api.Rect{of(-1, -1, 10001, 10001)}, false},
		{[]api.Rect{of(0, 0, 0, 1)}, false},
		{[]api.Rect{of(0, 0, 1, 0)}, false},
		{[]api.Rect{of(1, 1, math.MaxInt, 1)}, false},
		{[]api.Rect{of(math.MaxInt, 1, 1, 1)}, false},
		{[]api.Rect{of(1, math.MaxInt, 1, math.MaxInt)}, false},
		{[]api.Rect{of(0, 0, 1, 1), of(0, 0, 1, 1)}, true},
		{[]api.Rect{of(0, 0, 0, 1), of(0, 0, 1, 1), of(0, 0, 1, 1)}, false},
		{[]api.Rect{of(0, 0, 1, 1), of(0, 0, 0, 1), of(0, 0, 1, 1)}, false},
		{[]api.Rect{of(0, 0, 1, 1), of(0, 0, 1, 1), of(0, 0, 0, 1)}, false},
	} {
		if got := rect.May(c.l...); got != c.want {
			t.Errorf("P4.1: May(%v) = %v", c.l, got)
		}
	}
	for _, r := range edgeRects() {
		if got := rect.May(r); got != plainMay(r) {
			t.Fatalf("P4.1: May(%v) = %v", r, got)
		}
	}
}

func TestHas(t *testing.T) {
	for _, c := range []struct {
		r    api.Rect
		x, y int
		want bool
	}{
		{of(0, 0, 80, 24), 0, 0, true},
		{of(0, 0, 80, 24), 79, 23, true},
		{of(0, 0, 80, 24), 80, 23, false},
		{of(0, 0, 80, 24), 79, 24, false},
		{of(0, 0, 80, 24), 23, 79, false},
		{of(0, 0, 80, 24), -1, 0, false},
		{of(0, 0, 80, 24), 0, -1, false},
		{of(9999, 9999, 1, 1), 9999, 9999, true},
		{of(9999, 9999, 1, 2), 9999, 9999, false},
		{of(-1, 0, 3, 3), 0, 0, false},
		{of(-1, 0, 3, 3), -1, 0, false},
		{of(0, 0, 10001, 1), 0, 0, false},
		{of(0, 0, math.MaxInt, math.MaxInt), 5, 5, false},
		{api.Rect{}, 0, 0, false},
	} {
		if got := rect.Has(c.r, c.x, c.y); got != c.want {
			t.Errorf("P4.1: Has(%v, %d, %d) = %v", c.r, c.x, c.y, got)
		}
	}
}

func TestHasOfEveryCell(t *testing.T) {
	for _, r := range smallRects(3) {
		in := map[place]int{}
		if plainMay(r) {
			in = plainCells(r)
		}
		for x := -2; x < 8; x++ {
			for y := -2; y < 8; y++ {
				if got := rect.Has(r, x, y); got != (in[place{x, y}] == 1) {
					t.Fatalf("P4.1: Has(%v, %d, %d) = %v", r, x, y, got)
				}
			}
		}
	}
}

func TestHasAtTheEdges(t *testing.T) {
	for _, r := range []api.Rect{of(0, 0, maxExtent, maxExtent), of(1, 1, maxExtent-1, maxExtent-1), of(maxExtent-1, maxExtent-1, 1, 1)} {
		for _, x := range edges() {
			for _, y := range edges() {
				want := r.X <= x && x < maxExtent && r.Y <= y && y < maxExtent
				if got := rect.Has(r, x, y); got != want {
					t.Errorf("P4.1: Has(%v, %d, %d) = %v", r, x, y, got)
				}
			}
		}
	}
	for _, r := range edgeRects() {
		for _, n := range []int{math.MinInt, -1, 0, math.MaxInt} {
			want := plainMay(r) && r.X == 0 && r.Y == 0 && n == 0
			if got := rect.Has(r, n, n); got != want {
				t.Fatalf("P4.1: Has(%v, %d, %d) = %v", r, n, n, got)
			}
		}
	}
}

func TestInside(t *testing.T) {
	o := of(2, 3, 4, 5)
	for _, c := range []struct {
		outer api.Rect
		l     []api.Rect
		want  bool
	}{
		{o, nil, true},
		{o, []api.Rect{}, true},
		{of(2, 3, 4, 0), nil, false},
		{of(2, 3, 4, 0), []api.Rect{of(2, 3, 1, 1)}, false},
		{of(-1, 3, 4, 5), []api.Rect{of(0, 3, 1, 1)}, false},
		{o, []api.Rect{o}, true},
		{o, []api.Rect{o, o}, true},
		{o, []api.Rect{of(1, 3, 4, 5)}, false},
		{o, []api.Rect{of(3, 3, 4, 5)}, false},
		{o, []api.Rect{of(2, 2, 4, 5)}, false},
		{o, []api.Rect{of(2, 4, 4, 5)}, false},
		{o, []api.Rect{of(3, 4, 2, 3)}, true},
		{o, []api.Rect{of(3, 4, 2, 3), of(2, 3, 5, 5)}, false},
		{o, []api.Rect{of(2, 3, 5, 5), of(3, 4, 2, 3)}, false},
		{o, []api.Rect{of(3, 4, 2, 3), of(3, 4, 0, 3)}, false},
		{o, []api.Rect{of(3, 4, 2, 0)}, false},
		{o, []api.Rect{of(3, 4, math.MaxInt, math.MaxInt)}, false},
		{o, []api.Rect{of(50, 50, 1, 1)}, false},
		{of(0, 0, maxExtent, maxExtent), []api.Rect{of(maxExtent-1, maxExtent-1, 1, 1)}, true},
		{of(0, 0, maxExtent, maxExtent), []api.Rect{of(maxExtent-1, maxExtent-1, 1, 2)}, false},
		{of(0, 0, maxExtent+1, 1), []api.Rect{of(0, 0, 1, 1)}, false},
	} {
		if got := rect.Inside(c.outer, c.l...); got != c.want {
			t.Errorf("P4.1: Inside(%v, %v) = %v", c.outer, c.l, got)
		}
	}
}

// Of all pairs of small rectangles, which may be or not, cells are held against cells.
func TestEveryPair(t *testing.T) {
	for _, a := range smallRects(2) {
		for _, b := range smallRects(2) {
			if got := rect.May(a, b); got != plainAll(a, b) {
				t.Fatalf("P4.1: May(%v, %v) = %v", a, b, got)
			}
			if got := rect.Inside(a, b); got != plainInside(a, b) {
				t.Fatalf("P4.1: Inside(%v, %v) = %v", a, b, got)
			}
			if got := rect.Apart(a, b); got != plainApart(a, b) {
				t.Fatalf("P4.1: Apart(%v, %v) = %v", a, b, got)
			}
			if got := rect.Area(a, b); got != plainArea(a, b) {
				t.Fatalf("P4.1: Area(%v, %v) = %d", a, b, got)
			}
		}
	}
}

func TestApart(t *testing.T) {
	for _, c := range []struct {
		l    []api.Rect
		want bool
	}{
		{nil, true},
		{[]api.Rect{}, true},
		{[]api.Rect{of(0, 0, 1, 1)}, true},
		{[]api.Rect{{}}, false},
		{[]api.Rect{of(0, 0, 1, 1), of(0, 0, 1, 1)}, false},
		{[]api.Rect{of(0, 0, 2, 2), of(2, 0, 2, 2), of(0, 2, 4, 1)}, true},
		{[]api.Rect{of(0, 2, 4, 1), of(2, 0, 2, 2), of(0, 0, 2, 2)}, true},
		{[]api.Rect{of(0, 0, 2, 2), of(2, 0, 2, 2), of(1, 1, 1, 1)}, false},
		{[]api.Rect{of(1, 1, 1, 1), of(0, 0, 2, 2)}, false},
		{[]api.Rect{of(0, 1, 3, 1), of(1, 0, 1, 3)}, false},
		{[]api.Rect{of(1, 0, 1, 3), of(0, 1, 3, 1)}, false},
		{[]api.Rect{of(0, 0, 5, 5), of(5, 5, 5, 5)}, true},
		{[]api.Rect{of(0, 0, 5, 5), of(4, 4, 5, 5)}, false},
		{[]api.Rect{of(0, 0, 1, 5), of(0, 5, 1, 1), of(0, 4, 1, 1)}, false},
		{[]api.Rect{of(0, 0, 1, 1), of(9, 9, 1, 0)}, false},
		{[]api.Rect{of(0, 0, 1, 1), of(9, 9, 1, math.MaxInt)}, false},
		{[]api.Rect{of(0, 0, math.MaxInt, 1)}, false},
		{[]api.Rect{of(0, 0, maxExtent, maxExtent-1), of(0, maxExtent-1, maxExtent, 1)}, true},
		{[]api.Rect{of(0, 0, maxExtent, maxExtent), of(maxExtent-1, maxExtent-1, 1, 1)}, false},
		{[]api.Rect{of(maxExtent-1, 0, 1, maxExtent), of(0, 0, maxExtent-1, maxExtent)}, true},
	} {
		if got := rect.Apart(c.l...); got != c.want {
			t.Errorf("P4.1: Apart(%v) = %v", c.l, got)
		}
	}
}

// Many of them, that are apart until one more is told, wherever in the list that one stands.
func TestApartOfMany(t *testing.T) {
	var l []api.Rect
	for x := range 200 {
		for y := range 200 {
			l = append(l, of(50*x, 50*y, 50, 50))
		}
	}
	rand.New(rand.NewSource(4)).Shuffle(len(l), func(i, j int) { l[i], l[j] = l[j], l[i] })
	if !rect.Apart(l...) {
		t.Error("P4.1: 40000 that lie side by side aren't apart")
	}
	if rect.Area(l...) != maxExtent*maxExtent {
		t.Errorf("P4.1: they have %d cells", rect.Area(l...))
	}
	for _, at := range []int{0, 1, 20000, 39999, 40000} {
		for _, more := range []api.Rect{of(0, 0, 1, 1), of(5049, 2500, 1, 1), of(9999, 9999, 1, 1)} {
			if rect.Apart(slices.Insert(slices.Clone(l), at, more)...) {
				t.Errorf("P4.1: they are apart with %v at %d, too", more, at)
			}
		}
	}
}

func TestArea(t *testing.T) {
	whole := of(0, 0, maxExtent, maxExtent)
	for _, c := range []struct {
		l    []api.Rect
		want int
	}{
		{nil, 0},
		{[]api.Rect{}, 0},
		{[]api.Rect{{}}, 0},
		{[]api.Rect{of(3, 4, 5, 6)}, 30},
		{[]api.Rect{of(0, 0, 80, 24)}, 1920},
		{[]api.Rect{of(3, 4, 5, 6), of(3, 4, 5, 6)}, 60},
		{[]api.Rect{whole}, 100000000},
		{slices.Repeat([]api.Rect{whole}, 1000), 100000000000},
		{[]api.Rect{of(-1, 0, 2, 2), of(3, 4, 5, 6), of(0, 0, -2, -2)}, 30},
		{[]api.Rect{of(0, 0, math.MaxInt, 1), of(3, 4, 5, 6), of(1, 0, 10000, 1)}, 30},
		{[]api.Rect{of(0, 0, -3, 5), of(0, 0, 3, -5)}, 0},
	} {
		if got := rect.Area(c.l...); got != c.want {
			t.Errorf("P4.1: Area(%.60v) = %d, want %d", c.l, got, c.want)
		}
	}
}

// plainCut goes by what each part is, counted from the sizes ahead of it.
func plainCut(outer api.Rect, axis uint8, sizes ...int) (parts, lines []api.Rect, fits bool) {
	if !plainMay(outer) || axis != 1 && axis != 2 || len(sizes) == 0 {
		return nil, nil, false
	}
	ahead := big.NewInt(-1)
	for _, n := range sizes {
		if n < 1 {
			return nil, nil, false
		}
		ahead.Add(ahead, big.NewInt(int64(n)))
		ahead.Add(ahead, big.NewInt(1))
	}
	long := outer.W
	if axis == 2 {
		long = outer.H
	}
	if ahead.Cmp(big.NewInt(int64(long))) != 0 {
		return nil, nil, false
	}
	for i, n := range sizes {
		from := i
		for _, k := range sizes[:i] {
			from += k
		}
		part, line := outer, outer
		if axis == 1 {
			part.X, part.W, line.X, line.W = outer.X+from, n, outer.X+from+n, 1
		} else {
			part.Y, part.H, line.Y, line.H = outer.Y+from, n, outer.Y+from+n, 1
		}
		parts = append(parts, part)
		if i < len(sizes)-1 {
			lines = append(lines, line)
		}
	}
	return parts, lines, true
}

// sameCut cuts, and holds what is answered against the plain cut (P4.1), and against what all cuts
// keep (P4.2).
func sameCut(t *testing.T, outer api.Rect, axis uint8, sizes ...int) {
	t.Helper()
	parts, lines, fits := rect.Cut(outer, axis, sizes...)
	p, l, f := plainCut(outer, axis, sizes...)
	if fits != f || !slices.Equal(parts, p) || !slices.Equal(lines, l) {
		t.Fatalf("P4.1: Cut(%v, %d, %v) = %v, %v, %v, want %v, %v, %v", outer, axis, sizes, parts, lines, fits, p, l, f)
	}
	if !fits {
		return
	}
	both := slices.Concat(parts, lines)
	if len(parts) != len(sizes) || len(lines) != len(sizes)-1 {
		t.Fatalf("P4.2: Cut(%v, %d, %v) has %d parts and %d lines", outer, axis, sizes, len(parts), len(lines))
	}
	if !rect.Inside(outer, both...) || !rect.Apart(both...) || rect.Area(both...) != rect.Area(outer) {
		t.Fatalf("P4.2: Cut(%v, %d, %v) = %v, %v", outer, axis, sizes, parts, lines)
	}
}

func TestCut(t *testing.T) {
	for _, c := range []struct {
		outer        api.Rect
		axis         uint8
		sizes        []int
		parts, lines []api.Rect
	}{
		{of(0, 0, 80, 24), across, []int{40, 39}, []api.Rect{of(0, 0, 40, 24), of(41, 0, 39, 24)}, []api.Rect{of(40, 0, 1, 24)}},
		{of(0, 0, 80, 24), down, []int{12, 11}, []api.Rect{of(0, 0, 80, 12), of(0, 13, 80, 11)}, []api.Rect{of(0, 12, 80, 1)}},
		{of(3, 5, 10, 9), across, []int{10}, []api.Rect{of(3, 5, 10, 9)}, nil},
		{of(3, 5, 10, 9), down, []int{9}, []api.Rect{of(3, 5, 10, 9)}, nil},
		{of(3, 5, 10, 9), across, []int{1, 2, 5}, []api.Rect{of(3, 5, 1, 9), of(5, 5, 2, 9), of(8, 5, 5, 9)}, []api.Rect{of(4, 5, 1, 9), of(7, 5, 1, 9)}},
		{of(3, 5, 10, 9), down, []int{2, 3, 2}, []api.Rect{of(3, 5, 10, 2), of(3, 8, 10, 3), of(3, 12, 10, 2)}, []api.Rect{of(3, 7, 10, 1), of(3, 11, 10, 1)}},
		{of(7, 8, 3, 1), across, []int{1, 1}, []api.Rect{of(7, 8, 1, 1), of(9, 8, 1, 1)}, []api.Rect{of(8, 8, 1, 1)}},
		{of(9999, 9997, 1, 3), down, []int{1, 1}, []api.Rect{of(9999, 9997, 1, 1), of(9999, 9999, 1, 1)}, []api.Rect{of(9999, 9998, 1, 1)}},
		{of(0, 0, 1, 1), across, []int{1}, []api.Rect{of(0, 0, 1, 1)}, nil},
	} {
		parts, lines, fits := rect.Cut(c.outer, c.axis, c.sizes...)
		if !fits || !slices.Equal(parts, c.parts) || !slices.Equal(lines, c.lines) {
			t.Errorf("P4.1: Cut(%v, %d, %v) = %v, %v, %v", c.outer, c.axis, c.sizes, parts, lines, fits)
		}
		sameCut(t, c.outer, c.axis, c.sizes...)
	}
}

func TestCutOfWhatCanNotBe(t *testing.T) {
	o := of(3, 5, 10, 9)
	for _, c := range []struct {
		outer api.Rect
		axis  uint8
		sizes []int
	}{
		{o, across, nil},
		{o, down, []int{}},
		{o, 0, []int{10}},
		{o, 3, []int{9}},
		{o, 255, []int{10}},
		{o, across, []int{9}},
		{o, across, []int{11}},
		{o, down, []int{10}},
		{o, down, []int{8}},
		{o, across, []int{5, 5}},
		{o, across, []int{5, 3}},
		{o, down, []int{4, 5}},
		{o, across, []int{10, 0}},
		{o, across, []int{9, 0}},
		{o, across, []int{0, 9}},
		{o, across, []int{5, 0, 3}},
		{o, across, []int{10, -1}},
		{o, across, []int{-1, 10}},
		{o, across, []int{11, -2}},
		{o, across, []int{-2, 11}},
		{o, across, []int{10, 1}},
		{o, across, []int{9, 1}},
		{o, across, []int{math.MaxInt}},
		{o, across, []int{math.MinInt}},
		{o, across, []int{math.MaxInt, math.MaxInt, 10}},
		{o, across, []int{1 << 62, 1 << 62, 1 << 62, 1<<62 + 7}},
		{o, across, []int{10, math.MaxInt, math.MaxInt}},
		{o, down, []int{math.MaxInt, math.MinInt, 9}},
		{of(3, 5, 0, 9), down, []int{9}},
		{of(3, 5, 10, 0), across, []int{10}},
		{of(3, 5, 0, 9), across, []int{}},
		{of(3, 5, -1, 9), across, nil},
		{of(-1, 5, 10, 9), across, []int{10}},
		{of(3, -1, 10, 9), across, []int{10}},
		{of(9991, 0, 10, 9), across, []int{10}},
		{of(0, 9992, 10, 9), across, []int{10}},
		{of(0, 0, math.MaxInt, 1), across, []int{math.MaxInt}},
		{of(0, 0, 1, 10001), down, []int{5000, 5000}},
		{of(math.MaxInt, 0, 1, 1), across, []int{1}},
	} {
		if parts, lines, fits := rect.Cut(c.outer, c.axis, c.sizes...); fits || len(parts)+len(lines) != 0 {
			t.Errorf("P4.1: Cut(%v, %d, %v) = %v, %v, %v", c.outer, c.axis, c.sizes, parts, lines, fits)
		}
	}
}

// everyList does something with all lists of at most so many numbers from -1 to n.
func everyList(most, n int, do func(l []int)) {
	var l []int
	var grow func()
	grow = func() {
		do(l)
		if len(l) == most {
			return
		}
		for k := -1; k <= n; k++ {
			l = append(l, k)
			grow()
			l = l[:len(l)-1]
		}
	}
	grow()
}

func TestEverySmallCut(t *testing.T) {
	for w := range 9 {
		for axis := range uint8(4) {
			everyList(4, 8, func(l []int) {
				sameCut(t, of(2, 7, w, 4), axis, l...)
				sameCut(t, of(2, 7, 4, w), axis, l...)
			})
		}
	}
}

// As many parts as there can be, and one more.
func TestCutOfTheWhole(t *testing.T) {
	ones := slices.Repeat([]int{1}, 5000)
	for _, axis := range []uint8{across, down} {
		outer := of(1, 1, maxExtent-1, maxExtent-1)
		sameCut(t, outer, axis, ones...)
		sameCut(t, outer, axis, append(slices.Clone(ones), 1)...)
		sameCut(t, outer, axis, ones[1:]...)
		sameCut(t, of(0, 0, maxExtent, maxExtent), axis, maxExtent)
		sameCut(t, of(0, 0, maxExtent, maxExtent), axis, 1, maxExtent-2)
		sameCut(t, of(0, 0, maxExtent, maxExtent), axis, ones...)
		sameCut(t, of(0, 0, maxExtent, maxExtent), axis, append(slices.Clone(ones[1:]), 2)...)
	}
	if _, _, fits := rect.Cut(of(0, 0, maxExtent, 1), across, slices.Repeat([]int{math.MaxInt}, 1<<16)...); fits {
		t.Error("P4.1: what is too much to be added fits")
	}
}

func TestCutOfEdges(t *testing.T) {
	for _, r := range edgeRects() {
		for axis := range uint8(4) {
			if _, _, fits := rect.Cut(r, axis, r.W); fits != (plainMay(r) && (axis == 1 || axis == 2 && r.W == r.H)) {
				t.Fatalf("P4.1: Cut(%v, %d, %d) is %v", r, axis, r.W, fits)
			}
			if _, _, fits := rect.Cut(r, axis, r.H); fits != (plainMay(r) && (axis == 2 || axis == 1 && r.W == r.H)) {
				t.Fatalf("P4.1: Cut(%v, %d, %d) is %v", r, axis, r.H, fits)
			}
		}
	}
	for _, a := range edges() {
		for _, b := range edges() {
			sameCut(t, of(0, 0, maxExtent, 3), across, a, b)
			sameCut(t, of(0, 0, maxExtent, 3), down, a, b)
		}
	}
}

// randomRects lie side by side in a great rectangle, or nearly so.
func randomRects(g *rand.Rand) []api.Rect {
	var l []api.Rect
	for range g.Intn(7) {
		l = append(l, of(g.Intn(7)-g.Intn(2), g.Intn(7), 1+g.Intn(3), 1+g.Intn(3)-g.Intn(20)/19))
	}
	return l
}

func TestManyLists(t *testing.T) {
	g := rand.New(rand.NewSource(44))
	apart := 0
	for range 20000 {
		l := randomRects(g)
		if got := rect.May(l...); got != plainAll(l...) {
			t.Fatalf("P4.1: May(%v) = %v", l, got)
		}
		if got := rect.Apart(l...); got != plainApart(l...) {
			t.Fatalf("P4.1: Apart(%v) = %v", l, got)
		} else if got && len(l) > 2 {
			apart++
		}
		if got := rect.Area(l...); got != plainArea(l...) {
			t.Fatalf("P4.1: Area(%v) = %d", l, got)
		}
		outer := of(g.Intn(2), g.Intn(2), 5+g.Intn(5), 5+g.Intn(5))
		if got := rect.Inside(outer, l...); got != plainInside(outer, l...) {
			t.Fatalf("P4.1: Inside(%v, %v) = %v", outer, l, got)
		}
	}
	if apart < 500 {
		t.Errorf("only %d lists were apart", apart)
	}
}

// What is handed in isn't changed, nor is the room behind its end.
func TestNothingIsChanged(t *testing.T) {
	room := []api.Rect{of(4, 9, 1, 1), of(2, 5, 1, 1), of(0, 1, 1, 1), of(7, 7, 7, 7), of(1, 1, 1, 1)}
	kept := slices.Clone(room)
	l := room[:3]
	rect.May(l...)
	rect.Inside(of(0, 0, 20, 20), l...)
	if !rect.Apart(l...) {
		t.Error("P4.1: they aren't apart")
	}
	rect.Area(l...)
	if !slices.Equal(room, kept) {
		t.Errorf("P0.4: rectangles that were handed in are changed: %v", room)
	}
	sizes := []int{40, 39, 7, 8}
	rect.Cut(of(0, 0, 80, 24), across, sizes[:2]...)
	rect.Cut(of(0, 0, 24, 80), down, sizes[:2]...)
	if !slices.Equal(sizes, []int{40, 39, 7, 8}) {
		t.Errorf("P0.4: sizes that were handed in are changed: %v", sizes)
	}
}

// Somebody who writes into an answer changes neither its other list nor a later answer.
func TestAnswersAreNewMemory(t *testing.T) {
	outer := of(3, 5, 10, 9)
	for _, axis := range []uint8{across, down} {
		sizes := []int{2, 3, 3}
		if axis == down {
			sizes = []int{2, 3, 2}
		}
		wantParts, wantLines, _ := plainCut(outer, axis, sizes...)
		parts, lines, _ := rect.Cut(outer, axis, sizes...)
		scribble(parts)
		if !slices.Equal(lines, wantLines) {
			t.Errorf("P0.4: lines share memory with parts: %v", lines)
		}
		parts, lines, _ = rect.Cut(outer, axis, sizes...)
		scribble(lines)
		if !slices.Equal(parts, wantParts) {
			t.Errorf("P0.4: parts share memory with lines: %v", parts)
		}
		sizes[0] = 99
		if !slices.Equal(parts, wantParts) {
			t.Errorf("P0.4: parts share memory with sizes: %v", parts)
		}
	}
}

// scribble writes all over a list, and over the room behind its end.
func scribble(l []api.Rect) {
	l = l[:cap(l)]
	for i := range l {
		l[i] = of(-7, -7, -7, -7)
	}
}

func TestTheSameAgain(t *testing.T) {
	for range 3 {
		sameCut(t, of(0, 0, 80, 24), across, 40, 39)
		sameCut(t, of(0, 0, 80, 24), down, 40, 39)
		if !rect.Apart(of(0, 0, 2, 2), of(2, 0, 2, 2)) || rect.Apart(of(0, 0, 2, 2), of(1, 1, 2, 2)) {
			t.Error("P0.6: Apart")
		}
		if rect.Area(of(0, 0, 2, 2)) != 4 {
			t.Error("P0.6: Area")
		}
	}
}

func FuzzRects(f *testing.F) {
	f.Add(0, 0, 80, 24, 40, 39, uint8(1))
	f.Add(3, 5, 10, 9, 4, 4, uint8(2))
	f.Add(-1, 0, 0, 1, math.MaxInt, math.MinInt, uint8(0))
	f.Fuzz(func(t *testing.T, x, y, w, h, a, b int, axis uint8) {
		r := of(x, y, w, h)
		if got := rect.May(r); got != plainMay(r) {
			t.Errorf("P4.1: May(%v) = %v", r, got)
		}
		if got := rect.Has(r, a, b); got != (plainMay(r) && a >= x && a < x+w && b >= y && b < y+h) {
			t.Errorf("P4.1: Has(%v, %d, %d) = %v", r, a, b, got)
		}
		sameCut(t, r, axis, a, b)
		sameCut(t, r, axis, w)
		sameCut(t, r, axis, a, w-a-1)
		sameCut(t, r, axis, b, h-b-1)
		cell := of(a, b, 1, 1)
		within := rect.Has(r, a, b)
		if got := rect.Inside(r, cell); got != within {
			t.Errorf("P4.1: Inside(%v, %v) = %v", r, cell, got)
		}
		if got := rect.Apart(r, cell); got != (plainAll(r, cell) && !within) {
			t.Errorf("P4.1: Apart(%v, %v) = %v", r, cell, got)
		}
	})
}
