package least_test

import (
	"math"
	"math/rand"
	"slices"
	"strconv"
	"strings"
	"testing"

	"sash/api"
	"sash/least"
)

// What the document tells in numbers is written out here, not taken from api.
const (
	leafKind  = uint8(1)
	rowKind   = uint8(2)
	colKind   = uint8(3)
	across    = uint8(1)
	down      = uint8(2)
	maxNum    = 2147483647
	maxExtent = 10000
	maxCells  = 20000
	maxNested = 1 << 16
)

func of(x, y, w, h int) api.Rect { return api.Rect{X: x, Y: y, W: w, H: h} }

func leaf(id int, r api.Rect) api.Cell { return api.Cell{Kind: leafKind, Rect: r, ID: id} }

func row(r api.Rect, kids ...api.Cell) api.Cell {
	return api.Cell{Kind: rowKind, Rect: r, Kids: kids}
}

func col(r api.Rect, kids ...api.Cell) api.Cell {
	return api.Cell{Kind: colKind, Rect: r, Kids: kids}
}

// mixed is a tree that tiles, with all kinds of cells. Their numbers are: 0 the row, 1 the leaf 3,
// 2 a column, 3 the leaf 1, 4 a row, 5 the leaf 0, 6 the leaf 5, 7 the leaf 7.
func mixed() api.Cell {
	low := row(of(9, 9, 6, 4), leaf(0, of(9, 9, 3, 4)), leaf(5, of(13, 9, 2, 4)))
	mid := col(of(9, 2, 6, 11), leaf(1, of(9, 2, 6, 6)), low)
	return row(of(3, 2, 17, 11), leaf(3, of(3, 2, 5, 11)), mid, leaf(7, of(16, 2, 4, 11)))
}

// cells are all cells of a tree, each ahead of its kids: where one stands in the list is its number.
func cells(c api.Cell) []api.Cell {
	var l []api.Cell
	stack := []api.Cell{c}
	for len(stack) > 0 {
		c := stack[len(stack)-1]
		stack = stack[:len(stack)-1]
		l = append(l, c)
		for k := len(c.Kids) - 1; k >= 0; k-- {
			stack = append(stack, c.Kids[k])
		}
	}
	return l
}

// place is where the cell with a number stands in a tree, to be written at.
func place(c *api.Cell, number int) *api.Cell {
	for number > 0 {
		number--
		for k := range c.Kids {
			n := len(cells(c.Kids[k]))
			if number < n {
				c = &c.Kids[k]
				break
			}
			number -= n
		}
	}
	return c
}

// clone is the same tree in memory of its own.
func clone(c api.Cell) api.Cell {
	c.Kids = slices.Clone(c.Kids)
	for k := range c.Kids {
		c.Kids[k] = clone(c.Kids[k])
	}
	return c
}

func same(a, b api.Cell) bool {
	return a.Kind == b.Kind && a.Rect == b.Rect && a.ID == b.ID && slices.EqualFunc(a.Kids, b.Kids, same)
}

func plainMay(c api.Cell) bool {
	far := func(from, size int) bool {
		return from >= 0 && from <= maxExtent && size >= 1 && size <= maxExtent && from+size <= maxExtent
	}
	met := map[int]bool{}
	l := cells(c)
	for _, c := range l {
		isLeaf := c.Kind == leafKind && len(c.Kids) == 0 && c.ID >= 0 && c.ID <= maxNum && !met[c.ID]
		isGroup := (c.Kind == rowKind || c.Kind == colKind) && c.ID == 0 && len(c.Kids) >= 2
		if !isLeaf && !isGroup || !far(c.X, c.W) || !far(c.Y, c.H) {
			return false
		}
		if isLeaf {
			met[c.ID] = true
		}
	}
	return len(l) <= maxCells
}

// plainFilled tells whether a cell that may be has kids that stand side by side, with one column
// (line) between them, from its beginning to its end.
func plainFilled(c api.Cell) bool {
	if c.Kind == leafKind {
		return true
	}
	x, y := c.X, c.Y
	for _, kid := range c.Kids {
		if kid.X != x || kid.Y != y {
			return false
		}
		if c.Kind == rowKind && kid.H == c.H {
			x += kid.W + 1
		} else if c.Kind == colKind && kid.W == c.W {
			y += kid.H + 1
		} else {
			return false
		}
	}
	if c.Kind == rowKind {
		return x == c.X+c.W+1
	}
	return y == c.Y+c.H+1
}

func plainTiles(c api.Cell) bool {
	return plainMay(c) && !slices.ContainsFunc(cells(c), func(c api.Cell) bool { return !plainFilled(c) })
}

// smallest are the least width and the least height of a tree that may be.
func smallest(c api.Cell) (w, h int) {
	if c.Kind == leafKind {
		return 1, 1
	}
	var widths, heights []int
	for _, kid := range c.Kids {
		w, h := smallest(kid)
		widths, heights = append(widths, w), append(heights, h)
	}
	total := func(l []int) int {
		n := len(l) - 1
		for _, x := range l {
			n += x
		}
		return n
	}
	if c.Kind == rowKind {
		return total(widths), slices.Max(heights)
	}
	return slices.Max(widths), total(heights)
}

func plainLeast(c api.Cell, axis uint8) int {
	if !plainMay(c) {
		return 0
	}
	w, h := smallest(c)
	return plainSize(of(0, 0, w, h), axis)
}

func plainSize(r api.Rect, axis uint8) int {
	if axis == across {
		return r.W
	}
	if axis == down {
		return r.H
	}
	return 0
}

func plainGives(c api.Cell, axis uint8) int {
	if !plainTiles(c) {
		return 0
	}
	return plainSize(c.Rect, axis) - plainLeast(c, axis)
}

func plainFits(c api.Cell, w, h int) bool {
	if !plainMay(c) {
		return false
	}
	leastW, leastH := smallest(c)
	return w >= leastW && w <= maxExtent-c.X && h >= leastH && h <= maxExtent-c.Y
}

func plainAlong(c api.Cell, axis uint8) bool {
	return c.Kind == rowKind && axis == across || c.Kind == colKind && axis == down
}

// plainPath goes to each of the path's beginnings from the tree itself.
func plainPath(c api.Cell, axis uint8, path []int) int {
	n := 0
	for end := range path {
		there, ok := c, true
		for _, k := range path[:end] {
			if ok = ok && k >= 0 && k < len(there.Kids); ok {
				there = there.Kids[k]
			}
		}
		if ok && plainAlong(there, axis) {
			n++
		}
	}
	return n
}

// paths are the paths of all cells of a tree.
func paths(c api.Cell) [][]int {
	l := [][]int{nil}
	for k, kid := range c.Kids {
		for _, path := range paths(kid) {
			l = append(l, append([]int{k}, path...))
		}
	}
	return l
}

// sameSizes holds what is asked of one tree's sizes against the plain reading.
func sameSizes(t *testing.T, c api.Cell) {
	t.Helper()
	for axis := range uint8(4) {
		if got, want := least.Size(c.Rect, axis), plainSize(c.Rect, axis); got != want {
			t.Fatalf("P8.1: Size(%v, %d) = %d, not %d", c.Rect, axis, got, want)
		}
		if got, want := least.Least(c, axis), plainLeast(c, axis); got != want {
			t.Fatalf("P8.1: Least(%v, %d) = %d, not %d", c, axis, got, want)
		}
		if got, want := least.Gives(c, axis), plainGives(c, axis); got != want {
			t.Fatalf("P8.1: Gives(%v, %d) = %d, not %d", c, axis, got, want)
		}
		if got, want := least.Along(c, axis), plainAlong(c, axis); got != want {
			t.Fatalf("P8.1: Along(%v, %d) = %v", c, axis, got)
		}
	}
}

func sameFits(t *testing.T, c api.Cell, w, h int) {
	t.Helper()
	if got, want := least.Fits(c, w, h), plainFits(c, w, h); got != want {
		t.Fatalf("P8.1: Fits(%v, %d, %d) = %v", c, w, h, got)
	}
}

func samePath(t *testing.T, c api.Cell, path []int) {
	t.Helper()
	for axis := range uint8(4) {
		if got, want := least.Path(c, axis, path...), plainPath(c, axis, path); got != want {
			t.Fatalf("P8.1: Path(%v, %d, %v) = %d, not %d", c, axis, path, got, want)
		}
	}
}

// ends are sizes at the edges of what fits, and far beyond them, when there is so much room.
func ends(least, from int) []int {
	l := []int{math.MinInt, -maxExtent, -1, 0, 1, maxExtent, maxExtent + 1, math.MaxInt}
	return append(l, least-1, least, least+1, maxExtent-from-1, maxExtent-from, maxExtent-from+1)
}

// sameAnswers holds all that is asked of one tree against the plain reading.
func sameAnswers(t *testing.T, c api.Cell) {
	t.Helper()
	sameSizes(t, c)
	leastW, leastH := plainLeast(c, across), plainLeast(c, down)
	for _, w := range ends(leastW, c.X) {
		sameFits(t, c, w, leastH)
		sameFits(t, c, w, w)
	}
	for _, h := range ends(leastH, c.Y) {
		sameFits(t, c, leastW, h)
	}
	sameFits(t, c, c.W, c.H)
	for _, path := range paths(c) {
		for _, more := range [][]int{nil, {0}, {1}, {-1}, {99}, {1, 0, 1}} {
			samePath(t, c, append(slices.Clone(path), more...))
		}
	}
	givesAsKids(t, c)
}

// givesAsKids holds each cell of a tree that tiles against the second promise.
func givesAsKids(t *testing.T, c api.Cell) {
	t.Helper()
	if !plainTiles(c) {
		return
	}
	for _, c := range cells(c) {
		if c.Kind == leafKind {
			continue
		}
		own, other := across, down
		if c.Kind == colKind {
			own, other = down, across
		}
		together, fewest := 0, math.MaxInt
		for _, kid := range c.Kids {
			together += least.Gives(kid, own)
			fewest = min(fewest, least.Gives(kid, other))
		}
		if got := least.Gives(c, own); got != together {
			t.Fatalf("P8.2: %v gives %d along its own axis, its kids %d together", c, got, together)
		}
		if got := least.Gives(c, other); got != fewest {
			t.Fatalf("P8.2: %v gives %d along the other axis, the kid that gives least %d", c, got, fewest)
		}
	}
}

func TestExample(t *testing.T) {
	c := row(of(0, 0, 80, 24), leaf(1, of(0, 0, 40, 24)), leaf(2, of(41, 0, 39, 24)))
	if got := least.Least(c, across); got != 3 {
		t.Errorf("P8.1: the least width of a row of two leaves is %d", got)
	}
}

// The size is asked of all rectangles, those that may not be, too.
func TestSize(t *testing.T) {
	for _, n := range [][2]int{{1, 1}, {80, 24}, {24, 80}, {0, 0}, {-3, 5}, {5, -3}, {math.MinInt, math.MaxInt}, {math.MaxInt, math.MinInt}} {
		for _, at := range []int{0, 7, -7, math.MaxInt} {
			r := of(at, 1-at, n[0], n[1])
			if w, h := least.Size(r, across), least.Size(r, down); w != n[0] || h != n[1] {
				t.Errorf("P8.1: the sizes of %v are %d and %d", r, w, h)
			}
		}
	}
}

func TestAlong(t *testing.T) {
	for kind := range 256 {
		for axis := range 256 {
			for _, kids := range [][]api.Cell{nil, mixed().Kids} {
				c := api.Cell{Kind: uint8(kind), Rect: of(0, 0, 9, 5), ID: 4, Kids: kids}
				want := kind == 2 && axis == 1 || kind == 3 && axis == 2
				if got := least.Along(c, uint8(axis)); got != want {
					t.Errorf("P8.1: Along of the kind %d, and the axis %d = %v", kind, axis, got)
				}
			}
		}
	}
}

// There are two axes.
func TestNoSuchAxis(t *testing.T) {
	c := mixed()
	for n := range 256 {
		axis := uint8(n)
		if axis == across || axis == down {
			continue
		}
		if got := least.Size(c.Rect, axis); got != 0 {
			t.Errorf("P8.1: Size(.., %d) = %d", axis, got)
		}
		for _, c := range cells(c) {
			if a, b := least.Least(c, axis), least.Gives(c, axis); a != 0 || b != 0 {
				t.Errorf("P8.1: Least(.., %d) = %d, Gives(.., %d) = %d", axis, a, axis, b)
			}
		}
		if got := least.Path(c, axis, 1, 1, 0); got != 0 {
			t.Errorf("P8.1: Path(.., %d, 1, 1, 0) = %d", axis, got)
		}
	}
}

func TestMixed(t *testing.T) {
	c := mixed()
	for number, want := range [][4]int{ // least width and height, what it gives across and down
		{7, 3, 10, 8},
		{1, 1, 4, 10}, {3, 3, 3, 8}, {1, 1, 5, 5}, {3, 1, 3, 3}, {1, 1, 2, 3}, {1, 1, 1, 3}, {1, 1, 3, 10},
	} {
		c := cells(c)[number]
		got := [4]int{least.Least(c, across), least.Least(c, down), least.Gives(c, across), least.Gives(c, down)}
		if got != want {
			t.Errorf("P8.1: the cell %d: %v, not %v", number, got, want)
		}
		sameAnswers(t, c)
	}
}

func TestLeast(t *testing.T) {
	o := of(0, 0, 9, 9)
	id := 0
	pane := func() api.Cell {
		id++
		return leaf(id, o)
	}
	pair := func() []api.Cell { return []api.Cell{pane(), pane()} }
	for _, c := range []struct {
		tree api.Cell
		w, h int
	}{
		{pane(), 1, 1},
		{row(o, pair()...), 3, 1},
		{col(o, pair()...), 1, 3},
		{row(o, pane(), pane(), pane(), pane(), pane()), 9, 1},
		{col(o, pane(), pane(), pane(), pane(), pane(), pane()), 1, 11}, // more than it has
		{row(o, row(o, pair()...), pane()), 5, 1},                       // a row in a row
		{col(o, pane(), col(o, pane(), col(o, pair()...))), 1, 7},
		{row(o, col(o, pair()...), col(o, pane(), pane(), pane())), 3, 5}, // the greatest is the last
		{row(o, col(o, pane(), pane(), pane()), col(o, pair()...)), 3, 5}, // the greatest is the first
		{col(o, pane(), row(o, pane(), pane(), pane()), row(o, pair()...)), 5, 5},
		{col(o, row(o, pair()...), row(o, col(o, pair()...), pane())), 3, 5},
		{row(o, col(o, row(o, pair()...), pane()), col(o, pane(), row(o, pair()...))), 7, 3},
	} {
		if w, h := least.Least(c.tree, across), least.Least(c.tree, down); w != c.w || h != c.h {
			t.Errorf("P8.1: the least sizes of %v are %d and %d, not %d and %d", c.tree, w, h, c.w, c.h)
		}
		sameAnswers(t, c.tree)
	}
}

// A tree that may be, but doesn't tile, has a least size, but nothing to give.
func TestTreesThatDontTile(t *testing.T) {
	for number := range cells(mixed()) {
		for _, change := range []func(c *api.Cell){func(c *api.Cell) { c.X++ }, func(c *api.Cell) { c.Y-- }, func(c *api.Cell) { c.W-- }, func(c *api.Cell) { c.H++ }} {
			c := mixed()
			change(place(&c, number))
			if w, h := least.Least(c, across), least.Least(c, down); w != 7 || h != 3 {
				t.Errorf("P8.1: the least sizes of %v are %d and %d", c, w, h)
			}
			if a, b := least.Gives(c, across), least.Gives(c, down); a != 0 || b != 0 {
				t.Errorf("P8.1: %v, that doesn't tile, gives %d and %d", c, a, b)
			}
			if !least.Fits(c, 7, 3) || least.Fits(c, 6, 3) || least.Fits(c, 7, 2) {
				t.Errorf("P8.1: Fits of %v, that may be", c)
			}
			sameAnswers(t, c)
		}
	}
}

// wrongCells may not be, neither alone nor in others.
func wrongCells() []api.Cell {
	o := of(0, 0, 3, 1)
	two := []api.Cell{leaf(101, of(0, 0, 1, 1)), leaf(102, of(2, 0, 1, 1))}
	l := []api.Cell{
		{}, {Kind: 0, Rect: o}, {Kind: 0, Rect: o, Kids: two}, {Kind: 4, Rect: o, Kids: two}, {Kind: 255, Rect: o},
		leaf(-1, o), leaf(maxNum+1, o), leaf(math.MinInt, o), leaf(math.MaxInt, o),
		{Kind: leafKind, Rect: o, ID: 3, Kids: two}, row(o), col(o), row(o, leaf(101, o)), col(o, leaf(101, o)),
		row(o, two[0], leaf(101, of(2, 0, 1, 1))),
		{Kind: rowKind, Rect: o, ID: 1, Kids: two}, {Kind: colKind, Rect: o, ID: -1, Kids: two},
	}
	for _, r := range []api.Rect{
		{}, of(-1, 0, 3, 1), of(0, -1, 3, 1), of(0, 0, 0, 1), of(0, 0, 3, 0), of(0, 0, -3, 1), of(0, 0, 3, -1),
		of(0, 0, maxExtent+1, 1), of(0, 0, 1, maxExtent+1), of(maxExtent, 0, 1, 1), of(0, maxExtent, 1, 1),
		of(math.MaxInt, 0, 1, 1), of(math.MaxInt, 0, math.MaxInt, 1), of(0, math.MinInt, 1, math.MinInt), of(1, 1, math.MinInt, math.MinInt),
	} {
		l = append(l, leaf(3, r), row(r, two...), col(r, two...), row(o, two[0], leaf(3, r)))
	}
	return l
}

func TestTreesThatMayNotBe(t *testing.T) {
	for _, wrong := range wrongCells() {
		trees := []api.Cell{wrong, row(of(0, 0, 7, 1), wrong, leaf(1, of(4, 0, 3, 1))), col(of(0, 0, 3, 3), leaf(1, of(0, 2, 3, 1)), wrong)}
		for number := range cells(mixed()) {
			c := mixed()
			if number > 0 {
				*place(&c, number) = wrong
				trees = append(trees, c)
			}
		}
		for _, c := range trees {
			for _, axis := range []uint8{across, down} {
				if a, b := least.Least(c, axis), least.Gives(c, axis); a != 0 || b != 0 {
					t.Errorf("P8.1: Least(%v, %d) = %d, it gives %d", c, axis, a, b)
				}
			}
			for _, n := range []int{0, 1, 3, 100, maxExtent} {
				if least.Fits(c, n, n) {
					t.Errorf("P8.1: Fits(%v, %d, %d)", c, n, n)
				}
			}
			sameAnswers(t, c)
		}
	}
}

func TestFits(t *testing.T) {
	type size struct {
		w, h int
		fits bool
	}
	c := mixed() // at 3, 2: at least 7 by 3, at most 9997 by 9998
	for _, s := range []size{
		{7, 3, true}, {6, 3, false}, {7, 2, false}, {6, 2, false}, {3, 7, false},
		{9997, 9998, true}, {9998, 9998, false}, {9997, 9999, false}, {9997, 3, true}, {7, 9998, true},
		{9998, 3, false}, {7, 9999, false}, {maxExtent, maxExtent, false},
		{0, 0, false}, {-7, -3, false}, {7, -3, false}, {math.MinInt, 3, false}, {7, math.MinInt, false},
		{math.MaxInt, 3, false}, {7, math.MaxInt, false}, {math.MinInt, math.MaxInt, false},
	} {
		if got := least.Fits(c, s.w, s.h); got != s.fits {
			t.Errorf("P8.1: Fits(.., %d, %d) = %v", s.w, s.h, got)
		}
	}
	one := leaf(0, of(maxExtent-1, 0, 1, 1))
	for _, s := range []size{{1, 1, true}, {1, maxExtent, true}, {2, 1, false}, {0, 1, false}, {1, 0, false}, {1, maxExtent + 1, false}} {
		if got := least.Fits(one, s.w, s.h); got != s.fits {
			t.Errorf("P8.1: Fits of a leaf in the last column, %d, %d = %v", s.w, s.h, got)
		}
	}
}

// Where the least size is more than there is room for, no size fits.
func TestNoSizeFits(t *testing.T) {
	for _, r := range []api.Rect{of(maxExtent-2, 0, 1, 1), of(0, maxExtent-2, 1, 1)} {
		wide := row(r, leaf(1, r), leaf(2, r))
		high := col(r, leaf(1, r), leaf(2, r))
		for w := range 5 {
			for h := range 5 {
				sameFits(t, wide, w, h)
				sameFits(t, high, w, h)
				if r.X > 0 && least.Fits(wide, w, h) || r.Y > 0 && least.Fits(high, w, h) {
					t.Errorf("P8.1: %d by %d fits at the end", w, h)
				}
			}
		}
	}
}

func TestPath(t *testing.T) {
	c := mixed()
	for _, p := range []struct {
		path         []int
		across, down int
	}{
		{nil, 0, 0},
		{[]int{0}, 1, 0}, {[]int{1}, 1, 0}, {[]int{2}, 1, 0},
		{[]int{1, 0}, 1, 1}, {[]int{1, 1}, 1, 1},
		{[]int{1, 1, 0}, 2, 1}, {[]int{1, 1, 1}, 2, 1},
		{[]int{1, 1, 1, 0}, 2, 1}, // a leaf's kid: the leaf is there, and along no axis
		{[]int{1, 1, 1, 0, 0, 0}, 2, 1},
		{[]int{3}, 1, 0}, {[]int{-1}, 1, 0}, {[]int{math.MaxInt}, 1, 0}, {[]int{math.MinInt}, 1, 0},
		{[]int{3, 1, 1}, 1, 0}, {[]int{-1, 1, 1}, 1, 0}, // behind what isn't there nothing is
		{[]int{1, 2}, 1, 1}, {[]int{1, 2, 0}, 1, 1}, {[]int{1, -1, 1, 1}, 1, 1},
		{[]int{1, 1, 2, 1}, 2, 1}, {[]int{0, 1, 1}, 1, 0},
	} {
		if a, b := least.Path(c, across, p.path...), least.Path(c, down, p.path...); a != p.across || b != p.down {
			t.Errorf("P8.1: Path(.., %v) = %d across, %d down, not %d, %d", p.path, a, b, p.across, p.down)
		}
		samePath(t, c, p.path)
	}
	if least.Path(c, across, []int{}...) != 0 {
		t.Error("P0.5: an empty path isn't none")
	}
}

// Path asks of no tree whether it may be: cells of any kind are gone through.
func TestPathOfOddTrees(t *testing.T) {
	lone := row(api.Rect{}, col(api.Rect{}, api.Cell{Kind: leafKind, Kids: []api.Cell{row(api.Rect{}, api.Cell{Kind: 9, Kids: []api.Cell{col(api.Rect{})}})}}))
	for n := range 8 {
		path := make([]int, n)
		a, b := least.Path(lone, across, path...), least.Path(lone, down, path...)
		wantA, wantB := []int{0, 1, 1, 1, 2, 2, 2, 2}[n], []int{0, 0, 1, 1, 1, 1, 2, 2}[n]
		if a != wantA || b != wantB {
			t.Errorf("P8.1: Path(.., %v) = %d across, %d down, not %d, %d", path, a, b, wantA, wantB)
		}
		samePath(t, lone, path)
	}
	for _, c := range wrongCells() {
		for _, path := range append(paths(c), []int{0, 0, 0}, []int{1, 1}, []int{-1}) {
			samePath(t, c, path)
		}
	}
}

// tilings does something with all trees that tile a rectangle, at most so deep; IDs are all 0.
func tilings(r api.Rect, deep int, do func(c api.Cell)) {
	do(leaf(0, r))
	if deep == 1 {
		return
	}
	for _, kind := range []uint8{rowKind, colKind} {
		kidLists(r, kind, deep-1, nil, func(kids []api.Cell) {
			if len(kids) > 1 {
				do(clone(api.Cell{Kind: kind, Rect: r, Kids: kids}))
			}
		})
	}
}

// kidLists does something with all lists of kids that fill a rectangle, in a row or a column.
func kidLists(r api.Rect, kind uint8, deep int, kids []api.Cell, do func(kids []api.Cell)) {
	size := r.W
	if kind == colKind {
		size = r.H
	}
	for n := 1; n <= size; n++ {
		head, rest := of(r.X, r.Y, n, r.H), of(r.X+n+1, r.Y, r.W-n-1, r.H)
		if kind == colKind {
			head, rest = of(r.X, r.Y, r.W, n), of(r.X, r.Y+n+1, r.W, r.H-n-1)
		}
		tilings(head, deep, func(kid api.Cell) {
			if n == size {
				do(append(kids, kid))
			} else {
				kidLists(rest, kind, deep, append(kids, kid), do)
			}
		})
	}
}

// number gives the leaves of a tree IDs, one behind the other.
func number(c *api.Cell, from int) int {
	if c.Kind == leafKind {
		c.ID = from
		return from + 1
	}
	for k := range c.Kids {
		from = number(&c.Kids[k], from)
	}
	return from
}

// shape is what a tree is, whatever its sizes are.
func shape(c api.Cell) string {
	var b strings.Builder
	for _, c := range cells(c) {
		b.WriteString(strconv.Itoa(int(c.Kind)) + "/" + strconv.Itoa(len(c.Kids)) + " ")
	}
	return b.String()
}

// Of all trees of one shape that tile a rectangle the narrowest one is as wide as the least width
// of each of them, and the lowest one as high as the least height: less can't be tiled.
func TestLeastIsTheSmallestThatTiles(t *testing.T) {
	type found struct{ w, h, leastW, leastH, trees int }
	shapes := map[string]found{}
	for w := 1; w <= 5; w++ {
		for h := 1; h <= 5; h++ {
			tilings(of(w, h, w, h), 3, func(c api.Cell) {
				number(&c, 0)
				f, ok := shapes[shape(c)]
				if !ok {
					f = found{w, h, least.Least(c, across), least.Least(c, down), 0}
				}
				if a, b := least.Least(c, across), least.Least(c, down); a != f.leastW || b != f.leastH {
					t.Fatalf("P8.1: least sizes of one shape are %d, %d and %d, %d: %v", a, b, f.leastW, f.leastH, c)
				}
				f.w, f.h, f.trees = min(f.w, w), min(f.h, h), f.trees+1
				shapes[shape(c)] = f
			})
		}
	}
	again := 0
	for name, f := range shapes {
		if f.w != f.leastW || f.h != f.leastH {
			t.Errorf("P8.1: the least sizes of %s are %d and %d, but it tiles %d and %d", name, f.leastW, f.leastH, f.w, f.h)
		}
		if f.trees > 1 {
			again++
		}
	}
	if len(shapes) < 50 || again < 30 {
		t.Errorf("only %d shapes, %d of them more than once", len(shapes), again)
	}
}

// changes are what is done to a cell of a tree that tiles; most trees don't, then.
func changes() []func(c *api.Cell) {
	return []func(c *api.Cell){
		func(c *api.Cell) { c.X++ }, func(c *api.Cell) { c.X-- },
		func(c *api.Cell) { c.Y++ }, func(c *api.Cell) { c.Y-- },
		func(c *api.Cell) { c.W++ }, func(c *api.Cell) { c.W-- },
		func(c *api.Cell) { c.H++ }, func(c *api.Cell) { c.H-- },
		func(c *api.Cell) { c.X, c.Y, c.W, c.H = c.Y, c.X, c.H, c.W },
		func(c *api.Cell) { c.Kind = rowKind }, func(c *api.Cell) { c.Kind = colKind },
		func(c *api.Cell) { c.Kind = leafKind }, func(c *api.Cell) { c.ID++ },
		func(c *api.Cell) { slices.Reverse(c.Kids) },
		func(c *api.Cell) { c.Kids = c.Kids[:max(len(c.Kids)-1, 0)] },
		func(c *api.Cell) { c.Kids = c.Kids[min(len(c.Kids), 1):] },
		func(c *api.Cell) { c.Kids = append(slices.Clone(c.Kids), leaf(77, c.Rect)) },
	}
}

func TestEverySmallTiling(t *testing.T) {
	trees := 0
	for _, r := range []api.Rect{of(2, 1, 1, 1), of(0, 0, 3, 1), of(1, 1, 3, 3), of(1, 2, 4, 3), of(1, 2, 3, 5), of(0, 1, 1, 7)} {
		tilings(r, 3, func(c api.Cell) {
			trees++
			number(&c, 0)
			sameAnswers(t, c)
			for at := range cells(c) {
				for _, change := range changes() {
					other := clone(c)
					change(place(&other, at))
					sameSizes(t, other)
				}
			}
		})
	}
	if trees < 100 {
		t.Errorf("only %d trees tiled", trees)
	}
}

// randomTree is a tree that tiles a rectangle.
func randomTree(g *rand.Rand, r api.Rect, deep int) api.Cell {
	kind, size := rowKind, r.W
	if g.Intn(2) > 0 {
		kind, size = colKind, r.H
	}
	if deep == 0 || size < 3 || g.Intn(6) == 0 {
		return leaf(0, r)
	}
	c := api.Cell{Kind: kind, Rect: r}
	from := 0
	for from < size {
		n := 1 + g.Intn(size-from)
		if from == 0 {
			n = 1 + g.Intn(size-2)
		}
		if n == size-from-1 {
			n++ // behind it there is space for a line, but for none of its kids
		}
		part := of(r.X+from, r.Y, n, r.H)
		if kind == colKind {
			part = of(r.X, r.Y+from, r.W, n)
		}
		c.Kids = append(c.Kids, randomTree(g, part, deep-1))
		from += n + 1
	}
	if len(c.Kids) < 2 {
		return leaf(0, r)
	}
	return c
}

func TestManyTrees(t *testing.T) {
	g := rand.New(rand.NewSource(88))
	most, gave := 0, 0
	for range 200 {
		c := randomTree(g, of(g.Intn(30), g.Intn(30), 1+g.Intn(60), 1+g.Intn(40)), 1+g.Intn(9))
		number(&c, g.Intn(1000))
		if !plainTiles(c) {
			t.Fatalf("%v doesn't tile", c)
		}
		sameAnswers(t, c)
		for range 20 {
			sameFits(t, c, g.Intn(70)-5, g.Intn(50)-5)
		}
		for range 20 {
			other := clone(c)
			for range 1 + g.Intn(2) {
				all := changes()
				all[g.Intn(len(all))](place(&other, g.Intn(len(cells(other)))))
			}
			sameSizes(t, other)
			sameFits(t, other, g.Intn(70)-5, g.Intn(50)-5)
			samePath(t, other, []int{g.Intn(4), g.Intn(4), g.Intn(4), g.Intn(4)})
		}
		most = max(most, len(cells(c)))
		if len(c.Kids) > 0 && least.Gives(c, across) > 0 && least.Gives(c, down) > 0 {
			gave++
		}
	}
	if most < 50 || gave < 50 {
		t.Errorf("the greatest tree had %d cells, %d gave along both axes", most, gave)
	}
}

// wide is a row of so many leaves from a column on, each 1 wide, in a line.
func wide(n, id, x, y int) api.Cell {
	c := row(of(x, y, 2*n-1, 1))
	for k := range n {
		c.Kids = append(c.Kids, leaf(id+k, of(x+2*k, y, 1, 1)))
	}
	return c
}

// As many cells as there can be, and more. The least size may be more than MaxExtent, of a tree that
// may be, but doesn't tile.
func TestMostCells(t *testing.T) {
	for _, n := range []int{maxCells - 2, maxCells - 1, maxCells} {
		line, pile := row(of(0, 0, 9, 9)), col(of(0, 0, 9, 9))
		for id := range n {
			line.Kids = append(line.Kids, leaf(id, of(0, 0, 1, 1)))
			pile.Kids = append(pile.Kids, leaf(id, of(0, 0, 1, 1)))
		}
		long, one := 2*n-1, 1
		if n+1 > maxCells {
			long, one = 0, 0
		}
		if a, b := least.Least(line, across), least.Least(line, down); a != long || b != one {
			t.Errorf("P8.1: the least sizes of %d leaves in a row are %d, %d", n, a, b)
		}
		if a, b := least.Least(pile, across), least.Least(pile, down); a != one || b != long {
			t.Errorf("P8.1: the least sizes of %d leaves in a column are %d, %d", n, a, b)
		}
		for _, size := range []int{1, maxExtent, 2*n - 1} {
			if least.Fits(line, size, 1) || least.Fits(pile, 1, size) {
				t.Errorf("P8.1: %d leaves fit into %d", n, size)
			}
		}
	}
	for x := range 2 { // as many as there is space for, and not one column to give
		c := wide(5000, 0, x, 0)
		if a, b := least.Gives(c, across), least.Least(c, across); a != 0 || b != 9999 {
			t.Errorf("P8.1: 5000 leaves in a row give %d, of at least %d", a, b)
		}
		if !least.Fits(c, 9999, 1) || least.Fits(c, 9998, 1) || least.Fits(c, maxExtent, 1) != (x == 0) {
			t.Errorf("P8.1: Fits of 5000 leaves in a row from the column %d on", x)
		}
	}
	c := wide(5000, 0, 0, 0)
	c.W, c.Kids[4999].W = maxExtent, 2
	sameSizes(t, c)
	givesAsKids(t, c)
	if got := least.Gives(c, across); got != 1 {
		t.Errorf("P8.1: it gives %d, not its one column", got)
	}
}

// stair is as deep as a tree that tiles can be: each row has a leaf 1 wide and a column, each column
// a leaf 1 high and a row.
func stair() api.Cell {
	c := leaf(0, of(maxExtent-2, maxExtent-2, 2, 2))
	for id := 1; c.X >= 2; id += 2 {
		x, y, size := c.X, c.Y, c.W
		c = row(of(x-2, y, size+2, size), leaf(id, of(x-2, y, 1, size)), c)
		c = col(of(x-2, y-2, size+2, size+2), leaf(id+1, of(x-2, y-2, size+2, 1)), c)
	}
	return c
}

func TestDeepestThatTiles(t *testing.T) {
	c := stair()
	for _, axis := range []uint8{across, down} {
		if a, b := least.Least(c, axis), least.Gives(c, axis); a != maxExtent-1 || b != 1 {
			t.Errorf("P8.1: a stair's least size along %d is %d, it gives %d", axis, a, b)
		}
	}
	if !least.Fits(c, maxExtent-1, maxExtent-1) || !least.Fits(c, maxExtent, maxExtent) || least.Fits(c, maxExtent-2, maxExtent) || least.Fits(c, maxExtent, maxExtent-2) {
		t.Error("P8.1: Fits of a stair")
	}
	path := slices.Repeat([]int{1}, 9998)
	for _, x := range []struct{ steps, across, down int }{{0, 0, 0}, {1, 0, 1}, {2, 1, 1}, {3, 1, 2}, {9997, 4998, 4999}, {9998, 4999, 4999}} {
		if a, b := least.Path(c, across, path[:x.steps]...), least.Path(c, down, path[:x.steps]...); a != x.across || b != x.down {
			t.Errorf("P8.1: %d steps down a stair: %d across, %d down", x.steps, a, b)
		}
	}
	if got := least.Path(c, across, append(path, path...)...); got != 4999 {
		t.Errorf("P8.1: beyond a stair's end: %d", got)
	}
}

// As deep as the document bounds it, or beyond all counting: every call ends, and in time.
func TestEnds(t *testing.T) {
	o := of(0, 0, 3, 1)
	deep := leaf(7, o)
	for range maxNested - 1 {
		deep = row(o, leaf(1, o), deep)
	}
	many := leaf(1, o)
	for range 200 {
		many = row(o, many, many)
	}
	round := make([]api.Cell, 2)
	round[0], round[1] = row(o, round...), row(o, round...)
	steps := slices.Repeat([]int{1}, 3*maxNested)
	for _, x := range []struct {
		tree api.Cell
		path int
	}{{deep, maxNested - 1}, {many, 200}, {round[0], 3 * maxNested}} {
		for axis := range uint8(4) {
			if a, b := least.Least(x.tree, axis), least.Gives(x.tree, axis); a != 0 || b != 0 {
				t.Errorf("P8.1: what may not be has the least size %d, and gives %d", a, b)
			}
		}
		if least.Fits(x.tree, 100, 100) || !least.Along(x.tree, across) || least.Along(x.tree, down) {
			t.Error("P8.1: what may not be")
		}
		if a, b := least.Path(x.tree, across, steps...), least.Path(x.tree, down, steps...); a != x.path || b != 0 {
			t.Errorf("P8.1: a long path: %d across, %d down, not %d", a, b, x.path)
		}
	}
}

// What a leaf's kids are called plays no part: none are none.
func TestNilAndEmpty(t *testing.T) {
	c := mixed()
	for _, number := range []int{1, 3, 5, 6, 7} {
		place(&c, number).Kids = []api.Cell{}
	}
	if least.Least(c, across) != 7 || least.Least(c, down) != 3 || least.Gives(c, across) != 10 || !least.Fits(c, 7, 3) {
		t.Error("P0.5: no kids are no kids")
	}
	sameAnswers(t, c)
}

// roomy is the tree with room behind each list of kids, filled with something that is none of them.
func roomy(c api.Cell) api.Cell {
	kids := make([]api.Cell, 0, len(c.Kids)+2)
	for _, kid := range c.Kids {
		kids = append(kids, roomy(kid))
	}
	copy(kids[len(kids):cap(kids)], []api.Cell{leaf(-77, c.Rect), leaf(-78, c.Rect)})
	c.Kids = kids
	return c
}

// untouched tells whether the room that roomy made is as it was, in the whole tree.
func untouched(c api.Cell) bool {
	room := c.Kids[len(c.Kids):cap(c.Kids)]
	return len(room) == 2 && same(room[0], leaf(-77, c.Rect)) && same(room[1], leaf(-78, c.Rect)) &&
		!slices.ContainsFunc(c.Kids, func(kid api.Cell) bool { return !untouched(kid) })
}

// What is handed in isn't changed, nor is the room behind its end.
func TestNothingIsChanged(t *testing.T) {
	turned := func() api.Cell {
		c := mixed()
		c.Kind = colKind
		return c
	}
	for _, tree := range []func() api.Cell{mixed, turned} {
		c := roomy(tree())
		path := []int{1, 1, 0, 7, 7}
		for axis := range uint8(4) {
			least.Least(c, axis)
			least.Gives(c, axis)
			least.Along(c, axis)
			least.Path(c, axis, path[:3]...)
			least.Path(c, axis, path[:4]...)
		}
		least.Fits(c, 7, 3)
		least.Fits(c, 1, 1)
		if !same(c, tree()) || !untouched(c) || !slices.Equal(path, []int{1, 1, 0, 7, 7}) {
			t.Errorf("P0.4: what was handed in is changed: %v, %v", c, path)
		}
		sameAnswers(t, c)
	}
}

func TestTheSameAgain(t *testing.T) {
	for range 3 {
		sameAnswers(t, mixed())
		for _, c := range wrongCells() {
			sameAnswers(t, c)
		}
	}
}

func FuzzTrees(f *testing.F) {
	f.Add(int64(1), 80, 24, 4, uint8(0), 0, 0)
	f.Add(int64(2), 5, 5, 3, uint8(4), 1, -1)
	f.Add(int64(3), 40, 3, 6, uint8(200), 2, math.MaxInt)
	f.Fuzz(func(t *testing.T, seed int64, w, h, deep int, change uint8, at, by int) {
		r := of(0, 0, 1+int(uint8(w)), 1+int(uint8(h)))
		c := randomTree(rand.New(rand.NewSource(seed)), r, int(uint8(deep)%8))
		number(&c, 0)
		sameSizes(t, c)
		givesAsKids(t, c)
		sameFits(t, c, w, h)
		spot := place(&c, int(uint(at)%uint(len(cells(c)))))
		if int(change) < len(changes()) {
			changes()[change](spot)
		} else {
			*[]*int{&spot.X, &spot.Y, &spot.W, &spot.H, &spot.ID}[change%5] += by
		}
		sameSizes(t, c)
		sameFits(t, c, w, h)
		samePath(t, c, []int{at, by, 1, 0})
		samePath(t, c, []int{at & 1, by & 1, w & 1, h & 1})
	})
}
