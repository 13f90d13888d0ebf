package tile_test

import (
	"math"
	"math/rand"
	"slices"
	"testing"

	"sash/api"
	"sash/fault"
	"sash/rect"
	"sash/tile"
)

// What the document tells in numbers is written out here, not taken from api.
const (
	leafKind  = uint8(1)
	rowKind   = uint8(2)
	colKind   = uint8(3)
	errArg    = api.Errno(1)
	errTile   = api.Errno(5)
	maxNum    = 2147483647
	maxExtent = 10000
	maxCells  = 20000
	maxNested = 1 << 16
)

func of(x, y, w, h int) api.Rect { return api.Rect{X: x, Y: y, W: w, H: h} }

func leaf(id int, r api.Rect) api.Cell { return api.Cell{Kind: leafKind, Rect: r, ID: id} }

func row(r api.Rect, kids ...api.Cell) api.Cell {
	return api.Cell{Kind: rowKind, Rect: r, Kids: kids}
}

func col(r api.Rect, kids ...api.Cell) api.Cell {
	return api.Cell{Kind: colKind, Rect: r, Kids: kids}
}

// mixed is a tree that tiles, with all kinds of cells. Their numbers are: 0 the row, 1 the leaf 3,
// 2 a column, 3 the leaf 1, 4 a row, 5 the leaf 0, 6 the leaf 5, 7 the leaf 7.
func mixed() api.Cell {
	low := row(of(9, 9, 6, 4), leaf(0, of(9, 9, 3, 4)), leaf(5, of(13, 9, 2, 4)))
	mid := col(of(9, 2, 6, 11), leaf(1, of(9, 2, 6, 6)), low)
	return row(of(3, 2, 17, 11), leaf(3, of(3, 2, 5, 11)), mid, leaf(7, of(16, 2, 4, 11)))
}

// cells are all cells of a tree, each ahead of its kids: where one stands in the list is its number.
func cells(c api.Cell) []api.Cell {
	var l []api.Cell
	stack := []api.Cell{c}
	for len(stack) > 0 {
		c := stack[len(stack)-1]
		stack = stack[:len(stack)-1]
		l = append(l, c)
		for k := len(c.Kids) - 1; k >= 0; k-- {
			stack = append(stack, c.Kids[k])
		}
	}
	return l
}

// place is where the cell with a number stands in a tree, to be written at.
func place(c *api.Cell, number int) *api.Cell {
	for number > 0 {
		number--
		for k := range c.Kids {
			n := len(cells(c.Kids[k]))
			if number < n {
				c = &c.Kids[k]
				break
			}
			number -= n
		}
	}
	return c
}

// clone is the same tree in memory of its own.
func clone(c api.Cell) api.Cell {
	c.Kids = slices.Clone(c.Kids)
	for k := range c.Kids {
		c.Kids[k] = clone(c.Kids[k])
	}
	return c
}

func same(a, b api.Cell) bool {
	return a.Kind == b.Kind && a.Rect == b.Rect && a.ID == b.ID && slices.EqualFunc(a.Kids, b.Kids, same)
}

func plainMay(c api.Cell) bool {
	far := func(from, size int) bool {
		return from >= 0 && from <= maxExtent && size >= 1 && size <= maxExtent && from+size <= maxExtent
	}
	met := map[int]bool{}
	l := cells(c)
	for _, c := range l {
		isLeaf := c.Kind == leafKind && len(c.Kids) == 0 && c.ID >= 0 && c.ID <= maxNum && !met[c.ID]
		isGroup := (c.Kind == rowKind || c.Kind == colKind) && c.ID == 0 && len(c.Kids) >= 2
		if !isLeaf && !isGroup || !far(c.X, c.W) || !far(c.Y, c.H) {
			return false
		}
		if isLeaf {
			met[c.ID] = true
		}
	}
	return len(l) <= maxCells
}

// plainFits tells whether a cell that may be has kids that stand side by side, with one column
// (line) between them, from its beginning to its end.
func plainFits(c api.Cell) bool {
	if c.Kind == leafKind {
		return true
	}
	x, y := c.X, c.Y
	for _, kid := range c.Kids {
		if kid.X != x || kid.Y != y {
			return false
		}
		if c.Kind == rowKind && kid.H == c.H {
			x += kid.W + 1
		} else if c.Kind == colKind && kid.W == c.W {
			y += kid.H + 1
		} else {
			return false
		}
	}
	if c.Kind == rowKind {
		return x == c.X+c.W+1
	}
	return y == c.Y+c.H+1
}

// plainCheck is the error's number and its place; 0 and 0, if the tree tiles.
func plainCheck(c api.Cell) (api.Errno, int) {
	if !plainMay(c) {
		return errArg, 0
	}
	for number, c := range cells(c) {
		if !plainFits(c) {
			return errTile, number
		}
	}
	return 0, 0
}

func plainTiles(c api.Cell) bool {
	e, _ := plainCheck(c)
	return e == 0
}

func plainLines(c api.Cell) []api.Rect {
	if !plainTiles(c) {
		return nil
	}
	var l []api.Rect
	for _, c := range cells(c) {
		for k, kid := range c.Kids {
			if k > 0 && c.Kind == rowKind {
				l = append(l, of(kid.X-1, c.Y, 1, c.H))
			} else if k > 0 {
				l = append(l, of(c.X, kid.Y-1, c.W, 1))
			}
		}
	}
	return l
}

func plainHit(c api.Cell, x, y int) (int, bool) {
	if !plainTiles(c) {
		return 0, false
	}
	for _, c := range cells(c) {
		if c.Kind == leafKind && c.X <= x && x < c.X+c.W && c.Y <= y && y < c.Y+c.H {
			return c.ID, true
		}
	}
	return 0, false
}

// sameCheck holds what tells whether a tree tiles against the plain reading.
func sameCheck(t *testing.T, c api.Cell) {
	t.Helper()
	e, at := plainCheck(c)
	err := tile.Check(c)
	if (err == nil) != (e == 0) || fault.Code(err) != e {
		t.Fatalf("P6.1: Check(%v) = %v, not %v at %d", c, err, e, at)
	}
	if place, ok := fault.At(err); ok != (e != 0) || place != at {
		t.Fatalf("P6.1: Check(%v) = %v, not %v at %d", c, err, e, at)
	}
	if got := tile.Tiles(c); got != (e == 0) {
		t.Fatalf("P6.1: Tiles(%v) = %v", c, got)
	}
}

// sameAnswers holds all that is asked of one tree against the plain reading.
func sameAnswers(t *testing.T, c api.Cell) {
	t.Helper()
	sameCheck(t, c)
	if got, want := tile.Lines(c), plainLines(c); !slices.Equal(got, want) {
		t.Fatalf("P6.1: Lines(%v) = %v, not %v", c, got, want)
	}
	for _, r := range []api.Rect{c.Rect, cells(c)[len(cells(c))-1].Rect} {
		for _, d := range [][2]int{{0, 0}, {r.W - 1, r.H - 1}, {r.W / 2, r.H / 2}, {-1, 0}, {0, -1}, {r.W, 0}, {0, r.H}} {
			sameHit(t, c, r.X+d[0], r.Y+d[1])
		}
	}
	if plainTiles(c) {
		wholly(t, c)
	}
}

func sameHit(t *testing.T, c api.Cell, x, y int) {
	t.Helper()
	want, wantOK := plainHit(c, x, y)
	if got, ok := tile.Hit(c, x, y); got != want || ok != wantOK {
		t.Fatalf("P6.1: Hit(%v, %d, %d) = %d, %v, not %d, %v", c, x, y, got, ok, want, wantOK)
	}
}

// wholly holds a tree that tiles against the second promise.
func wholly(t *testing.T, c api.Cell) {
	t.Helper()
	lines := tile.Lines(c)
	var leaves []api.Rect
	for _, c := range cells(c) {
		if c.Kind == leafKind {
			leaves = append(leaves, c.Rect)
		}
	}
	if len(lines) != len(leaves)-1 {
		t.Fatalf("P6.2: %d leaves and %d lines of %v", len(leaves), len(lines), c)
	}
	all := slices.Concat(leaves, lines)
	if !rect.Apart(all...) || !rect.Inside(c.Rect, all...) || rect.Area(all...) != c.W*c.H {
		t.Fatalf("P6.2: leaves %v and lines %v of %v", leaves, lines, c)
	}
}

// everyHit asks of each cell of a small tree's rectangle, and of those round it, who has it: a leaf
// or a line, one of them alone.
func everyHit(t *testing.T, c api.Cell) {
	t.Helper()
	owners := map[[2]int]int{}
	for _, r := range tile.Lines(c) {
		for x := r.X; x < r.X+r.W; x++ {
			for y := r.Y; y < r.Y+r.H; y++ {
				owners[[2]int{x, y}]++
			}
		}
	}
	for x := c.X - 1; x <= c.X+c.W; x++ {
		for y := c.Y - 1; y <= c.Y+c.H; y++ {
			sameHit(t, c, x, y)
			if _, ok := tile.Hit(c, x, y); ok {
				owners[[2]int{x, y}]++
			}
			within := 0
			if x >= c.X && x < c.X+c.W && y >= c.Y && y < c.Y+c.H {
				within = 1
			}
			if owners[[2]int{x, y}] != within {
				t.Fatalf("P6.2: %d have the cell %d, %d of %v", owners[[2]int{x, y}], x, y, c)
			}
		}
	}
}

func TestExample(t *testing.T) {
	if l := tile.Lines(leaf(4, of(0, 0, 80, 24))); len(l) != 0 {
		t.Errorf("P6.1: a leaf has the lines %v", l)
	}
}

func TestNoTrees(t *testing.T) {
	if !tile.Tiles() || !tile.Tiles([]api.Cell{}...) {
		t.Error("P6.1: none don't tile")
	}
}

func TestMixed(t *testing.T) {
	c := mixed()
	if err := tile.Check(c); err != nil {
		t.Fatalf("P6.1: Check = %v", err)
	}
	// Those of the tree itself first, then those of each kid, and of its kids, ahead of the next.
	want := []api.Rect{of(8, 2, 1, 11), of(15, 2, 1, 11), of(9, 8, 6, 1), of(12, 9, 1, 4)}
	if got := tile.Lines(c); !slices.Equal(got, want) {
		t.Errorf("P6.1: Lines = %v, not %v", got, want)
	}
	for _, h := range []struct {
		x, y, id int
		ok       bool
	}{
		{3, 2, 3, true}, {7, 12, 3, true}, {9, 2, 1, true}, {14, 7, 1, true}, {9, 9, 0, true}, {11, 12, 0, true},
		{13, 9, 5, true}, {14, 12, 5, true}, {16, 2, 7, true}, {19, 12, 7, true},
		{8, 2, 0, false}, {8, 12, 0, false}, {15, 7, 0, false}, {9, 8, 0, false}, {14, 8, 0, false}, {12, 9, 0, false},
		{2, 2, 0, false}, {3, 1, 0, false}, {20, 12, 0, false}, {19, 13, 0, false}, {-3, -2, 0, false},
		{math.MinInt, 2, 0, false}, {3, math.MinInt, 0, false}, {math.MaxInt, 2, 0, false}, {3, math.MaxInt, 0, false},
	} {
		if id, ok := tile.Hit(c, h.x, h.y); id != h.id || ok != h.ok {
			t.Errorf("P6.1: Hit(.., %d, %d) = %d, %v, not %d, %v", h.x, h.y, id, ok, h.id, h.ok)
		}
	}
	sameAnswers(t, c)
	everyHit(t, c)
}

// Lines are told cell by cell: each one's ahead of those of its kids, and these kid by kid.
func TestOrderOfLines(t *testing.T) {
	half := func(id, x int) api.Cell {
		return col(of(x, 0, 3, 5), leaf(id, of(x, 0, 3, 1)), row(of(x, 2, 3, 1), leaf(id+1, of(x, 2, 1, 1)), leaf(id+2, of(x+2, 2, 1, 1))), leaf(id+3, of(x, 4, 3, 1)))
	}
	c := row(of(0, 0, 11, 5), half(0, 0), half(10, 4), half(20, 8))
	want := []api.Rect{
		of(3, 0, 1, 5), of(7, 0, 1, 5),
		of(0, 1, 3, 1), of(0, 3, 3, 1), of(1, 2, 1, 1),
		of(4, 1, 3, 1), of(4, 3, 3, 1), of(5, 2, 1, 1),
		of(8, 1, 3, 1), of(8, 3, 3, 1), of(9, 2, 1, 1),
	}
	if got := tile.Lines(c); !slices.Equal(got, want) {
		t.Errorf("P6.1: Lines = %v, not %v", got, want)
	}
	sameAnswers(t, c)
	everyHit(t, c)
}

func TestTreesThatTile(t *testing.T) {
	for _, c := range []api.Cell{
		leaf(0, of(0, 0, 1, 1)), leaf(maxNum, of(5, 5, 1, 1)),
		leaf(1, of(0, 0, maxExtent, maxExtent)), leaf(1, of(maxExtent-1, maxExtent-1, 1, 1)),
		row(of(0, 0, 3, 1), leaf(1, of(0, 0, 1, 1)), leaf(0, of(2, 0, 1, 1))),
		col(of(0, 0, 1, 3), leaf(1, of(0, 0, 1, 1)), leaf(0, of(0, 2, 1, 1))),
		row(of(maxExtent-3, 0, 3, maxExtent), leaf(1, of(maxExtent-3, 0, 1, maxExtent)), leaf(2, of(maxExtent-1, 0, 1, maxExtent))),
		col(of(0, maxExtent-3, maxExtent, 3), leaf(1, of(0, maxExtent-3, maxExtent, 1)), leaf(2, of(0, maxExtent-1, maxExtent, 1))),
		// A row in a row fits, too.
		row(of(0, 0, 5, 2), row(of(0, 0, 3, 2), leaf(1, of(0, 0, 1, 2)), leaf(2, of(2, 0, 1, 2))), leaf(3, of(4, 0, 1, 2))),
		col(of(0, 0, 2, 5), leaf(1, of(0, 0, 2, 1)), col(of(0, 2, 2, 3), leaf(2, of(0, 2, 2, 1)), leaf(3, of(0, 4, 2, 1)))),
		mixed(),
	} {
		if err := tile.Check(c); err != nil || !tile.Tiles(c) || !tile.Tiles(c, c) || !tile.Tiles(mixed(), c, mixed()) {
			t.Errorf("P6.1: Check(%v) = %v", c, err)
		}
		sameAnswers(t, c)
	}
}

// wrongTrees are trees that may be, but don't tile: with the number of the first cell that doesn't.
func wrongTrees() map[int][]api.Cell {
	o := of(0, 0, 7, 7)
	two := func(a, b api.Rect) []api.Cell { return []api.Cell{leaf(1, a), leaf(2, b)} }
	m := map[int][]api.Cell{0: {
		row(o, two(of(0, 0, 3, 7), of(3, 0, 4, 7))...), // nothing between
		row(o, two(of(0, 0, 3, 7), of(5, 0, 2, 7))...), // two between
		row(o, two(of(0, 0, 3, 7), of(4, 0, 2, 7))...), // ends early
		row(o, two(of(0, 0, 3, 7), of(4, 0, 4, 7))...), // ends late
		row(o, two(of(1, 0, 2, 7), of(4, 0, 3, 7))...), // begins late
		row(o, two(of(4, 0, 3, 7), of(0, 0, 3, 7))...), // the other way round
		row(o, two(of(0, 0, 3, 6), of(4, 0, 3, 7))...), // not so high
		row(o, two(of(0, 0, 3, 7), of(4, 0, 3, 8))...), // too high
		row(o, two(of(0, 1, 3, 7), of(4, 0, 3, 7))...), // too low
		row(o, two(of(0, 0, 3, 7), of(4, 1, 3, 6))...), // ends with it, but begins later
		row(o, two(o, o)...),                           // one on the other
		row(o, two(of(0, 0, 7, 3), of(0, 4, 7, 3))...), // a column's kids
		col(o, two(of(0, 0, 3, 7), of(4, 0, 3, 7))...), // a row's kids
		col(o, two(of(0, 0, 7, 3), of(0, 3, 7, 4))...),
		col(o, two(of(0, 0, 7, 3), of(0, 4, 7, 2))...),
		col(o, two(of(0, 4, 7, 3), of(0, 0, 7, 3))...),
		col(o, two(of(0, 0, 6, 3), of(0, 4, 7, 3))...),
		col(o, two(of(1, 0, 7, 3), of(0, 4, 7, 3))...),
		row(of(0, 0, 2, 1), two(of(0, 0, 1, 1), of(1, 0, 1, 1))...), // no space for a line
		row(of(0, 0, 1, 1), two(of(0, 0, 1, 1), of(0, 0, 1, 1))...),
		row(of(1, 0, 7, 7), two(of(0, 0, 3, 7), of(4, 0, 3, 7))...),
		row(o, leaf(1, of(0, 0, 3, 7)), leaf(2, of(4, 0, 1, 7)), leaf(3, of(4, 0, 3, 7))),
	}}
	odd := func(number int, change func(c *api.Cell)) {
		c := mixed()
		change(place(&c, number))
		m[number] = append(m[number], c)
	}
	turn := func(c *api.Cell) { c.Kind = rowKind + colKind - c.Kind }
	more := func(c *api.Cell) { c.Kids = append(c.Kids, leaf(99, of(9, 9, 1, 1))) }
	for _, number := range []int{0, 2, 4} {
		odd(number, turn)
		odd(number, more)
	}
	return m
}

func TestTreesThatDont(t *testing.T) {
	for number, l := range wrongTrees() {
		for _, c := range l {
			err := tile.Check(c)
			at, ok := fault.At(err)
			if fault.Code(err) != errTile || !ok || at != number {
				t.Errorf("P6.1: Check(%v) = %v, not %v at %d", c, err, errTile, number)
			}
			if tile.Tiles(c) || tile.Tiles(c, mixed()) || tile.Tiles(mixed(), c) || tile.Tiles(mixed(), c, mixed()) {
				t.Errorf("P6.1: %v tiles", c)
			}
			if l := tile.Lines(c); len(l) != 0 {
				t.Errorf("P6.1: Lines(%v) = %v", c, l)
			}
			if id, ok := tile.Hit(c, 0, 0); id != 0 || ok {
				t.Errorf("P6.1: Hit(%v, 0, 0) = %d, %v", c, id, ok)
			}
			sameAnswers(t, c)
		}
	}
}

// Of several cells that don't tile the first one is told: the one ahead of its kids, and these ahead
// of what stands behind it.
func TestFirstThatDoesnt(t *testing.T) {
	base := mixed()
	for a := range cells(base) {
		for b := range cells(base) {
			c := mixed()
			place(&c, a).W++
			place(&c, b).Y++
			sameAnswers(t, c)
		}
	}
	c := mixed()
	for _, broken := range []struct{ kid, group int }{{6, 4}, {3, 2}, {7, 0}} {
		place(&c, broken.kid).W++
		if at, ok := fault.At(tile.Check(c)); !ok || at != broken.group {
			t.Errorf("P6.1: the first that doesn't tile is %d, not %d", at, broken.group)
		}
	}
}

// wrongCells may not be, neither alone nor in others.
func wrongCells() []api.Cell {
	o := of(0, 0, 3, 1)
	two := []api.Cell{leaf(101, of(0, 0, 1, 1)), leaf(102, of(2, 0, 1, 1))}
	l := []api.Cell{
		{}, {Kind: 0, Rect: o}, {Kind: 0, Rect: o, Kids: two}, {Kind: 4, Rect: o, Kids: two}, {Kind: 255, Rect: o},
		leaf(-1, o), leaf(maxNum+1, o), leaf(math.MinInt, o), leaf(math.MaxInt, o),
		{Kind: leafKind, Rect: o, ID: 3, Kids: two}, row(o), col(o), row(o, leaf(101, o)), col(o, leaf(101, o)),
		row(o, two[0], leaf(101, of(2, 0, 1, 1))),
		{Kind: rowKind, Rect: o, ID: 1, Kids: two}, {Kind: rowKind, Rect: o, ID: -1, Kids: two},
		// What doesn't tile besides: that it may not be is said first.
		row(o, leaf(101, of(0, 0, 1, 1)), leaf(101, of(1, 0, 1, 1))),
		row(o, leaf(101, of(0, 0, 1, 1)), leaf(102, of(2, 0, 0, 1))),
		col(o, leaf(101, of(0, 0, 1, 1)), leaf(-1, of(2, 0, 1, 1))),
	}
	for _, r := range []api.Rect{
		{}, of(-1, 0, 3, 1), of(0, -1, 3, 1), of(0, 0, 0, 1), of(0, 0, 3, 0), of(0, 0, -3, 1), of(0, 0, 3, -1),
		of(0, 0, maxExtent+1, 1), of(0, 0, 1, maxExtent+1), of(maxExtent, 0, 1, 1), of(0, maxExtent, 1, 1),
		of(math.MaxInt, 0, 1, 1), of(math.MaxInt, 0, math.MaxInt, 1), of(0, math.MinInt, 1, math.MinInt), of(1, 1, math.MinInt, math.MinInt),
	} {
		l = append(l, leaf(3, r), row(r, two...), col(r, two...), row(o, two[0], leaf(3, r)))
	}
	return l
}

func TestTreesThatMayNotBe(t *testing.T) {
	for _, wrong := range wrongCells() {
		trees := []api.Cell{wrong, row(of(0, 0, 7, 1), wrong, leaf(1, of(4, 0, 3, 1))), col(of(0, 0, 3, 3), leaf(1, of(0, 2, 3, 1)), wrong)}
		for number := range cells(mixed()) {
			c := mixed()
			if number > 0 {
				*place(&c, number) = wrong
				trees = append(trees, c)
			}
		}
		for _, c := range trees {
			err := tile.Check(c)
			at, ok := fault.At(err)
			if fault.Code(err) != errArg || !ok || at != 0 {
				t.Errorf("P6.1: Check(%v) = %v, not %v at 0", c, err, errArg)
			}
			if tile.Tiles(c) || tile.Tiles(c, mixed()) || tile.Tiles(mixed(), c) {
				t.Errorf("P6.1: %v tiles", c)
			}
			if l := tile.Lines(c); len(l) != 0 {
				t.Errorf("P6.1: Lines(%v) = %v", c, l)
			}
			if id, ok := tile.Hit(c, 0, 0); id != 0 || ok {
				t.Errorf("P6.1: Hit(%v, 0, 0) = %d, %v", c, id, ok)
			}
			sameAnswers(t, c)
		}
	}
}

// All rectangles of two kids from 0 to 3 in each number, in a row and in a column.
func TestEverySmallPair(t *testing.T) {
	var l []api.Rect
	for n := range 4 * 4 * 4 * 4 {
		l = append(l, of(n%4, n/4%4, n/16%4, n/64))
	}
	fit := 0
	for _, outer := range []api.Rect{of(1, 0, 3, 2), of(0, 1, 2, 3), of(0, 0, 4, 3)} {
		for _, a := range l {
			for _, b := range l {
				for _, c := range []api.Cell{row(outer, leaf(1, a), leaf(2, b)), col(outer, leaf(1, a), leaf(2, b))} {
					sameCheck(t, c)
					if tile.Tiles(c) {
						fit++
						sameAnswers(t, c)
						everyHit(t, c)
					}
				}
			}
		}
	}
	// A line across 3 by 2, and down 2 by 3, is in one place; across 4 by 3 in two.
	if fit != 1+1+2 {
		t.Errorf("P6.1: %d of the small pairs tile", fit)
	}
}

// tilings does something with all trees that tile a rectangle, at most so deep; IDs are all 0.
func tilings(r api.Rect, deep int, do func(c api.Cell)) {
	do(leaf(0, r))
	if deep == 1 {
		return
	}
	for _, kind := range []uint8{rowKind, colKind} {
		kidLists(r, kind, deep-1, nil, func(kids []api.Cell) {
			if len(kids) > 1 {
				do(clone(api.Cell{Kind: kind, Rect: r, Kids: kids}))
			}
		})
	}
}

// kidLists does something with all lists of kids that fill a rectangle, in a row or a column.
func kidLists(r api.Rect, kind uint8, deep int, kids []api.Cell, do func(kids []api.Cell)) {
	size := r.W
	if kind == colKind {
		size = r.H
	}
	for n := 1; n <= size; n++ {
		head, rest := of(r.X, r.Y, n, r.H), of(r.X+n+1, r.Y, r.W-n-1, r.H)
		if kind == colKind {
			head, rest = of(r.X, r.Y, r.W, n), of(r.X, r.Y+n+1, r.W, r.H-n-1)
		}
		tilings(head, deep, func(kid api.Cell) {
			if n == size {
				do(append(kids, kid))
			} else {
				kidLists(rest, kind, deep, append(kids, kid), do)
			}
		})
	}
}

// number gives the leaves of a tree IDs, one behind the other.
func number(c *api.Cell, from int) int {
	if c.Kind == leafKind {
		c.ID = from
		return from + 1
	}
	for k := range c.Kids {
		from = number(&c.Kids[k], from)
	}
	return from
}

// changes are what is done to a cell of a tree that tiles; most trees don't, then.
func changes() []func(c *api.Cell) {
	return []func(c *api.Cell){
		func(c *api.Cell) { c.X++ }, func(c *api.Cell) { c.X-- },
		func(c *api.Cell) { c.Y++ }, func(c *api.Cell) { c.Y-- },
		func(c *api.Cell) { c.W++ }, func(c *api.Cell) { c.W-- },
		func(c *api.Cell) { c.H++ }, func(c *api.Cell) { c.H-- },
		func(c *api.Cell) { c.X, c.Y, c.W, c.H = c.Y, c.X, c.H, c.W },
		func(c *api.Cell) { c.Kind = rowKind }, func(c *api.Cell) { c.Kind = colKind },
		func(c *api.Cell) { c.Kind = leafKind }, func(c *api.Cell) { c.ID++ },
		func(c *api.Cell) { slices.Reverse(c.Kids) },
		func(c *api.Cell) { c.Kids = c.Kids[:max(len(c.Kids)-1, 0)] },
		func(c *api.Cell) { c.Kids = c.Kids[min(len(c.Kids), 1):] },
		func(c *api.Cell) { c.Kids = append(slices.Clone(c.Kids), leaf(77, c.Rect)) },
	}
}

func TestEverySmallTiling(t *testing.T) {
	trees := 0
	for _, r := range []api.Rect{of(2, 1, 1, 1), of(0, 0, 3, 1), of(1, 1, 3, 3), of(1, 2, 5, 3), of(1, 2, 4, 5), of(0, 1, 1, 7)} {
		tilings(r, 3, func(c api.Cell) {
			trees++
			number(&c, 0)
			if err := tile.Check(c); err != nil {
				t.Fatalf("P6.1: Check(%v) = %v", c, err)
			}
			sameAnswers(t, c)
			everyHit(t, c)
			for at := range cells(c) {
				for _, change := range changes() {
					other := clone(c)
					change(place(&other, at))
					sameCheck(t, other)
				}
			}
		})
	}
	if trees < 200 {
		t.Errorf("only %d trees tiled", trees)
	}
}

// randomTree is a tree that tiles a rectangle.
func randomTree(g *rand.Rand, r api.Rect, deep int) api.Cell {
	kind, size := rowKind, r.W
	if g.Intn(2) > 0 {
		kind, size = colKind, r.H
	}
	if deep == 0 || size < 3 || g.Intn(6) == 0 {
		return leaf(0, r)
	}
	c := api.Cell{Kind: kind, Rect: r}
	from := 0
	for from < size {
		n := 1 + g.Intn(size-from)
		if from == 0 {
			n = 1 + g.Intn(size-2)
		}
		if n == size-from-1 {
			n++ // behind it there is space for a line, but for none of its kids
		}
		part := of(r.X+from, r.Y, n, r.H)
		if kind == colKind {
			part = of(r.X, r.Y+from, r.W, n)
		}
		c.Kids = append(c.Kids, randomTree(g, part, deep-1))
		from += n + 1
	}
	if len(c.Kids) < 2 {
		return leaf(0, r)
	}
	return c
}

func TestManyTrees(t *testing.T) {
	g := rand.New(rand.NewSource(66))
	most, deep := 0, 0
	for range 300 {
		r := of(g.Intn(30), g.Intn(30), 1+g.Intn(60), 1+g.Intn(40))
		c := randomTree(g, r, 1+g.Intn(9))
		number(&c, g.Intn(1000))
		if err := tile.Check(c); err != nil {
			t.Fatalf("P6.1: Check(%v) = %v", c, err)
		}
		sameAnswers(t, c)
		for range 20 {
			sameHit(t, c, g.Intn(100)-5, g.Intn(80)-5)
		}
		n := len(cells(c))
		for range 30 {
			other := clone(c)
			for range 1 + g.Intn(2) {
				all := changes()
				all[g.Intn(len(all))](place(&other, g.Intn(len(cells(other)))))
			}
			sameAnswers(t, other)
		}
		most = max(most, n)
		for _, c := range cells(c) {
			for d := 1; len(c.Kids) > 0; d++ {
				c = c.Kids[0]
				deep = max(deep, d)
			}
		}
	}
	if most < 50 || deep < 4 {
		t.Errorf("the greatest tree had %d cells, the deepest one %d below", most, deep)
	}
}

// wide is a row of so many leaves from a column on, each 1 wide, in a line.
func wide(n, id, x, y int) api.Cell {
	c := row(of(x, y, 2*n-1, 1))
	for k := range n {
		c.Kids = append(c.Kids, leaf(id+k, of(x+2*k, y, 1, 1)))
	}
	return c
}

// As many cells as there can be, and more.
func TestMostCells(t *testing.T) {
	for _, last := range []int{4994, 4995, 4996} {
		// 5000 in each of three rows, and as many in the last one that the whole is just MaxCells.
		c := col(of(0, 0, 9999, 7))
		for k := range 3 {
			c.Kids = append(c.Kids, wide(5000, 5000*k, 0, 2*k))
		}
		end := wide(last, 15000, 0, 6)
		end.W = 9999
		end.Kids[last-1].W = 9999 - 2*(last-1)
		c.Kids = append(c.Kids, end)
		err := tile.Check(c)
		if n := len(cells(c)); (err == nil) != (n <= maxCells) || err != nil && fault.Code(err) != errArg {
			t.Errorf("P6.1: Check of %d cells = %v", n, err)
		}
		sameCheck(t, c)
		sameHit(t, c, 9998, 6)
		if err == nil {
			wholly(t, c)
		}
		c.Kids[3].Kids[last-1].W--
		sameCheck(t, c)
	}
}

// stair is as deep as a tree that tiles can be: each row has a leaf 1 wide and a column, each column
// a leaf 1 high and a row.
func stair() api.Cell {
	c := leaf(0, of(maxExtent-2, maxExtent-2, 2, 2))
	for id := 1; c.X >= 2; id += 2 {
		x, y, size := c.X, c.Y, c.W
		c = row(of(x-2, y, size+2, size), leaf(id, of(x-2, y, 1, size)), c)
		c = col(of(x-2, y-2, size+2, size+2), leaf(id+1, of(x-2, y-2, size+2, 1)), c)
	}
	return c
}

func TestDeepestThatTiles(t *testing.T) {
	c := stair()
	sameAnswers(t, c)
	if !tile.Tiles(c) || len(tile.Lines(c)) != 9998 {
		t.Errorf("P6.2: a stair of %d cells: %v, %d lines", len(cells(c)), tile.Check(c), len(tile.Lines(c)))
	}
	for _, want := range []struct{ x, y, id int }{{0, 0, 9998}, {maxExtent - 1, 0, 9998}, {0, 2, 9997}, {maxExtent - 1, maxExtent - 1, 0}} {
		if id, ok := tile.Hit(c, want.x, want.y); !ok || id != want.id {
			t.Errorf("P6.1: Hit(.., %d, %d) = %d, %v", want.x, want.y, id, ok)
		}
	}
	inmost := &c
	for len(inmost.Kids) > 0 {
		inmost = &inmost.Kids[1]
	}
	inmost.W--
	if at, ok := fault.At(tile.Check(c)); !ok || at != len(cells(c))-3 {
		t.Errorf("P6.1: the inmost row of %d cells doesn't tile, but %d", len(cells(c)), at)
	}
}

// As deep as the document bounds it, or beyond all counting: every call ends, and in time.
func TestEnds(t *testing.T) {
	o := of(0, 0, 3, 1)
	deep := leaf(7, o)
	for range maxNested - 1 {
		deep = row(o, leaf(1, o), deep)
	}
	many := leaf(1, o)
	for range 200 {
		many = row(o, many, many)
	}
	round := make([]api.Cell, 2)
	round[0], round[1] = row(o, round...), col(o, round...)
	for _, c := range []api.Cell{deep, many, round[0], round[1]} {
		err := tile.Check(c)
		if at, ok := fault.At(err); fault.Code(err) != errArg || !ok || at != 0 {
			t.Errorf("P6.1: Check = %v", err)
		}
		if _, ok := tile.Hit(c, 0, 0); ok || tile.Tiles(c) || tile.Tiles(leaf(1, o), c) || len(tile.Lines(c)) != 0 {
			t.Error("P6.1: what may not be tiles")
		}
	}
}

// Each tree is asked alone: two may have leaves with the same IDs, and one on the other.
func TestTilesOfSeveral(t *testing.T) {
	most := col(of(0, 0, 9999, 5), wide(5000, 0, 0, 0), wide(5000, 5000, 0, 2), wide(5000, 10000, 0, 4))
	if !tile.Tiles(mixed(), mixed(), leaf(3, of(0, 0, 9, 9)), most, most) {
		t.Error("P6.1: trees that tile, each of them")
	}
	trees := []api.Cell{mixed(), leaf(3, of(0, 0, 9, 9)), mixed(), leaf(3, of(0, 0, 9, 9))}
	for k := range trees {
		l := slices.Clone(trees)
		l[k].W = 0
		if tile.Tiles(l...) {
			t.Errorf("P6.1: the tree %d doesn't tile", k)
		}
	}
}

// What a leaf's kids are called plays no part: none are none.
func TestNilAndEmpty(t *testing.T) {
	c := mixed()
	for _, number := range []int{1, 3, 5, 6, 7} {
		place(&c, number).Kids = []api.Cell{}
	}
	if tile.Check(c) != nil || !slices.Equal(tile.Lines(c), tile.Lines(mixed())) {
		t.Error("P0.5: no kids are no kids")
	}
}

// roomy is the tree with room behind each list of kids, filled with something that is none of them.
func roomy(c api.Cell) api.Cell {
	kids := make([]api.Cell, 0, len(c.Kids)+2)
	for _, kid := range c.Kids {
		kids = append(kids, roomy(kid))
	}
	copy(kids[len(kids):cap(kids)], []api.Cell{leaf(-77, c.Rect), leaf(-78, c.Rect)})
	c.Kids = kids
	return c
}

// untouched tells whether the room that roomy made is as it was, in the whole tree.
func untouched(c api.Cell) bool {
	room := c.Kids[len(c.Kids):cap(c.Kids)]
	return len(room) == 2 && same(room[0], leaf(-77, c.Rect)) && same(room[1], leaf(-78, c.Rect)) &&
		!slices.ContainsFunc(c.Kids, func(kid api.Cell) bool { return !untouched(kid) })
}

// What is handed in isn't changed, nor is the room behind its end.
func TestNothingIsChanged(t *testing.T) {
	wrong := func() api.Cell {
		c := mixed()
		place(&c, 6).W++
		return c
	}
	for _, tree := range []func() api.Cell{mixed, wrong} {
		c := roomy(tree())
		trees := []api.Cell{c, c, leaf(8, c.Rect)}
		tile.Check(c)
		tile.Tiles(trees[:2]...)
		tile.Lines(c)
		tile.Hit(c, 13, 9)
		tile.Hit(c, 0, 0)
		if !same(c, tree()) || !untouched(c) || !same(trees[0], tree()) || !same(trees[1], tree()) || !same(trees[2], leaf(8, c.Rect)) {
			t.Errorf("P0.4: what was handed in is changed: %v, %v", c, trees)
		}
	}
}

// Somebody who writes into an answer changes neither what was handed in nor a later answer, and
// the other way round.
func TestAnswersAreNewMemory(t *testing.T) {
	c := roomy(mixed())
	want := plainLines(c)
	lines, kept := tile.Lines(c), tile.Lines(c)
	lines = lines[:cap(lines)]
	for i := range lines {
		lines[i] = of(-7, -7, -7, -7)
	}
	if !same(c, mixed()) || !untouched(c) || !slices.Equal(kept, want) {
		t.Errorf("P0.4: lines share memory: %v, %v", c, kept)
	}
	sameAnswers(t, c)
	c.Kids[1].Kids[0] = leaf(-99, of(-9, -9, -9, -9))
	if !slices.Equal(kept, want) {
		t.Errorf("P0.4: lines are changed from outside: %v", kept)
	}

	place(&c, 3).Rect = of(9, 2, 6, 5)
	place(&c, 3).Kind, place(&c, 3).ID = leafKind, 1
	err := tile.Check(c)
	var f *api.Fault
	if g, ok := err.(*api.Fault); ok {
		f = g
	}
	if f == nil || f.Err != errTile || f.At != 2 {
		t.Fatalf("P6.1: Check = %v", err)
	}
	f.Err, f.At = 9, 99
	sameAnswers(t, c)
}

func TestTheSameAgain(t *testing.T) {
	for range 3 {
		sameAnswers(t, mixed())
		for _, l := range wrongTrees() {
			for _, c := range l {
				sameAnswers(t, c)
			}
		}
	}
}

func FuzzTrees(f *testing.F) {
	f.Add(int64(1), 80, 24, 4, uint8(0), 0, 0)
	f.Add(int64(2), 5, 5, 3, uint8(4), 1, -1)
	f.Add(int64(3), 40, 3, 6, uint8(13), 2, math.MaxInt)
	f.Fuzz(func(t *testing.T, seed int64, w, h, deep int, change uint8, at, by int) {
		r := of(0, 0, 1+int(uint8(w)), 1+int(uint8(h)))
		c := randomTree(rand.New(rand.NewSource(seed)), r, int(uint8(deep)%8))
		number(&c, 0)
		sameAnswers(t, c)
		sameHit(t, c, w, h)
		spot := place(&c, int(uint(at)%uint(len(cells(c)))))
		if int(change) < len(changes()) {
			changes()[change](spot)
		} else {
			*[]*int{&spot.X, &spot.Y, &spot.W, &spot.H, &spot.ID}[change%5] += by
		}
		sameAnswers(t, c)
	})
}
