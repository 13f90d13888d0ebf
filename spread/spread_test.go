package spread_test

import (
	"fmt"
	"math"
	"math/rand"
	"slices"
	"testing"

	"sash/api"
	"sash/spread"
)

// What the document tells in numbers is written out here, not taken from api.
const (
	leafKind  = uint8(1)
	rowKind   = uint8(2)
	colKind   = uint8(3)
	across    = uint8(1)
	down      = uint8(2)
	ok        = api.Errno(0)
	errArg    = api.Errno(1)
	errTarget = api.Errno(6)
	errSpace  = api.Errno(7)
	errState  = api.Errno(10)
	maxNum    = 2147483647
	maxExtent = 10000
	maxCells  = 20000
	maxNested = 1 << 16
)

func of(x, y, w, h int) api.Rect { return api.Rect{X: x, Y: y, W: w, H: h} }

func leaf(id int, r api.Rect) api.Cell { return api.Cell{Kind: leafKind, Rect: r, ID: id} }

func row(r api.Rect, kids ...api.Cell) api.Cell {
	return api.Cell{Kind: rowKind, Rect: r, Kids: kids}
}

func col(r api.Rect, kids ...api.Cell) api.Cell {
	return api.Cell{Kind: colKind, Rect: r, Kids: kids}
}

// mixed is a tree that tiles, with all kinds of cells. Their numbers are: 0 the row, 1 the leaf 3,
// 2 a column, 3 the leaf 1, 4 a row, 5 the leaf 0, 6 the leaf 5, 7 the leaf 7.
func mixed() api.Cell {
	low := row(of(9, 9, 6, 4), leaf(0, of(9, 9, 3, 4)), leaf(5, of(13, 9, 2, 4)))
	mid := col(of(9, 2, 6, 11), leaf(1, of(9, 2, 6, 6)), low)
	return row(of(3, 2, 17, 11), leaf(3, of(3, 2, 5, 11)), mid, leaf(7, of(16, 2, 4, 11)))
}

// side is a row of leaves of these widths, from the ID 0 on, so high.
func side(x, y, h int, widths ...int) api.Cell {
	c := row(of(x, y, -1, h))
	for id, w := range widths {
		c.Kids = append(c.Kids, leaf(id, of(x, y, w, h)))
		c.W += w + 1
		x += w + 1
	}
	return c
}

// turned is the same tree with columns for lines, and lines for columns.
func turned(c api.Cell) api.Cell {
	c.X, c.Y, c.W, c.H = c.Y, c.X, c.H, c.W
	if c.Kind == rowKind || c.Kind == colKind {
		c.Kind = rowKind + colKind - c.Kind
	}
	c.Kids = slices.Clone(c.Kids)
	for k := range c.Kids {
		c.Kids[k] = turned(c.Kids[k])
	}
	return c
}

// cells are all cells of a tree, each ahead of its kids: where one stands in the list is its number.
func cells(c api.Cell) []api.Cell {
	var l []api.Cell
	stack := []api.Cell{c}
	for len(stack) > 0 {
		c := stack[len(stack)-1]
		stack = stack[:len(stack)-1]
		l = append(l, c)
		for k := len(c.Kids) - 1; k >= 0; k-- {
			stack = append(stack, c.Kids[k])
		}
	}
	return l
}

// idsOf are the IDs of a tree's leaves, in order.
func idsOf(c api.Cell) []int {
	var ids []int
	for _, c := range cells(c) {
		if c.Kind == leafKind {
			ids = append(ids, c.ID)
		}
	}
	return ids
}

// place is where the cell with a number stands in a tree, to be written at.
func place(c *api.Cell, number int) *api.Cell {
	for number > 0 {
		number--
		for k := range c.Kids {
			n := len(cells(c.Kids[k]))
			if number < n {
				c = &c.Kids[k]
				break
			}
			number -= n
		}
	}
	return c
}

// clone is the same tree in memory of its own.
func clone(c api.Cell) api.Cell {
	c.Kids = slices.Clone(c.Kids)
	for k := range c.Kids {
		c.Kids[k] = clone(c.Kids[k])
	}
	return c
}

func same(a, b api.Cell) bool {
	return a.Kind == b.Kind && a.Rect == b.Rect && a.ID == b.ID && slices.EqualFunc(a.Kids, b.Kids, same)
}

func plainMay(c api.Cell) bool {
	far := func(from, size int) bool {
		return from >= 0 && from <= maxExtent && size >= 1 && size <= maxExtent && from+size <= maxExtent
	}
	met := map[int]bool{}
	l := cells(c)
	for _, c := range l {
		isLeaf := c.Kind == leafKind && len(c.Kids) == 0 && c.ID >= 0 && c.ID <= maxNum && !met[c.ID]
		isGroup := (c.Kind == rowKind || c.Kind == colKind) && c.ID == 0 && len(c.Kids) >= 2
		if !isLeaf && !isGroup || !far(c.X, c.W) || !far(c.Y, c.H) {
			return false
		}
		if isLeaf {
			met[c.ID] = true
		}
	}
	return len(l) <= maxCells
}

// plainFilled tells whether a cell that may be has kids that stand side by side, with one column
// (line) between them, from its beginning to its end.
func plainFilled(c api.Cell) bool {
	if c.Kind == leafKind {
		return true
	}
	x, y := c.X, c.Y
	for _, kid := range c.Kids {
		if kid.X != x || kid.Y != y {
			return false
		}
		if c.Kind == rowKind && kid.H == c.H {
			x += kid.W + 1
		} else if c.Kind == colKind && kid.W == c.W {
			y += kid.H + 1
		} else {
			return false
		}
	}
	if c.Kind == rowKind {
		return x == c.X+c.W+1
	}
	return y == c.Y+c.H+1
}

func plainTiles(c api.Cell) bool {
	return plainMay(c) && !slices.ContainsFunc(cells(c), func(c api.Cell) bool { return !plainFilled(c) })
}

// sizeOf is where a rectangle's size along an axis stands, to be written at.
func sizeOf(r *api.Rect, axis uint8) *int {
	if axis == across {
		return &r.W
	}
	return &r.H
}

func axisOf(c api.Cell) uint8 {
	return map[uint8]uint8{rowKind: across, colKind: down}[c.Kind]
}

// plainGives is what a tree that tiles can give along an axis.
func plainGives(c api.Cell, axis uint8) int {
	return *sizeOf(&c.Rect, axis) - plainLeast(c, axis)
}

func plainLeast(c api.Cell, axis uint8) int {
	sum, most := -1, 1
	for _, kid := range c.Kids {
		n := plainLeast(kid, axis)
		sum += n + 1
		most = max(most, n)
	}
	if axisOf(c) == axis {
		return sum
	}
	return most
}

// plainAdjust changes a tree's size along an axis, 1 by 1, round by round; where its cells begin
// isn't told yet.
func plainAdjust(c *api.Cell, axis uint8, by int) {
	*sizeOf(&c.Rect, axis) += by
	shares := slices.Repeat([]int{by}, len(c.Kids))
	if axisOf(*c) == axis {
		shares = plainShares(c.Kids, axis, by)
	}
	for k := range c.Kids {
		plainAdjust(&c.Kids[k], axis, shares[k])
	}
}

func plainShares(kids []api.Cell, axis uint8, by int) []int {
	shares := make([]int, len(kids))
	var gives []int
	for _, kid := range kids {
		gives = append(gives, plainGives(kid, axis))
	}
	for k := 0; by != 0; k = (k + 1) % len(kids) {
		if by > 0 {
			shares[k]++
			by--
		} else if gives[k]+shares[k] > 0 {
			shares[k]--
			by++
		}
	}
	return shares
}

// plainSet lets all cells of a tree begin where those ahead of them end.
func plainSet(c api.Cell, x, y int) api.Cell {
	c.X, c.Y = x, y
	var kids []api.Cell
	for _, kid := range c.Kids {
		kids = append(kids, plainSet(kid, x, y))
		if c.Kind == rowKind {
			x += kid.W + 1
		} else {
			y += kid.H + 1
		}
	}
	c.Kids = kids
	return c
}

// plainSizes are even sizes: the columns that are left besides the lines are dealt out, from the
// first kid on, round by round.
func plainSizes(s, n int) ([]int, bool) {
	if n < 1 || n > maxCells || s > maxNum || s < 0 || s < n+n-1 {
		return nil, false
	}
	var sizes []int
	for k := range n {
		sizes = append(sizes, (s-(n-1)-k+n-1)/n)
	}
	return sizes, true
}

// plainSpread spreads a cell, if it can be; where its cells begin isn't told yet.
func plainSpread(c *api.Cell) api.Errno {
	if c.Kind == leafKind {
		return errState
	}
	axis := axisOf(*c)
	sizes, is := plainSizes(*sizeOf(&c.Rect, axis), len(c.Kids))
	if !is {
		return errSpace
	}
	for k, kid := range c.Kids {
		if plainLeast(kid, axis) > sizes[k] {
			return errSpace
		}
	}
	for k := range c.Kids {
		plainAdjust(&c.Kids[k], axis, sizes[k]-*sizeOf(&c.Kids[k].Rect, axis))
	}
	return ok
}

// spot is where the cell at a path stands in a tree, to be written at; nil, if there is none.
func spot(c *api.Cell, path []int) *api.Cell {
	for _, k := range path {
		if k < 0 || k >= len(c.Kids) {
			return nil
		}
		c = &c.Kids[k]
	}
	return c
}

func plainAt(c api.Cell, path ...int) (api.Cell, api.Errno) {
	if !plainTiles(c) {
		return api.Cell{}, errArg
	}
	tree := clone(c)
	there := spot(&tree, path)
	if there == nil {
		return api.Cell{}, errTarget
	}
	if e := plainSpread(there); e != ok {
		return api.Cell{}, e
	}
	return plainSet(tree, c.X, c.Y), ok
}

// paths are the paths of all cells of a tree, the tree itself first, then its kids, then theirs.
func paths(c api.Cell) [][]int {
	all := [][]int{{}}
	for n := 0; n < len(all); n++ {
		for k := range spot(&c, all[n]).Kids {
			all = append(all, append(slices.Clone(all[n]), k))
		}
	}
	return all
}

func plainAround(c api.Cell, id int) (api.Cell, api.Errno) {
	if !plainTiles(c) {
		return api.Cell{}, errArg
	}
	l := cells(c)
	n := slices.IndexFunc(l, func(c api.Cell) bool { return c.Kind == leafKind && c.ID == id })
	if n < 0 {
		return api.Cell{}, errTarget
	}
	if n == 0 {
		return api.Cell{}, errState
	}
	for n--; !slices.ContainsFunc(l[n].Kids, func(kid api.Cell) bool { return kid.Kind == leafKind && kid.ID == id }); n-- {
	}
	tree := clone(c)
	if e := plainSpread(place(&tree, n)); e != ok {
		return api.Cell{}, e
	}
	return plainSet(tree, c.X, c.Y), ok
}

// plainAll spreads the tree itself, then its kids, as they are then, and so on.
func plainAll(c api.Cell) (api.Cell, api.Errno) {
	if !plainTiles(c) {
		return api.Cell{}, errArg
	}
	tree := clone(c)
	next := []*api.Cell{&tree}
	for len(next) > 0 {
		first := next[0]
		next = next[1:]
		plainSpread(first)
		for k := range first.Kids {
			next = append(next, &first.Kids[k])
		}
	}
	return plainSet(tree, c.X, c.Y), ok
}

// short is a tree for a message: a great one isn't told whole.
func short(c api.Cell) string {
	s := fmt.Sprint(c)
	return s[:min(len(s), 300)]
}

// isEven holds the kids of a cell that was spread against the second promise.
func isEven(t *testing.T, c api.Cell) {
	t.Helper()
	least, most := maxExtent, 0
	for _, kid := range c.Kids {
		size := *sizeOf(&kid.Rect, axisOf(c))
		least, most = min(least, size), max(most, size)
	}
	if most-least > 1 {
		t.Fatalf("P16.2: %s was spread", short(c))
	}
}

// keeps holds a tree of which something was spread against the second promise.
func keeps(t *testing.T, was, is api.Cell) {
	t.Helper()
	if !plainTiles(is) || is.Rect != was.Rect || !slices.Equal(idsOf(was), idsOf(is)) {
		t.Fatalf("P16.2: %s became %s", short(was), short(is))
	}
	l, now := cells(was), cells(is)
	for n, c := range now {
		if len(l) != len(now) || c.Kind != l[n].Kind || len(c.Kids) != len(l[n].Kids) {
			t.Fatalf("P16.2: the cell %d of %s became that of %s", n, short(was), short(is))
		}
	}
}

// onlyThere tells whether two trees are the same, but for the cell at a path.
func onlyThere(was, is api.Cell, path []int) bool {
	was, is = clone(was), clone(is)
	a, b := spot(&was, path), spot(&is, path)
	sameRect := a.Rect == b.Rect
	*a, *b = api.Cell{}, api.Cell{}
	return sameRect && same(was, is)
}

func sameSizes(t *testing.T, s, n int) {
	t.Helper()
	got, is := spread.Sizes(s, n)
	want, should := plainSizes(s, n)
	if is != should || !slices.Equal(got, want) {
		t.Fatalf("P16.1: Sizes(%d, %d) = %v, %v, not %v, %v", s, n, got[:min(len(got), 50)], is, want[:min(len(want), 50)], should)
	}
	if !is {
		return
	}
	sum := n - 1
	for _, size := range got {
		sum += size
	}
	if sum != s || slices.Max(got)-slices.Min(got) > 1 || slices.Min(got) < 1 {
		t.Fatalf("P16.2: Sizes(%d, %d) = %v", s, n, got[:min(len(got), 50)])
	}
}

func sameAt(t *testing.T, c api.Cell, path ...int) {
	t.Helper()
	got, e := spread.At(c, path...)
	want, should := plainAt(c, path...)
	if e != should || !same(got, want) {
		t.Fatalf("P16.1: At(%s, %v) = %s, %d, not %s, %d", short(c), path, short(got), e, short(want), should)
	}
	if e != ok {
		return
	}
	keeps(t, c, got)
	isEven(t, *spot(&got, path))
	if !onlyThere(c, got, path) {
		t.Fatalf("P16.1: At(%s, %v) = %s: cells elsewhere are changed", short(c), path, short(got))
	}
	if again, e := spread.At(got, path...); e != ok || !same(again, got) {
		t.Fatalf("P16.1: At(%s, %v), again = %s, %d", short(got), path, short(again), e)
	}
}

func sameAround(t *testing.T, c api.Cell, id int) {
	t.Helper()
	got, e := spread.Around(c, id)
	want, should := plainAround(c, id)
	if e != should || !same(got, want) {
		t.Fatalf("P16.1: Around(%s, %d) = %s, %d, not %s, %d", short(c), id, short(got), e, short(want), should)
	}
	if e == ok {
		keeps(t, c, got)
	}
}

func sameAll(t *testing.T, c api.Cell) {
	t.Helper()
	got, e := spread.All(c)
	want, should := plainAll(c)
	if e != should || !same(got, want) {
		t.Fatalf("P16.1: All(%s) = %s, %d, not %s, %d", short(c), short(got), e, short(want), should)
	}
	if e != ok {
		return
	}
	keeps(t, c, got)
	for _, c := range cells(got) {
		if one := clone(c); plainSpread(&one) == ok {
			isEven(t, c)
		}
	}
	if again, e := spread.All(got); e != ok || !same(again, got) {
		t.Fatalf("P16.1: All(%s), again = %s, %d", short(got), short(again), e)
	}
}

// sameAnswers holds all that is asked of one tree against the plain reading: each cell, and paths
// and IDs that there aren't.
func sameAnswers(t *testing.T, c api.Cell) {
	t.Helper()
	for _, path := range paths(c) {
		sameAt(t, c, path...)
		n := len(spot(&c, path).Kids)
		for _, k := range []int{-1, n, n + 1, math.MinInt, math.MaxInt} {
			sameAt(t, c, append(slices.Clone(path), k)...)
			sameAt(t, c, append(slices.Clone(path), k, 0)...)
		}
	}
	ids := idsOf(c)
	for _, id := range slices.Concat(ids, []int{-1, slices.Max(ids) + 1, maxNum, maxNum + 1, math.MinInt, math.MaxInt}) {
		sameAround(t, c, id)
	}
	sameAll(t, c)
}

// Sizes of 80 among 3: 26, 26, 26.
func TestExample(t *testing.T) {
	if got, is := spread.Sizes(80, 3); !is || !slices.Equal(got, []int{26, 26, 26}) {
		t.Errorf("P16.1: Sizes(80, 3) = %v, %v", got, is)
	}
	c, want := side(0, 0, 24, 10, 29, 39), side(0, 0, 24, 26, 26, 26)
	for n, x := range []struct{ c, want api.Cell }{{c, want}, {turned(c), turned(want)}} {
		if got, e := spread.At(x.c); e != ok || !same(got, x.want) {
			t.Errorf("P16.1: At of %d = %v, %d", n, got, e)
		}
		for id := range 3 {
			if got, e := spread.Around(x.c, id); e != ok || !same(got, x.want) {
				t.Errorf("P16.1: Around %d of %d = %v, %d", id, n, got, e)
			}
		}
		if got, e := spread.All(x.c); e != ok || !same(got, x.want) {
			t.Errorf("P16.1: All of %d = %v, %d", n, got, e)
		}
		sameAnswers(t, x.c)
	}
}

// Each has as much as the others; of the rest each has 1 more, from the first one on.
func TestSizes(t *testing.T) {
	for _, x := range []struct {
		s, n int
		want []int
	}{
		{1, 1, []int{1}}, {2, 1, []int{2}}, {7, 1, []int{7}}, {maxNum, 1, []int{maxNum}},
		{3, 2, []int{1, 1}}, {4, 2, []int{2, 1}}, {5, 2, []int{2, 2}}, {6, 2, []int{3, 2}}, {80, 2, []int{40, 39}}, {maxNum, 2, []int{1073741823, 1073741823}},
		{5, 3, []int{1, 1, 1}}, {6, 3, []int{2, 1, 1}}, {7, 3, []int{2, 2, 1}}, {8, 3, []int{2, 2, 2}}, {81, 3, []int{27, 26, 26}}, {82, 3, []int{27, 27, 26}}, {maxNum, 3, []int{715827882, 715827882, 715827881}},
		{7, 4, []int{1, 1, 1, 1}}, {24, 4, []int{6, 5, 5, 5}}, {25, 4, []int{6, 6, 5, 5}}, {26, 4, []int{6, 6, 6, 5}}, {27, 4, []int{6, 6, 6, 6}},
		{24, 5, []int{4, 4, 4, 4, 4}}, {28, 5, []int{5, 5, 5, 5, 4}},
	} {
		if got, is := spread.Sizes(x.s, x.n); !is || !slices.Equal(got, x.want) {
			t.Errorf("P16.1: Sizes(%d, %d) = %v, %v, not %v", x.s, x.n, got, is, x.want)
		}
	}
	for n := -3; n <= 40; n++ {
		for s := -5; s <= 130; s++ {
			sameSizes(t, s, n)
		}
	}
	for _, n := range []int{1, 2, 3, 4999, 5000, maxCells - 1, maxCells} {
		for _, s := range []int{2*n - 2, 2*n - 1, 2 * n, 3*n - 2, 3*n - 1, maxExtent, maxNum - 1, maxNum, maxNum + 1} {
			sameSizes(t, s, n)
		}
	}
}

func TestNoSizes(t *testing.T) {
	for _, x := range []struct{ s, n int }{
		{9, 0}, {9, -1}, {0, 0}, {-1, 0}, {-1, -1}, {9, math.MinInt}, {math.MinInt, math.MinInt}, {math.MaxInt, math.MinInt},
		{0, 1}, {-1, 1}, {math.MinInt, 1}, {2, 2}, {4, 3}, {0, 2}, {-9, 3}, {1, maxCells}, {2*maxCells - 2, maxCells},
		{maxNum + 1, 1}, {maxNum + 1, 2}, {1 << 32, 2}, {math.MaxInt, 1}, {math.MaxInt, maxCells},
		{1 << 20, maxCells + 1}, {2*maxCells + 1, maxCells + 1}, {maxNum, maxNum}, {maxNum, maxCells + 1}, {9, math.MaxInt}, {math.MaxInt, math.MaxInt},
		{9, math.MaxInt/2 + 2}, {9, math.MinInt / 2}, {0, math.MaxInt/2 + 1}, {9, 1 << 62}, {9, -1 << 62},
	} {
		if got, is := spread.Sizes(x.s, x.n); is || len(got) != 0 {
			t.Errorf("P16.1: Sizes(%d, %d) = %v, %v", x.s, x.n, got[:min(len(got), 50)], is)
		}
	}
}

// Each list of sizes is new: who writes into one changes no other.
func TestSizesAreNew(t *testing.T) {
	first, _ := spread.Sizes(81, 3)
	second, _ := spread.Sizes(81, 3)
	for k := range first[:cap(first)] {
		first[:cap(first)][k] = -9
	}
	if third, _ := spread.Sizes(81, 3); !slices.Equal(second, []int{27, 26, 26}) || !slices.Equal(third, second) {
		t.Errorf("P0.4: Sizes are %v, %v", second, third)
	}
}

// Only the cell at the path is spread; its kids are adjusted, and share that by their rounds.
func TestAt(t *testing.T) {
	c := mixed()
	low := c.Kids[1].Kids[1]
	for _, x := range []struct {
		path []int
		want api.Cell
	}{
		{nil, row(c.Rect, leaf(3, of(3, 2, 5, 11)), col(of(9, 2, 5, 11), leaf(1, of(9, 2, 5, 6)), row(of(9, 9, 5, 4), leaf(0, of(9, 9, 2, 4)), leaf(5, of(12, 9, 2, 4)))), leaf(7, of(15, 2, 5, 11)))},
		{[]int{1}, row(c.Rect, c.Kids[0], col(c.Kids[1].Rect, leaf(1, of(9, 2, 6, 5)), row(of(9, 8, 6, 5), leaf(0, of(9, 8, 3, 5)), leaf(5, of(13, 8, 2, 5)))), c.Kids[2])},
		{[]int{1, 1}, c},
	} {
		if got, e := spread.At(mixed(), x.path...); e != ok || !same(got, x.want) {
			t.Errorf("P16.1: At(%v) = %v, %d, not %v", x.path, got, e, x.want)
		}
		if got, e := spread.At(turned(mixed()), x.path...); e != ok || !same(got, turned(x.want)) {
			t.Errorf("P16.1: At(%v), turned = %v, %d, not %v", x.path, got, e, turned(x.want))
		}
	}
	uneven := mixed()
	uneven.Kids[1].Kids[1].Kids = []api.Cell{leaf(0, of(9, 9, 1, 4)), leaf(5, of(11, 9, 4, 4))}
	for _, id := range []int{0, 5} {
		want := mixed()
		if got, e := spread.Around(uneven, id); e != ok || !same(got, want) || !same(want.Kids[1].Kids[1], low) {
			t.Errorf("P16.1: Around(%d) = %v, %d", id, got, e)
		}
	}
	for _, c := range cells(mixed()) {
		sameAnswers(t, c)
		sameAnswers(t, turned(c))
	}
	sameAnswers(t, uneven)
}

// Around spreads the cell whose kid the leaf is, no other one that has it in it.
func TestAround(t *testing.T) {
	for _, x := range []struct {
		id   int
		path []int
	}{{3, nil}, {7, nil}, {1, []int{1}}, {0, []int{1, 1}}, {5, []int{1, 1}}} {
		want, _ := plainAt(mixed(), x.path...)
		if got, e := spread.Around(mixed(), x.id); e != ok || !same(got, want) {
			t.Errorf("P16.1: Around(%d) = %v, %d, not %v", x.id, got, e, want)
		}
	}
}

// A kid that can't be so small: at that cell there is no space. All others are spread.
func TestNoSpace(t *testing.T) {
	inner := func(x, w int, widths ...int) api.Cell {
		c := side(x, 0, 1, widths...)
		for k := range c.Kids {
			c.Kids[k].ID += 10
		}
		if c.W != w {
			t.Fatalf("%v is %d wide", widths, c.W)
		}
		return c
	}
	wide := row(of(0, 0, 7, 1), leaf(1, of(0, 0, 1, 1)), inner(2, 5, 1, 1, 1))
	for _, path := range [][]int{nil, {}} {
		if got, e := spread.At(wide, path...); e != errSpace || !same(got, api.Cell{}) {
			t.Errorf("P16.1: At(%v) = %v, %d", path, got, e)
		}
	}
	if got, e := spread.Around(wide, 1); e != errSpace || !same(got, api.Cell{}) {
		t.Errorf("P16.1: Around(1) = %v, %d", got, e)
	}
	if got, e := spread.All(wide); e != ok || !same(got, wide) {
		t.Errorf("P16.1: All = %v, %d", got, e)
	}
	// With 4 more columns there is just so much space: 5 of 11.
	for _, x := range []struct {
		c    api.Cell
		want api.Errno
	}{
		{row(of(0, 0, 11, 1), leaf(1, of(0, 0, 5, 1)), inner(6, 5, 1, 1, 1)), ok}, {row(of(0, 0, 11, 1), leaf(1, of(0, 0, 1, 1)), inner(2, 9, 3, 5)), ok}, {row(of(0, 0, 11, 1), leaf(1, of(0, 0, 1, 1)), inner(2, 9, 1, 2, 4)), ok},
		{row(of(0, 0, 10, 1), leaf(1, of(0, 0, 1, 1)), inner(2, 8, 2, 1, 3)), errSpace}, {row(of(0, 0, 10, 1), inner(0, 8, 2, 1, 3), leaf(1, of(9, 0, 1, 1))), ok}, {row(of(0, 0, 11, 1), leaf(1, of(0, 0, 1, 1)), inner(2, 9, 1, 1, 1, 3)), errSpace},
	} {
		if _, e := spread.At(x.c); e != x.want {
			t.Errorf("P16.1: At(%v): %d, not %d", x.c, e, x.want)
		}
		sameAnswers(t, x.c)
		sameAnswers(t, turned(x.c))
	}
	// The least size along the other axis plays no part.
	c := col(of(0, 0, 9, 5), leaf(1, of(0, 0, 9, 3)), row(of(0, 4, 9, 1), leaf(2, of(0, 4, 4, 1)), row(of(5, 4, 4, 1), leaf(3, of(5, 4, 1, 1)), leaf(4, of(7, 4, 2, 1)))))
	want := col(c.Rect, leaf(1, of(0, 0, 9, 2)), row(of(0, 3, 9, 2), leaf(2, of(0, 3, 4, 2)), row(of(5, 3, 4, 2), leaf(3, of(5, 3, 1, 2)), leaf(4, of(7, 3, 2, 2)))))
	if got, e := spread.At(c); e != ok || !same(got, want) {
		t.Errorf("P16.1: At(%v) = %v, %d, not %v", c, got, e, want)
	}
	sameAnswers(t, c)
	sameAnswers(t, turned(c))
}

// pair is a row of two, so wide: a leaf, and a row of two leaves.
func pair(first, a, b int) api.Cell {
	inner := row(of(first+1, 0, a+b+1, 1), leaf(2, of(first+1, 0, a, 1)), leaf(3, of(first+2+a, 0, b, 1)))
	return row(of(0, 0, first+a+b+2, 1), leaf(1, of(0, 0, first, 1)), inner)
}

// All spreads the tree itself first, then its kids as they are then: what the kids of a kid had ahead
// of that plays no part.
func TestAll(t *testing.T) {
	for _, x := range []struct{ c, want api.Cell }{
		{pair(7, 2, 1), pair(6, 2, 2)}, {pair(1, 1, 1), pair(1, 1, 1)}, {pair(1, 2, 1), pair(1, 2, 1)}, {pair(1, 1, 3), pair(3, 1, 1)}, {pair(9, 1, 1), pair(6, 3, 2)},
		{pair(3, 8, 2), pair(7, 3, 3)}, {pair(2, 1, 1), pair(2, 1, 1)}, {pair(12, 1, 3), pair(9, 4, 3)},
	} {
		if got, e := spread.All(x.c); e != ok || !same(got, x.want) {
			t.Errorf("P16.1: All(%v) = %v, %d, not %v", x.c, got, e, x.want)
		}
		if got, e := spread.All(turned(x.c)); e != ok || !same(got, turned(x.want)) {
			t.Errorf("P16.1: All(%v) = %v, %d, not %v", turned(x.c), got, e, turned(x.want))
		}
		sameAnswers(t, x.c)
		sameAnswers(t, turned(x.c))
	}
	// The inner row can't be spread but where the outer one has given it space, nor where that has
	// taken it: of 7 its kids have 3 and 3, of 5 or 6 one of them would have 2.
	three := func(first, a, b, c int) api.Cell {
		deep := pair(a, b, c)
		number(&deep, 2)
		return row(of(0, 0, first+1+deep.W, 1), leaf(1, of(0, 0, first, 1)), plainSet(deep, first+1, 0))
	}
	for _, x := range []struct{ c, want api.Cell }{
		{three(9, 1, 1, 1), three(7, 3, 1, 1)}, {three(9, 2, 1, 1), three(8, 3, 1, 1)}, {three(3, 5, 1, 1), three(6, 2, 1, 1)}, {three(5, 5, 1, 1), three(7, 3, 1, 1)}, {three(2, 5, 1, 1), three(6, 1, 1, 1)},
	} {
		if got, e := spread.All(x.c); e != ok || !same(got, x.want) {
			t.Errorf("P16.1: All(%v) = %v, %d, not %v", x.c, got, e, x.want)
		}
		sameAnswers(t, x.c)
		sameAnswers(t, turned(x.c))
	}
}

// A leaf has no kids: it can't be spread, but all its cells are.
func TestOneLeaf(t *testing.T) {
	one := leaf(4, of(3, 2, 9, 8))
	if got, e := spread.At(one); e != errState || !same(got, api.Cell{}) {
		t.Errorf("P16.1: At = %v, %d", got, e)
	}
	if got, e := spread.Around(one, 4); e != errState || !same(got, api.Cell{}) {
		t.Errorf("P16.1: Around = %v, %d", got, e)
	}
	if got, e := spread.All(one); e != ok || !same(got, one) {
		t.Errorf("P16.1: All = %v, %d", got, e)
	}
	sameAnswers(t, one)
	sameAnswers(t, leaf(0, of(0, 0, 1, 1)))
}

// The error that is named first is told.
func TestErrors(t *testing.T) {
	narrow := mixed()
	narrow.Kids[0].W--
	one := leaf(4, of(1, 1, 9, 9))
	tight := row(of(0, 0, 5, 1), leaf(1, of(0, 0, 1, 1)), row(of(2, 0, 3, 1), leaf(2, of(2, 0, 1, 1)), leaf(3, of(4, 0, 1, 1))))
	for n, x := range []struct {
		c    api.Cell
		path []int
		want api.Errno
	}{
		{mixed(), nil, ok}, {mixed(), []int{}, ok}, {mixed(), []int{1}, ok}, {mixed(), []int{1, 1}, ok}, {tight, []int{1}, ok},
		{narrow, nil, errArg}, {narrow, []int{9}, errArg}, {narrow, []int{0}, errArg}, {narrow, []int{1}, errArg}, {api.Cell{}, nil, errArg}, {api.Cell{}, []int{0}, errArg}, {leaf(4, of(0, 0, 0, 1)), nil, errArg},
		{mixed(), []int{3}, errTarget}, {mixed(), []int{-1}, errTarget}, {mixed(), []int{0, 0}, errTarget}, {mixed(), []int{1, 2}, errTarget}, {mixed(), []int{1, 1, 2}, errTarget}, {mixed(), []int{1, 1, 1, 0}, errTarget}, {mixed(), []int{math.MinInt}, errTarget}, {mixed(), []int{math.MaxInt, 1}, errTarget}, {one, []int{0}, errTarget}, {tight, []int{2}, errTarget}, {tight, []int{-1, 1}, errTarget},
		{mixed(), []int{0}, errState}, {mixed(), []int{2}, errState}, {mixed(), []int{1, 0}, errState}, {mixed(), []int{1, 1, 1}, errState}, {one, nil, errState}, {tight, []int{0}, errState}, {tight, []int{1, 0}, errState},
		{tight, nil, errSpace}, {turned(tight), nil, errSpace},
	} {
		if got, e := spread.At(x.c, x.path...); e != x.want || e != ok && !same(got, api.Cell{}) {
			t.Errorf("P16.1: At %d: %v, %d, not %d", n, got, e, x.want)
		}
	}
	for n, x := range []struct {
		c    api.Cell
		id   int
		want api.Errno
	}{
		{mixed(), 3, ok}, {mixed(), 0, ok}, {mixed(), 7, ok}, {tight, 2, ok}, {tight, 3, ok},
		{narrow, 3, errArg}, {narrow, 9, errArg}, {api.Cell{}, 0, errArg}, {leaf(4, of(0, 0, 0, 1)), 4, errArg}, {leaf(4, of(0, 0, 0, 1)), 5, errArg},
		{mixed(), 9, errTarget}, {mixed(), -1, errTarget}, {mixed(), math.MinInt, errTarget}, {mixed(), math.MaxInt, errTarget}, {one, 0, errTarget}, {one, 5, errTarget}, {tight, 0, errTarget}, {tight, 9, errTarget},
		{one, 4, errState}, {tight, 1, errSpace}, {turned(tight), 1, errSpace},
	} {
		if got, e := spread.Around(x.c, x.id); e != x.want || e != ok && !same(got, api.Cell{}) {
			t.Errorf("P16.1: Around %d: %v, %d, not %d", n, got, e, x.want)
		}
	}
	for n, c := range []api.Cell{narrow, {}, leaf(4, of(0, 0, 0, 1))} {
		if got, e := spread.All(c); e != errArg || !same(got, api.Cell{}) {
			t.Errorf("P16.1: All %d: %v, %d", n, got, e)
		}
	}
}

// IDs of rows and columns are 0: that isn't a leaf's ID.
func TestIDsOfGroups(t *testing.T) {
	c := row(of(0, 0, 7, 5), leaf(1, of(0, 0, 3, 5)), col(of(4, 0, 3, 5), leaf(2, of(4, 0, 3, 2)), leaf(3, of(4, 3, 3, 2))))
	if got, e := spread.Around(c, 0); e != errTarget || !same(got, api.Cell{}) {
		t.Errorf("P16.1: around a column: %v, %d", got, e)
	}
	sameAnswers(t, c)
}

// wrongCells may not be, neither alone nor in others.
func wrongCells() []api.Cell {
	o := of(0, 0, 3, 1)
	two := []api.Cell{leaf(101, of(0, 0, 1, 1)), leaf(102, of(2, 0, 1, 1))}
	l := []api.Cell{
		{}, {Kind: 0, Rect: o}, {Kind: 0, Rect: o, Kids: two}, {Kind: 4, Rect: o, Kids: two}, {Kind: 255, Rect: o},
		leaf(-1, o), leaf(maxNum+1, o), leaf(math.MinInt, o), leaf(math.MaxInt, o),
		{Kind: leafKind, Rect: o, ID: 3, Kids: two}, row(o), col(o), row(o, leaf(101, o)), col(o, leaf(101, o)),
		row(o, two[0], leaf(101, of(2, 0, 1, 1))),
		{Kind: rowKind, Rect: o, ID: 1, Kids: two}, {Kind: colKind, Rect: o, ID: -1, Kids: two},
	}
	for _, r := range []api.Rect{
		{}, of(-1, 0, 3, 1), of(0, -1, 3, 1), of(0, 0, 0, 1), of(0, 0, 3, 0), of(0, 0, -3, 1), of(0, 0, 3, -1),
		of(0, 0, maxExtent+1, 1), of(0, 0, 1, maxExtent+1), of(maxExtent, 0, 1, 1), of(0, maxExtent, 1, 1),
		of(math.MaxInt, 0, 1, 1), of(math.MaxInt, 0, math.MaxInt, 1), of(0, math.MinInt, 1, math.MinInt), of(1, 1, math.MinInt, math.MinInt),
	} {
		l = append(l, leaf(3, r), row(r, two...), col(r, two...), row(o, two[0], leaf(3, r)))
	}
	return l
}

// refused asks that a tree is refused for itself, whatever else is asked of it.
func refused(t *testing.T, c api.Cell) {
	t.Helper()
	for _, path := range [][]int{nil, {}, {0}, {1}, {1, 1}, {-1}, {math.MaxInt}} {
		if got, e := spread.At(c, path...); e != errArg || !same(got, api.Cell{}) {
			t.Errorf("P16.1: At(%s, %v) = %s, %d", short(c), path, short(got), e)
		}
	}
	for _, id := range []int{-1, 0, 1, 3, 7, 101, 102, math.MaxInt} {
		if got, e := spread.Around(c, id); e != errArg || !same(got, api.Cell{}) {
			t.Errorf("P16.1: Around(%s, %d) = %s, %d", short(c), id, short(got), e)
		}
	}
	if got, e := spread.All(c); e != errArg || !same(got, api.Cell{}) {
		t.Errorf("P16.1: All(%s) = %s, %d", short(c), short(got), e)
	}
}

func TestTreesThatMayNotBe(t *testing.T) {
	for _, wrong := range wrongCells() {
		refused(t, wrong)
		for number := 1; number < len(cells(mixed())); number++ {
			c := mixed()
			*place(&c, number) = wrong
			refused(t, c)
		}
	}
}

func TestTreesThatDontTile(t *testing.T) {
	for number := 1; number < len(cells(mixed())); number++ {
		for _, change := range []func(c *api.Cell){func(c *api.Cell) { c.X++ }, func(c *api.Cell) { c.Y-- }, func(c *api.Cell) { c.W-- }, func(c *api.Cell) { c.H++ }} {
			c := mixed()
			change(place(&c, number))
			refused(t, c)
		}
	}
}

// tilings does something with all trees that tile a rectangle, at most so deep; IDs are all 0.
func tilings(r api.Rect, deep int, do func(c api.Cell)) {
	do(leaf(0, r))
	if deep == 1 {
		return
	}
	for _, kind := range []uint8{rowKind, colKind} {
		kidLists(r, kind, deep-1, nil, func(kids []api.Cell) {
			if len(kids) > 1 {
				do(clone(api.Cell{Kind: kind, Rect: r, Kids: kids}))
			}
		})
	}
}

// kidLists does something with all lists of kids that fill a rectangle, in a row or a column.
func kidLists(r api.Rect, kind uint8, deep int, kids []api.Cell, do func(kids []api.Cell)) {
	size := r.W
	if kind == colKind {
		size = r.H
	}
	for n := 1; n <= size; n++ {
		head, rest := of(r.X, r.Y, n, r.H), of(r.X+n+1, r.Y, r.W-n-1, r.H)
		if kind == colKind {
			head, rest = of(r.X, r.Y, r.W, n), of(r.X, r.Y+n+1, r.W, r.H-n-1)
		}
		tilings(head, deep, func(kid api.Cell) {
			if n == size {
				do(append(kids, kid))
			} else {
				kidLists(rest, kind, deep, append(kids, kid), do)
			}
		})
	}
}

// number gives the leaves of a tree IDs, one behind the other.
func number(c *api.Cell, from int) int {
	if c.Kind == leafKind {
		c.ID = from
		return from + 1
	}
	for k := range c.Kids {
		from = number(&c.Kids[k], from)
	}
	return from
}

func TestEverySmallTiling(t *testing.T) {
	trees := 0
	for _, r := range []api.Rect{of(2, 1, 1, 1), of(0, 0, 3, 1), of(1, 1, 3, 3), of(1, 2, 4, 3), of(1, 2, 3, 5), of(0, 1, 1, 7), of(3, 0, 9, 1), of(3, 0, 5, 3), of(1, 1, 5, 5), of(2, 0, 7, 3), of(1, 1, 4, 7), of(0, 3, 6, 5), of(0, 0, 13, 1)} {
		tilings(r, 3, func(c api.Cell) {
			trees++
			free := number(&c, 0)
			for id := range free {
				sameAround(t, c, id)
			}
			for _, path := range paths(c) {
				sameAt(t, c, path...)
			}
			sameAll(t, c)
		})
	}
	if trees < 1000 {
		t.Errorf("only %d trees tiled", trees)
	}
}

// randomTree is a tree that tiles a rectangle.
func randomTree(g *rand.Rand, r api.Rect, deep int) api.Cell {
	kind, size := rowKind, r.W
	if g.Intn(2) > 0 {
		kind, size = colKind, r.H
	}
	if deep == 0 || size < 3 || g.Intn(6) == 0 {
		return leaf(0, r)
	}
	c := api.Cell{Kind: kind, Rect: r}
	from := 0
	for from < size {
		n := 1 + g.Intn(size-from)
		if from == 0 {
			n = 1 + g.Intn(size-2)
		}
		if n == size-from-1 {
			n++ // behind it there is space for a line, but for none of its kids
		}
		part := of(r.X+from, r.Y, n, r.H)
		if kind == colKind {
			part = of(r.X, r.Y+from, r.W, n)
		}
		c.Kids = append(c.Kids, randomTree(g, part, deep-1))
		from += n + 1
	}
	if len(c.Kids) < 2 {
		return leaf(0, r)
	}
	return c
}

// disturb changes one number of a tree.
func disturb(g *rand.Rand, c *api.Cell) {
	spot := place(c, g.Intn(len(cells(*c))))
	*[]*int{&spot.X, &spot.Y, &spot.W, &spot.H, &spot.ID}[g.Intn(5)] += g.Intn(7) - 3
}

func TestManyTrees(t *testing.T) {
	g := rand.New(rand.NewSource(1616))
	most, full := 0, 0
	for range 400 {
		c := randomTree(g, of(g.Intn(30), g.Intn(30), 1+g.Intn(90), 1+g.Intn(60)), 1+g.Intn(7))
		number(&c, g.Intn(1000))
		if !plainTiles(c) {
			t.Fatalf("%v doesn't tile", c)
		}
		ids, all := idsOf(c), paths(c)
		most = max(most, len(ids))
		sameAll(t, c)
		for range 20 {
			path, id := all[g.Intn(len(all))], ids[g.Intn(len(ids))]
			sameAt(t, c, path...)
			sameAround(t, c, id)
			if _, e := spread.At(c, path...); e == errSpace {
				full++
			}
			other := clone(c)
			disturb(g, &other)
			sameAt(t, other, path...)
			sameAround(t, other, id)
			sameAll(t, other)
		}
		if len(ids) < 10 {
			sameAnswers(t, c)
		}
	}
	if most < 50 || full < 50 {
		t.Errorf("the greatest tree had %d leaves, %d times there was no space", most, full)
	}
}

// A tree is spread again and again: all stays as promised, and what is spread goes on from there.
func TestAgainAndAgain(t *testing.T) {
	g := rand.New(rand.NewSource(16))
	moved := 0
	for range 60 {
		c := randomTree(g, of(g.Intn(9), g.Intn(9), 1+g.Intn(80), 1+g.Intn(80)), 6)
		number(&c, 0)
		tree, ids, all := c, idsOf(c), paths(c)
		for range 30 {
			path := all[g.Intn(len(all))]
			sameAt(t, c, path...)
			next, e := spread.At(c, path...)
			if e != ok {
				continue
			}
			if !same(next, c) {
				moved++
			}
			c = next
			if c.Rect != tree.Rect || !plainTiles(c) || !slices.Equal(idsOf(c), ids) {
				t.Fatalf("P16.2: %s became %s", short(tree), short(c))
			}
		}
		sameAll(t, c)
	}
	if moved < 100 {
		t.Errorf("only %d times something was changed", moved)
	}
}

// All is At of each cell, one behind the other.
func TestOneByOne(t *testing.T) {
	g := rand.New(rand.NewSource(161))
	for range 100 {
		c := randomTree(g, of(g.Intn(9), g.Intn(9), 1+g.Intn(90), 1+g.Intn(90)), 5)
		number(&c, 0)
		want := c
		for _, path := range paths(c) {
			if next, e := spread.At(want, path...); e == ok {
				want = next
			}
		}
		if got, e := spread.All(c); e != ok || !same(got, want) {
			t.Fatalf("P16.1: All(%s) = %s, %d, one by one %s", short(c), short(got), e, short(want))
		}
	}
}

// Where the tree ends at MaxExtent, the last kid has no space behind it, and a kid can be as great as
// it can be.
func TestFarthest(t *testing.T) {
	for _, widths := range [][]int{{9998, 1}, {1, 9998}, {1, 9996, 1}, {1, 1, 9996}, {9996, 1, 1}, {4000, 5000, 998}} {
		c := side(0, 0, 3, widths...)
		if c.W != maxExtent {
			t.Fatalf("%v is %d wide", widths, c.W)
		}
		sizes, _ := plainSizes(maxExtent, len(widths))
		if got, e := spread.At(c); e != ok || !same(got, side(0, 0, 3, sizes...)) {
			t.Errorf("P16.1: At of %v = %v, %d", widths, got, e)
		}
		sameAnswers(t, c)
		sameAnswers(t, turned(c))
	}
	for _, c := range []api.Cell{mixed(), turned(mixed()), pair(12, 1, 3), turned(pair(12, 1, 3))} {
		for _, x := range []int{0, maxExtent - c.W} {
			for _, y := range []int{0, maxExtent - c.H} {
				sameAnswers(t, plainSet(c, x, y))
			}
		}
	}
}

// wide is a row of so many leaves in some lines, each so wide, the last one as wide as it takes.
func wide(n, id, y, h, w int) api.Cell {
	c := row(of(0, y, maxExtent, h))
	for k := range n {
		c.Kids = append(c.Kids, leaf(id+k, of((w+1)*k, y, w, h)))
	}
	c.Kids[n-1].W = maxExtent - (w+1)*(n-1)
	return c
}

// full is a tree of so many cells: a column of rows.
func full(n int) api.Cell {
	const rows, kids = 5, 3300
	c := col(of(0, 0, maxExtent, 3*rows+2))
	for k := range rows {
		c.Kids = append(c.Kids, wide(kids, kids*k, 3*k, 2, 2))
	}
	c.Kids = append(c.Kids, wide(n-2-rows-rows*kids, rows*kids, 3*rows, 2, 1))
	return c
}

func TestMostCells(t *testing.T) {
	c := full(maxCells)
	if len(cells(c)) != maxCells {
		t.Fatalf("%d cells are %d", maxCells, len(cells(c)))
	}
	sameAll(t, c)
	for _, path := range [][]int{nil, {0}, {3}, {5}, {6}, {0, 3299}, {0, 3300}} {
		sameAt(t, c, path...)
	}
	for _, id := range []int{0, 3299, 3301, len(idsOf(c)) - 1, maxNum} {
		sameAround(t, c, id)
	}
	refused(t, full(maxCells+1))
}

// stair is a tree from a column and a line on to MaxExtent: each row has a leaf 2 wide and a column,
// each column a leaf 2 high and a row.
func stair(from int) api.Cell {
	c := leaf(0, of(maxExtent-4, maxExtent-4, 4, 4))
	for id := 1; c.X >= from+3; id += 2 {
		x, y, size := c.X, c.Y, c.W
		c = row(of(x-3, y, size+3, size), leaf(id, of(x-3, y, 2, size)), c)
		c = col(of(x-3, y-3, size+3, size+3), leaf(id+1, of(x-3, y-3, size+3, 2)), c)
	}
	return c
}

// nest is a tree from a column on to MaxExtent, of rows in rows: only their last leaf is in all.
func nest(from int) api.Cell {
	c := leaf(0, of(maxExtent-2, 0, 2, 5))
	for id := 1; c.X >= from+2; id++ {
		c = row(of(c.X-2, 0, c.W+2, 5), leaf(id, of(c.X-2, 0, 1, 5)), c)
	}
	return c
}

func TestDeep(t *testing.T) {
	for _, c := range []api.Cell{stair(maxExtent - 300), nest(maxExtent - 300)} {
		ids := idsOf(c)
		sameAll(t, c)
		for _, id := range []int{0, 1, 2, 3, ids[0], ids[1], ids[2], ids[len(ids)/2], maxNum} {
			sameAround(t, c, id)
		}
		for _, path := range [][]int{nil, {0}, {1}, slices.Repeat([]int{1}, 50), slices.Repeat([]int{1}, 99), slices.Repeat([]int{1}, 500)} {
			sameAt(t, c, path...)
		}
	}
}

// halves is a tree of rows of two in rows of two, so deep, in which each cell can be spread.
func halves(x, w, deep int) api.Cell {
	if deep == 1 {
		return leaf(0, of(x, 0, w, 1))
	}
	low := 1<<(deep-1) - 1
	return row(of(x, 0, w, 1), halves(x, w-low-1, deep-1), halves(x+w-low, low, deep-1))
}

// The deepest trees that tile are gone through in time.
func TestDeepestThatTiles(t *testing.T) {
	for n, c := range []api.Cell{stair(0), nest(0)} {
		got, e := spread.All(c)
		want, _ := plainAll(c)
		if e != ok || !same(got, want) {
			t.Errorf("P16.1: All of the deep tree %d: %d", n, e)
		}
		keeps(t, c, got)
		if got, e := spread.At(c); e != errSpace || !same(got, api.Cell{}) {
			t.Errorf("P16.1: the deep tree %d is spread: %d", n, e)
		}
		path := make([]int, 0, 7000)
		for there := c; there.Kind != leafKind; there = there.Kids[len(there.Kids)-1] {
			path = append(path, len(there.Kids)-1)
		}
		if got, e := spread.At(c, path...); e != errState || !same(got, api.Cell{}) {
			t.Errorf("P16.1: the deepest leaf of %d is spread: %d", n, e)
		}
		if got, e := spread.At(c, append(path, 0)...); e != errTarget || !same(got, api.Cell{}) {
			t.Errorf("P16.1: below the deepest leaf of %d is spread: %d", n, e)
		}
		inner, e := spread.At(c, path[:len(path)-1]...)
		about, other := spread.Around(c, 0)
		if e != other || !same(inner, about) || e == ok && !onlyThere(c, inner, path[:len(path)-1]) {
			t.Errorf("P16.1: the deepest cell of %d: %d, %d", n, e, other)
		}
	}
	c := halves(0, maxExtent, 13)
	number(&c, 0)
	sameAll(t, c)
	sameAt(t, c)
	if got, e := spread.All(c); e != ok || slices.ContainsFunc(cells(got), func(c api.Cell) bool { return c.Kind == leafKind && c.W > 2 }) {
		t.Errorf("P16.1: halves of halves are %s, %d", short(got), e)
	}
}

// As deep as the document bounds it, or beyond all counting: what may not be is refused in time.
func TestEnds(t *testing.T) {
	o := of(0, 0, 3, 1)
	deep := leaf(7, o)
	for range maxNested - 1 {
		deep = row(o, leaf(1, o), deep)
	}
	many := leaf(1, o)
	for range 200 {
		many = row(o, many, many)
	}
	round := make([]api.Cell, 2)
	round[0], round[1] = row(o, round...), row(o, round...)
	round[0].Kids, round[1].Kids = round, round
	for n, c := range []api.Cell{deep, many, round[0]} {
		for _, path := range [][]int{nil, {0}, {1, 1, 1}, make([]int, maxNested), slices.Repeat([]int{1}, maxNested)} {
			if got, e := spread.At(c, path...); e != errArg || !same(got, api.Cell{}) {
				t.Errorf("P16.1: a cell of the tree %d is spread: %d", n, e)
			}
		}
		for _, id := range []int{1, 7, 99} {
			if got, e := spread.Around(c, id); e != errArg || !same(got, api.Cell{}) {
				t.Errorf("P16.1: around %d of the tree %d is spread: %d", id, n, e)
			}
		}
		if got, e := spread.All(c); e != errArg || !same(got, api.Cell{}) {
			t.Errorf("P16.1: all of the tree %d are spread: %d", n, e)
		}
	}
	if got, e := spread.At(mixed(), make([]int, maxNested)...); e != errTarget || !same(got, api.Cell{}) {
		t.Errorf("P16.1: a path that is too deep: %d", e)
	}
}

// What a leaf's kids are called plays no part: none are none.
func TestNilAndEmpty(t *testing.T) {
	c := mixed()
	for _, number := range []int{1, 3, 5, 6, 7} {
		place(&c, number).Kids = []api.Cell{}
	}
	sameAnswers(t, c)
	sameAnswers(t, api.Cell{Kind: leafKind, Rect: of(0, 0, 5, 5), Kids: []api.Cell{}})
}

// roomy is the tree with room behind each list of kids, filled with something that is none of them.
func roomy(c api.Cell) api.Cell {
	kids := make([]api.Cell, 0, len(c.Kids)+2)
	for _, kid := range c.Kids {
		kids = append(kids, roomy(kid))
	}
	copy(kids[len(kids):cap(kids)], []api.Cell{leaf(-77, c.Rect), leaf(-78, c.Rect)})
	c.Kids = kids
	return c
}

// untouched tells whether the room that roomy made is as it was, in the whole tree.
func untouched(c api.Cell) bool {
	room := c.Kids[len(c.Kids):cap(c.Kids)]
	return len(room) == 2 && same(room[0], leaf(-77, c.Rect)) && same(room[1], leaf(-78, c.Rect)) &&
		!slices.ContainsFunc(c.Kids, func(kid api.Cell) bool { return !untouched(kid) })
}

// overwrite writes into all memory that a tree has, the room behind its lists, too.
func overwrite(c api.Cell) {
	for _, kid := range c.Kids {
		overwrite(kid)
	}
	room := c.Kids[:cap(c.Kids)]
	for k := range room {
		room[k] = leaf(-99, of(-9, -9, -9, -9))
	}
}

// answers are trees that were made of one, each in another way.
func answers(c api.Cell) []api.Cell {
	var l []api.Cell
	for _, path := range paths(c) {
		if tree, e := spread.At(c, path...); e == ok {
			l = append(l, tree)
		}
	}
	for _, id := range idsOf(c) {
		if tree, e := spread.Around(c, id); e == ok {
			l = append(l, tree)
		}
	}
	if tree, e := spread.All(c); e == ok {
		l = append(l, tree)
	}
	return l
}

// What is handed in isn't changed, nor is the room behind its end, nor by who writes into an answer.
func TestNothingIsChanged(t *testing.T) {
	for _, tree := range []api.Cell{mixed(), side(1, 1, 9, 4, 2, 7), pair(1, 1, 1), pair(12, 1, 3), leaf(4, of(0, 0, 9, 9))} {
		c := roomy(tree)
		first, second := answers(c), answers(c)
		if !same(c, tree) || !untouched(c) {
			t.Errorf("P0.4: what was handed in is changed: %v", c)
		}
		var want []api.Cell
		for _, x := range second {
			want = append(want, clone(x))
		}
		for k, x := range first {
			if !same(x, want[k]) {
				t.Fatalf("P0.4: who writes into an answer changes the answer %d", k)
			}
			overwrite(x)
			if !same(c, tree) || !untouched(c) {
				t.Fatalf("P0.4: who writes into the answer %d changes what was handed in: %v", k, c)
			}
			if !slices.EqualFunc(second, want, same) {
				t.Fatalf("P0.4: who writes into the answer %d changes another one", k)
			}
		}
		if !slices.EqualFunc(answers(c), want, same) {
			t.Error("P0.6: answers are other ones later on")
		}
		overwrite(c)
		if !slices.EqualFunc(second, want, same) {
			t.Error("P0.4: an answer hangs on what was handed in")
		}
	}
}

// No two lists of an answer share memory: who lets one grow changes none of the others.
func TestListsOfAnAnswer(t *testing.T) {
	for k, x := range answers(mixed()) {
		want := clone(x)
		for number := range cells(x) {
			spot := place(&x, number)
			_ = append(spot.Kids, leaf(-77, of(0, 0, 1, 1)), leaf(-78, of(0, 0, 1, 1)))
		}
		if !same(x, want) {
			t.Errorf("P0.4: lists of the answer %d share memory: %v", k, x)
		}
	}
}

func TestPathsAreKept(t *testing.T) {
	all := []int{1, 1, 77, 78}
	want, _ := plainAt(mixed(), 1, 1)
	if got, e := spread.At(mixed(), all[:2]...); e != ok || !same(got, want) || !slices.Equal(all, []int{1, 1, 77, 78}) {
		t.Errorf("P0.4: a path that was handed in is changed: %v, %v, %d", all, got, e)
	}
}

func FuzzTrees(f *testing.F) {
	f.Add(int64(1), 80, 24, 4, 0, 3)
	f.Add(int64(2), 5, 5, 3, 2, -1)
	f.Add(int64(3), 40, 3, 6, 5, math.MinInt)
	f.Fuzz(func(t *testing.T, seed int64, w, h, deep, id, n int) {
		g := rand.New(rand.NewSource(seed))
		c := randomTree(g, of(g.Intn(9), g.Intn(9), 1+int(uint8(w)), 1+int(uint8(h))), int(uint8(deep)%8))
		free := number(&c, 0)
		all := paths(c)
		path := all[int(uint(n)%uint(len(all)))]
		sameSizes(t, w, n)
		sameSizes(t, w%1000, n%100)
		sameAt(t, c, path...)
		sameAt(t, c, append(slices.Clone(path), n)...)
		sameAround(t, c, id)
		sameAround(t, c, int(uint(id)%uint(free)))
		sameAll(t, c)
		disturb(g, &c)
		sameAt(t, c, path...)
		sameAround(t, c, int(uint(id)%uint(free)))
		sameAll(t, c)
	})
}
