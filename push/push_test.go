package push_test

import (
	"fmt"
	"math"
	"math/rand"
	"slices"
	"testing"

	"sash/api"
	"sash/push"
)

// What the document tells in numbers is written out here, not taken from api.
const (
	leafKind  = uint8(1)
	rowKind   = uint8(2)
	colKind   = uint8(3)
	across    = uint8(1)
	down      = uint8(2)
	ok        = api.Errno(0)
	errArg    = api.Errno(1)
	errTarget = api.Errno(6)
	errSpace  = api.Errno(7)
	errState  = api.Errno(10)
	maxNum    = 2147483647
	maxExtent = 10000
	maxCells  = 20000
	maxNested = 1 << 16
)

func of(x, y, w, h int) api.Rect { return api.Rect{X: x, Y: y, W: w, H: h} }

func leaf(id int, r api.Rect) api.Cell { return api.Cell{Kind: leafKind, Rect: r, ID: id} }

func row(r api.Rect, kids ...api.Cell) api.Cell {
	return api.Cell{Kind: rowKind, Rect: r, Kids: kids}
}

func col(r api.Rect, kids ...api.Cell) api.Cell {
	return api.Cell{Kind: colKind, Rect: r, Kids: kids}
}

// mixed is a tree that tiles, with all kinds of cells. Their numbers are: 0 the row, 1 the leaf 3,
// 2 a column, 3 the leaf 1, 4 a row, 5 the leaf 0, 6 the leaf 5, 7 the leaf 7.
func mixed() api.Cell {
	low := row(of(9, 9, 6, 4), leaf(0, of(9, 9, 3, 4)), leaf(5, of(13, 9, 2, 4)))
	mid := col(of(9, 2, 6, 11), leaf(1, of(9, 2, 6, 6)), low)
	return row(of(3, 2, 17, 11), leaf(3, of(3, 2, 5, 11)), mid, leaf(7, of(16, 2, 4, 11)))
}

// side is a row of leaves of these widths, from the ID 0 on, so high.
func side(x, y, h int, widths ...int) api.Cell {
	c := row(of(x, y, -1, h))
	for id, w := range widths {
		c.Kids = append(c.Kids, leaf(id, of(x, y, w, h)))
		c.W += w + 1
		x += w + 1
	}
	return c
}

// turned is the same tree with columns for lines, and lines for columns.
func turned(c api.Cell) api.Cell {
	c.X, c.Y, c.W, c.H = c.Y, c.X, c.H, c.W
	if c.Kind == rowKind || c.Kind == colKind {
		c.Kind = rowKind + colKind - c.Kind
	}
	c.Kids = slices.Clone(c.Kids)
	for k := range c.Kids {
		c.Kids[k] = turned(c.Kids[k])
	}
	return c
}

// cells are all cells of a tree, each ahead of its kids: where one stands in the list is its number.
func cells(c api.Cell) []api.Cell {
	var l []api.Cell
	stack := []api.Cell{c}
	for len(stack) > 0 {
		c := stack[len(stack)-1]
		stack = stack[:len(stack)-1]
		l = append(l, c)
		for k := len(c.Kids) - 1; k >= 0; k-- {
			stack = append(stack, c.Kids[k])
		}
	}
	return l
}

// idsOf are the IDs of a tree's leaves, in order.
func idsOf(c api.Cell) []int {
	var ids []int
	for _, c := range cells(c) {
		if c.Kind == leafKind {
			ids = append(ids, c.ID)
		}
	}
	return ids
}

// place is where the cell with a number stands in a tree, to be written at.
func place(c *api.Cell, number int) *api.Cell {
	for number > 0 {
		number--
		for k := range c.Kids {
			n := len(cells(c.Kids[k]))
			if number < n {
				c = &c.Kids[k]
				break
			}
			number -= n
		}
	}
	return c
}

// clone is the same tree in memory of its own.
func clone(c api.Cell) api.Cell {
	c.Kids = slices.Clone(c.Kids)
	for k := range c.Kids {
		c.Kids[k] = clone(c.Kids[k])
	}
	return c
}

func same(a, b api.Cell) bool {
	return a.Kind == b.Kind && a.Rect == b.Rect && a.ID == b.ID && slices.EqualFunc(a.Kids, b.Kids, same)
}

func plainMay(c api.Cell) bool {
	far := func(from, size int) bool {
		return from >= 0 && from <= maxExtent && size >= 1 && size <= maxExtent && from+size <= maxExtent
	}
	met := map[int]bool{}
	l := cells(c)
	for _, c := range l {
		isLeaf := c.Kind == leafKind && len(c.Kids) == 0 && c.ID >= 0 && c.ID <= maxNum && !met[c.ID]
		isGroup := (c.Kind == rowKind || c.Kind == colKind) && c.ID == 0 && len(c.Kids) >= 2
		if !isLeaf && !isGroup || !far(c.X, c.W) || !far(c.Y, c.H) {
			return false
		}
		if isLeaf {
			met[c.ID] = true
		}
	}
	return len(l) <= maxCells
}

// plainFilled tells whether a cell that may be has kids that stand side by side, with one column
// (line) between them, from its beginning to its end.
func plainFilled(c api.Cell) bool {
	if c.Kind == leafKind {
		return true
	}
	x, y := c.X, c.Y
	for _, kid := range c.Kids {
		if kid.X != x || kid.Y != y {
			return false
		}
		if c.Kind == rowKind && kid.H == c.H {
			x += kid.W + 1
		} else if c.Kind == colKind && kid.W == c.W {
			y += kid.H + 1
		} else {
			return false
		}
	}
	if c.Kind == rowKind {
		return x == c.X+c.W+1
	}
	return y == c.Y+c.H+1
}

func plainTiles(c api.Cell) bool {
	return plainMay(c) && !slices.ContainsFunc(cells(c), func(c api.Cell) bool { return !plainFilled(c) })
}

// sizeOf is where a rectangle's size along an axis stands, to be written at.
func sizeOf(r *api.Rect, axis uint8) *int {
	if axis == across {
		return &r.W
	}
	return &r.H
}

func axisOf(c api.Cell) uint8 {
	return map[uint8]uint8{rowKind: across, colKind: down}[c.Kind]
}

// plainGives is what a tree that tiles can give along an axis.
func plainGives(c api.Cell, axis uint8) int {
	return *sizeOf(&c.Rect, axis) - plainLeast(c, axis)
}

func plainLeast(c api.Cell, axis uint8) int {
	sum, most := -1, 1
	for _, kid := range c.Kids {
		n := plainLeast(kid, axis)
		sum += n + 1
		most = max(most, n)
	}
	if axisOf(c) == axis {
		return sum
	}
	return most
}

// plainAdjust changes a tree's size along an axis, 1 by 1, round by round; where its cells begin
// isn't told yet.
func plainAdjust(c *api.Cell, axis uint8, by int) {
	*sizeOf(&c.Rect, axis) += by
	shares := slices.Repeat([]int{by}, len(c.Kids))
	if axisOf(*c) == axis {
		shares = plainShares(c.Kids, axis, by)
	}
	for k := range c.Kids {
		plainAdjust(&c.Kids[k], axis, shares[k])
	}
}

func plainShares(kids []api.Cell, axis uint8, by int) []int {
	shares := make([]int, len(kids))
	var gives []int
	for _, kid := range kids {
		gives = append(gives, plainGives(kid, axis))
	}
	for k := 0; by != 0; k = (k + 1) % len(kids) {
		if by > 0 {
			shares[k]++
			by--
		} else if gives[k]+shares[k] > 0 {
			shares[k]--
			by++
		}
	}
	return shares
}

// plainSet lets all cells of a tree begin where those ahead of them end.
func plainSet(c api.Cell, x, y int) api.Cell {
	c.X, c.Y = x, y
	var kids []api.Cell
	for _, kid := range c.Kids {
		kids = append(kids, plainSet(kid, x, y))
		if c.Kind == rowKind {
			x += kid.W + 1
		} else {
			y += kid.H + 1
		}
	}
	c.Kids = kids
	return c
}

func hasLeaf(c api.Cell, id int) bool {
	return slices.Contains(idsOf(c), id)
}

// plainFrame is the number of the frame of a leaf, and which of its kids is the cell that is pushed.
// Of the cells that have the leaf in them the deepest one has the greatest number.
func plainFrame(c api.Cell, id int, axis uint8) (int, int, bool) {
	number, at, is := 0, 0, false
	for n, c := range cells(c) {
		if axis == 0 || axisOf(c) != axis {
			continue
		}
		k := slices.IndexFunc(c.Kids, func(kid api.Cell) bool { return hasLeaf(kid, id) })
		if k < 0 {
			continue
		}
		number, at, is = n, k, true
		if k == len(c.Kids)-1 {
			at--
		}
	}
	return number, at, is
}

// plainGiver is the kid that gives next, as the document tells it: of none it is -1.
func plainGiver(kids []api.Cell, at int, axis uint8, above bool) int {
	first := at
	if above {
		for k := at + 1; k < len(kids); k++ {
			if plainGives(kids[k], axis) > 0 {
				return k
			}
		}
		first = at - 1
	}
	for k := first; k >= 0; k-- {
		if plainGives(kids[k], axis) > 0 {
			return k
		}
	}
	return -1
}

// plainPush pushes a kid of a frame, as long as some is left and somebody gives.
func plainPush(f *api.Cell, at int, axis uint8, by int) int {
	pushed, sign, to := 0, 1, at
	if by < 0 {
		sign, to = -1, at+1
	}
	for pushed != by {
		k := plainGiver(f.Kids, at, axis, by > 0)
		if k < 0 {
			break
		}
		n := plainGives(f.Kids[k], axis)
		if by > 0 {
			n = min(n, by-pushed)
		} else if pushed-n < by {
			n = pushed - by
		}
		plainAdjust(&f.Kids[k], axis, -n)
		plainAdjust(&f.Kids[to], axis, n)
		pushed += sign * n
	}
	return pushed
}

func plainLeaf(c api.Cell, id int, axis uint8, by int) (api.Cell, int, api.Errno) {
	if !plainTiles(c) || axis != across && axis != down {
		return api.Cell{}, 0, errArg
	}
	if !hasLeaf(c, id) {
		return api.Cell{}, 0, errTarget
	}
	number, at, is := plainFrame(c, id, axis)
	if !is {
		return api.Cell{}, 0, errState
	}
	tree := clone(c)
	pushed := plainPush(place(&tree, number), at, axis, by)
	if by != 0 && pushed == 0 {
		return api.Cell{}, 0, errSpace
	}
	return plainSet(tree, c.X, c.Y), pushed, ok
}

// plainCan is how far a leaf is pushed by as much as there is.
func plainCan(c api.Cell, id int, axis uint8) (int, int) {
	_, above, _ := plainLeaf(c, id, axis, math.MaxInt)
	_, below, _ := plainLeaf(c, id, axis, math.MinInt)
	return above, -below
}

func plainHasFrames(c api.Cell, id int, axes ...uint8) bool {
	return plainTiles(c) && hasLeaf(c, id) && !slices.ContainsFunc(axes, func(axis uint8) bool {
		_, _, is := plainFrame(c, id, axis)
		return !is
	})
}

// short is a tree for a message: a great one isn't told whole.
func short(c api.Cell) string {
	s := fmt.Sprint(c)
	return s[:min(len(s), 300)]
}

// keeps holds a tree that was pushed along an axis against the second promise.
func keeps(t *testing.T, was, is api.Cell, axis uint8) {
	t.Helper()
	if !plainTiles(is) || is.Rect != was.Rect || !slices.Equal(idsOf(was), idsOf(is)) {
		t.Fatalf("P14.2: %s, pushed along %d, became %s", short(was), axis, short(is))
	}
	l, now := cells(was), cells(is)
	for n, c := range now {
		other := 3 - axis
		if len(l) != len(now) || c.Kind != l[n].Kind || len(c.Kids) != len(l[n].Kids) || *sizeOf(&c.Rect, other) != *sizeOf(&l[n].Rect, other) {
			t.Fatalf("P14.2: the cell %d of %s, pushed along %d, became that of %s", n, short(was), axis, short(is))
		}
	}
}

func sameLeaf(t *testing.T, c api.Cell, id int, axis uint8, by int) {
	t.Helper()
	got, n, e := push.Leaf(c, id, axis, by)
	want, much, should := plainLeaf(c, id, axis, by)
	if e != should || n != much || !same(got, want) {
		t.Fatalf("P14.1: Leaf(%s, %d, %d, %d) = %s, %d, %d, not %s, %d, %d", short(c), id, axis, by, short(got), n, e, short(want), much, should)
	}
	if e == ok {
		keeps(t, c, got, axis)
	}
}

func sameCan(t *testing.T, c api.Cell, id int, axis uint8) {
	t.Helper()
	above, below := push.Can(c, id, axis)
	if up, back := plainCan(c, id, axis); above != up || below != back {
		t.Fatalf("P14.1: Can(%s, %d, %d) = %d, %d, not %d, %d", short(c), id, axis, above, below, up, back)
	}
}

func sameFrame(t *testing.T, c api.Cell, id int, axes ...uint8) {
	t.Helper()
	if got, want := push.Frame(c, id, axes...), plainHasFrames(c, id, axes...); got != want {
		t.Fatalf("P14.1: Frame(%s, %d, %v) = %v", short(c), id, axes, got)
	}
}

// allAxes are axes that there are and that there aren't.
func allAxes() []uint8 { return []uint8{across, down, 0, 3, 4, 255} }

// sameAnswers holds all that is asked of one tree against the plain reading: each leaf, and wrong
// ones, along each axis, by all that can be told apart, and by far more.
func sameAnswers(t *testing.T, c api.Cell) {
	t.Helper()
	ids := idsOf(c)
	wrong := []int{-1, slices.Max(ids) + 1, maxNum + 1, math.MinInt, math.MaxInt}
	for _, id := range slices.Concat(ids, wrong) {
		sameFrame(t, c, id)
		for _, axis := range allAxes() {
			sameCan(t, c, id, axis)
			for _, other := range allAxes() {
				sameFrame(t, c, id, axis, other)
			}
			sameFrame(t, c, id, axis)
			for _, by := range []int{0, maxExtent, maxExtent + 1, maxNum, math.MaxInt, -maxExtent, -maxExtent - 1, -maxNum, math.MinInt, math.MinInt + 1} {
				sameLeaf(t, c, id, axis, by)
			}
			above, below := plainCan(c, id, axis)
			for by := -min(below+1, 20); by <= min(above+1, 20); by++ {
				sameLeaf(t, c, id, axis, by)
			}
			for by := -1; by <= 1; by++ {
				sameLeaf(t, c, id, axis, above+by)
				sameLeaf(t, c, id, axis, -below-by)
			}
		}
	}
}

// Of 40 and 39 columns the first one pushed by 5: 45 and 34; the second one pushed by 5: the same.
func TestExample(t *testing.T) {
	c := side(0, 0, 24, 40, 39)
	want := side(0, 0, 24, 45, 34)
	for id := range 2 {
		if got, n, e := push.Leaf(c, id, across, 5); e != ok || n != 5 || !same(got, want) {
			t.Errorf("P14.1: Leaf(%d, 5) = %v, %d, %d", id, got, n, e)
		}
		if got, n, e := push.Leaf(turned(c), id, down, 5); e != ok || n != 5 || !same(got, turned(want)) {
			t.Errorf("P14.1: Leaf(%d, 5) down = %v, %d, %d", id, got, n, e)
		}
	}
	sameAnswers(t, c)
	sameAnswers(t, turned(c))
}

// pushes holds pushes of rows of leaves side by side, and of the same ones turned, against what is
// written out.
func pushes(t *testing.T, widths []int, l []struct {
	id, by, n int
	want      []int
}) {
	t.Helper()
	c := side(3, 2, 5, widths...)
	for _, x := range l {
		want := side(3, 2, 5, x.want...)
		if got, n, e := push.Leaf(c, x.id, across, x.by); e != ok || n != x.n || !same(got, want) {
			t.Errorf("P14.1: Leaf(%d, %d) of %v = %v, %d, %d, not %v, %d", x.id, x.by, widths, got, n, e, x.want, x.n)
		}
		if got, n, e := push.Leaf(turned(c), x.id, down, x.by); e != ok || n != x.n || !same(got, turned(want)) {
			t.Errorf("P14.1: Leaf(%d, %d) of %v, turned = %v, %d, %d, not %v, %d", x.id, x.by, widths, got, n, e, x.want, x.n)
		}
	}
	sameAnswers(t, c)
	sameAnswers(t, turned(c))
}

// By a number above 0: those behind give, the nearest first; then those ahead, the nearest first.
// By one below 0: the cell itself, then those ahead; those behind it give nothing, the next one gets.
func TestWhoGives(t *testing.T) {
	pushes(t, []int{4, 3, 5, 2, 6}, []struct {
		id, by, n int
		want      []int
	}{
		{0, 4, 4, []int{8, 1, 3, 2, 6}}, {0, 6, 6, []int{10, 1, 1, 2, 6}}, {0, 7, 7, []int{11, 1, 1, 1, 6}}, {0, 12, 12, []int{16, 1, 1, 1, 1}}, {0, 13, 12, []int{16, 1, 1, 1, 1}},
		{2, 1, 1, []int{4, 3, 6, 1, 6}}, {2, 4, 4, []int{4, 3, 9, 1, 3}}, {2, 7, 7, []int{4, 2, 12, 1, 1}}, {2, 9, 9, []int{3, 1, 14, 1, 1}}, {2, 99, 11, []int{1, 1, 16, 1, 1}},
		{3, 5, 5, []int{4, 3, 5, 7, 1}}, {3, 6, 6, []int{4, 3, 4, 8, 1}}, {3, math.MaxInt, 14, []int{1, 1, 1, 16, 1}},
		{4, 5, 5, []int{4, 3, 5, 7, 1}}, {4, 6, 6, []int{4, 3, 4, 8, 1}}, {4, -1, -1, []int{4, 3, 5, 1, 7}}, {4, -2, -2, []int{4, 3, 4, 1, 8}},
		{0, -1, -1, []int{3, 4, 5, 2, 6}}, {0, -3, -3, []int{1, 6, 5, 2, 6}}, {0, -4, -3, []int{1, 6, 5, 2, 6}},
		{2, -4, -4, []int{4, 3, 1, 6, 6}}, {2, -5, -5, []int{4, 2, 1, 7, 6}}, {2, -7, -7, []int{3, 1, 1, 9, 6}}, {2, math.MinInt, -9, []int{1, 1, 1, 11, 6}},
		{0, 0, 0, []int{4, 3, 5, 2, 6}}, {4, 0, 0, []int{4, 3, 5, 2, 6}},
	})
	pushes(t, []int{2, 1, 1, 1, 3}, []struct {
		id, by, n int
		want      []int
	}{
		{1, 2, 2, []int{2, 3, 1, 1, 1}}, {1, 3, 3, []int{1, 4, 1, 1, 1}}, {2, -1, -1, []int{1, 1, 1, 2, 3}}, {2, -9, -1, []int{1, 1, 1, 2, 3}}, {4, -1, -1, []int{1, 1, 1, 1, 4}}, {4, 9, 3, []int{1, 1, 1, 4, 1}},
	})
}

// If nobody can give, there is no space; by 0 nobody is asked.
func TestNoSpace(t *testing.T) {
	for _, x := range []struct {
		widths []int
		id     int
		below  bool
	}{
		{[]int{1, 1}, 0, true}, {[]int{1, 1}, 1, true}, {[]int{1, 1}, 0, false}, {[]int{1, 1}, 1, false}, {[]int{1, 5}, 0, true}, {[]int{1, 5}, 1, true},
		{[]int{5, 1}, 0, false}, {[]int{5, 1}, 1, false}, {[]int{1, 5, 1}, 1, false}, {[]int{1, 1, 9}, 1, true}, {[]int{1, 1, 9}, 2, true}, {[]int{1, 1, 9, 9}, 1, true},
	} {
		c := side(2, 1, 3, x.widths...)
		for _, by := range []int{1, 2, maxExtent, math.MaxInt} {
			if x.below {
				by = -by
			}
			if got, n, e := push.Leaf(c, x.id, across, by); e != errSpace || n != 0 || !same(got, api.Cell{}) {
				t.Errorf("P14.1: Leaf(%d, %d) of %v = %v, %d, %d", x.id, by, x.widths, got, n, e)
			}
		}
		if got, n, e := push.Leaf(c, x.id, across, 0); e != ok || n != 0 || !same(got, c) {
			t.Errorf("P14.1: Leaf(%d, 0) of %v = %v, %d, %d", x.id, x.widths, got, n, e)
		}
		sameAnswers(t, c)
		sameAnswers(t, turned(c))
	}
}

// The deepest cell along the axis is the frame, whatever is between it and the leaf, and its kid on
// the way to the leaf is the cell; a cell that is greater further up stays as it is.
func TestFrames(t *testing.T) {
	c := mixed()
	first, mid, last := c.Kids[0], c.Kids[1], c.Kids[2]
	low := mid.Kids[1]
	wide := func(x, w int, widths ...int) api.Cell {
		return col(of(x, 2, w, 11), leaf(1, of(x, 2, w, 6)), row(of(x, 9, w, 4), leaf(0, of(x, 9, widths[0], 4)), leaf(5, of(x+widths[0]+1, 9, widths[1], 4))))
	}
	high := func(h int) api.Cell {
		return row(c.Rect, first, col(mid.Rect, leaf(1, of(9, 2, 6, h)), plainSet(row(of(9, 9, 6, 10-h), leaf(0, of(9, 9, 3, 10-h)), leaf(5, of(13, 9, 2, 10-h))), 9, 3+h)), last)
	}
	inner := func(a, b int) api.Cell {
		return row(c.Rect, first, col(mid.Rect, mid.Kids[0], row(low.Rect, leaf(0, of(9, 9, a, 4)), leaf(5, of(10+a, 9, b, 4)))), last)
	}
	for _, x := range []struct {
		id   int
		axis uint8
		by   int
		n    int
		want api.Cell
	}{
		{3, across, 2, 2, row(c.Rect, leaf(3, of(3, 2, 7, 11)), wide(11, 4, 2, 1), last)},
		{3, across, 9, 6, row(c.Rect, leaf(3, of(3, 2, 11, 11)), wide(15, 3, 1, 1), leaf(7, of(19, 2, 1, 11)))},
		{1, across, 2, 2, row(c.Rect, first, wide(9, 8, 4, 3), leaf(7, of(18, 2, 2, 11)))},
		{1, across, -2, -2, row(c.Rect, first, wide(9, 4, 2, 1), leaf(7, of(14, 2, 6, 11)))},
		{7, across, -2, -2, row(c.Rect, first, wide(9, 4, 2, 1), leaf(7, of(14, 2, 6, 11)))},
		{0, across, 1, 1, inner(4, 1)}, {5, across, 1, 1, inner(4, 1)}, {0, across, 9, 1, inner(4, 1)}, {5, across, -1, -1, inner(2, 3)}, {0, across, -9, -2, inner(1, 4)},
		{1, down, 2, 2, high(8)}, {0, down, 2, 2, high(8)}, {5, down, 2, 2, high(8)}, {5, down, -99, -5, high(1)}, {1, down, 99, 3, high(9)},
	} {
		if got, n, e := push.Leaf(mixed(), x.id, x.axis, x.by); e != ok || n != x.n || !same(got, x.want) {
			t.Errorf("P14.1: Leaf(%d, %d, %d) = %v, %d, %d, not %v, %d", x.id, x.axis, x.by, got, n, e, x.want, x.n)
		}
	}
	for _, id := range []int{3, 7} {
		if _, n, e := push.Leaf(mixed(), id, down, 1); e != errState || n != 0 {
			t.Errorf("P14.1: Leaf(%d) without a frame: %d, %d", id, n, e)
		}
	}
	for _, c := range cells(mixed()) {
		sameAnswers(t, c)
		sameAnswers(t, turned(c))
	}
}

// A row can be a row's kid: the inner one is the frame of its leaves, and as a kid of the outer one it
// gives, and gets, as a whole.
func TestRowsInRows(t *testing.T) {
	c := row(of(1, 1, 15, 2), leaf(1, of(1, 1, 3, 2)), row(of(5, 1, 7, 2), leaf(2, of(5, 1, 4, 2)), leaf(3, of(10, 1, 2, 2))), leaf(4, of(13, 1, 3, 2)))
	for _, x := range []struct {
		id, by, n int
		first     int
		a, b      int
		last      int
	}{
		{2, 5, 1, 3, 5, 1, 3}, {3, 5, 1, 3, 5, 1, 3}, {3, -5, -3, 3, 1, 5, 3},
		{1, 3, 3, 6, 2, 1, 3}, {1, 5, 5, 8, 1, 1, 2}, {1, -2, -2, 1, 5, 3, 3}, {4, 2, 2, 3, 5, 3, 1}, {4, 5, 4, 1, 6, 4, 1}, {4, -4, -4, 3, 1, 1, 7}, {4, -5, -5, 2, 1, 1, 8},
	} {
		x2 := 2 + x.first
		x3 := x2 + x.a + x.b + 2
		want := row(c.Rect, leaf(1, of(1, 1, x.first, 2)), row(of(x2, 1, x.a+x.b+1, 2), leaf(2, of(x2, 1, x.a, 2)), leaf(3, of(x2+x.a+1, 1, x.b, 2))), leaf(4, of(x3, 1, x.last, 2)))
		if got, n, e := push.Leaf(c, x.id, across, x.by); e != ok || n != x.n || !same(got, want) {
			t.Errorf("P14.1: Leaf(%d, %d) = %v, %d, %d, not %v, %d", x.id, x.by, got, n, e, want, x.n)
		}
	}
	sameAnswers(t, c)
	sameAnswers(t, turned(c))
}

// The cell gets what each one gives by itself: its kids share that anew each time, from the first on.
func TestGetsAgainAndAgain(t *testing.T) {
	getter := func(x, a, b int) api.Cell {
		return col(of(x, 0, a+b+1, 3), row(of(x, 0, a+b+1, 1), leaf(1, of(x, 0, a, 1)), leaf(2, of(x+a+1, 0, b, 1))), leaf(3, of(x, 2, a+b+1, 1)))
	}
	c := row(of(0, 0, 9, 3), getter(0, 1, 1), leaf(4, of(4, 0, 2, 3)), leaf(5, of(7, 0, 2, 3)))
	want := row(c.Rect, getter(0, 3, 1), leaf(4, of(6, 0, 1, 3)), leaf(5, of(8, 0, 1, 3)))
	if got, n, e := push.Leaf(c, 3, across, 2); e != ok || n != 2 || !same(got, want) {
		t.Errorf("P14.1: from two behind = %v, %d, %d, not %v", got, n, e, want)
	}
	sameAnswers(t, c)
	c = row(of(0, 0, 9, 3), leaf(4, of(0, 0, 2, 3)), leaf(5, of(3, 0, 2, 3)), getter(6, 1, 1))
	want = row(c.Rect, leaf(4, of(0, 0, 1, 3)), leaf(5, of(2, 0, 1, 3)), getter(4, 3, 1))
	for _, id := range []int{3, 5} {
		if got, n, e := push.Leaf(c, id, across, -2); e != ok || n != -2 || !same(got, want) {
			t.Errorf("P14.1: from two ahead of %d = %v, %d, %d, not %v", id, got, n, e, want)
		}
	}
	sameAnswers(t, c)
	sameAnswers(t, turned(c))
}

// Where the tree ends at MaxExtent, the last kid has no space behind it, and the whole is as great as
// it can be.
func TestFarthest(t *testing.T) {
	for _, n := range []int{1, 2, 4999, 9997, 9998} {
		rest := maxExtent - n - 1
		c := side(0, 0, maxExtent, n, rest)
		for id := range 2 {
			for _, by := range []int{1, 4, 5000, 9997, 9998, math.MaxInt, -1, -4, -5000, -9997, -9998, math.MinInt} {
				sameLeaf(t, c, id, across, by)
				sameLeaf(t, turned(c), id, down, by)
			}
			if above, below := push.Can(c, id, across); above != rest-1 || below != n-1 {
				t.Errorf("P14.1: Can of %d and %d = %d, %d", n, rest, above, below)
			}
		}
	}
	c := side(0, 0, 1, maxExtent-2, 1)
	if got, n, e := push.Leaf(c, 1, across, math.MinInt); e != ok || n != 3-maxExtent || !same(got, side(0, 0, 1, 1, maxExtent-2)) {
		t.Errorf("P14.1: Leaf of the greatest row = %v, %d, %d", got, n, e)
	}
	for _, c := range []api.Cell{mixed(), turned(mixed())} {
		for _, x := range []int{0, maxExtent - c.W} {
			for _, y := range []int{0, maxExtent - c.H} {
				sameAnswers(t, plainSet(c, x, y))
			}
		}
	}
}

func TestCan(t *testing.T) {
	c := side(3, 2, 5, 4, 3, 5, 2, 6)
	for id, want := range [][2]int{{12, 3}, {13, 5}, {11, 9}, {14, 10}, {14, 10}} {
		if above, below := push.Can(c, id, across); above != want[0] || below != want[1] {
			t.Errorf("P14.1: Can(%d) = %d, %d, not %v", id, above, below, want)
		}
		if above, below := push.Can(turned(c), id, down); above != want[0] || below != want[1] {
			t.Errorf("P14.1: Can(%d), turned = %d, %d, not %v", id, above, below, want)
		}
	}
	for _, x := range []struct {
		id           int
		axis         uint8
		above, below int
	}{
		{3, across, 6, 4}, {1, across, 7, 7}, {7, across, 7, 7}, {0, across, 1, 2}, {5, across, 1, 2}, {1, down, 3, 5}, {0, down, 3, 5}, {5, down, 3, 5},
		{3, down, 0, 0}, {7, down, 0, 0}, {9, across, 0, 0}, {-1, down, 0, 0}, {3, 0, 0, 0}, {3, 3, 0, 0}, {9, 255, 0, 0},
	} {
		if above, below := push.Can(mixed(), x.id, x.axis); above != x.above || below != x.below {
			t.Errorf("P14.1: Can(%d, %d) = %d, %d, not %d, %d", x.id, x.axis, above, below, x.above, x.below)
		}
	}
}

func TestFrame(t *testing.T) {
	one := leaf(4, of(1, 1, 9, 9))
	narrow := mixed()
	narrow.Kids[0].W--
	for n, x := range []struct {
		c    api.Cell
		id   int
		axes []uint8
		want bool
	}{
		{mixed(), 3, nil, true}, {mixed(), 3, []uint8{}, true}, {mixed(), 3, []uint8{across}, true}, {mixed(), 3, []uint8{down}, false}, {mixed(), 7, []uint8{across, down}, false}, {mixed(), 7, []uint8{down, across}, false},
		{mixed(), 1, []uint8{across, down}, true}, {mixed(), 0, []uint8{down, across, down}, true}, {mixed(), 5, []uint8{across, across}, true},
		{mixed(), 1, []uint8{0}, false}, {mixed(), 1, []uint8{across, down, 3}, false}, {mixed(), 1, []uint8{255, across}, false},
		{mixed(), 9, nil, false}, {mixed(), -1, nil, false}, {mixed(), 9, []uint8{across}, false},
		{one, 4, nil, true}, {one, 4, []uint8{across}, false}, {one, 4, []uint8{down}, false}, {one, 0, nil, false},
		{narrow, 3, nil, false}, {narrow, 3, []uint8{across}, false}, {api.Cell{}, 0, nil, false},
	} {
		if got := push.Frame(x.c, x.id, x.axes...); got != x.want {
			t.Errorf("P14.1: Frame %d = %v", n, got)
		}
	}
}

// The error that is named first is told.
func TestErrors(t *testing.T) {
	narrow := mixed()
	narrow.Kids[0].W--
	one := leaf(4, of(1, 1, 9, 9))
	tight := side(0, 0, 1, 1, 1)
	for n, x := range []struct {
		c    api.Cell
		id   int
		axis uint8
		by   int
		want api.Errno
	}{
		{mixed(), 3, across, 1, ok}, {mixed(), 3, across, 0, ok}, {mixed(), 1, down, -1, ok}, {tight, 0, across, 0, ok},
		{narrow, 3, across, 1, errArg}, {narrow, 9, across, 1, errArg}, {narrow, 3, down, 0, errArg}, {narrow, 3, 0, 0, errArg}, {api.Cell{}, 0, across, 0, errArg}, {leaf(4, of(0, 0, 0, 1)), 4, across, 1, errArg},
		{mixed(), 3, 0, 1, errArg}, {mixed(), 3, 3, 1, errArg}, {mixed(), 9, 0, 1, errArg}, {mixed(), 9, 255, 0, errArg}, {one, 4, 0, 0, errArg}, {one, 9, 3, 0, errArg}, {tight, 0, 3, 1, errArg},
		{mixed(), 9, across, 1, errTarget}, {mixed(), -1, down, 0, errTarget}, {mixed(), math.MinInt, across, 1, errTarget}, {mixed(), math.MaxInt, across, 1, errTarget}, {one, 0, across, 1, errTarget}, {tight, 2, across, 1, errTarget}, {tight, 2, down, 1, errTarget},
		{one, 4, across, 1, errState}, {one, 4, down, 0, errState}, {one, 4, across, math.MinInt, errState}, {mixed(), 3, down, 0, errState}, {mixed(), 7, down, 1, errState}, {tight, 0, down, 1, errState}, {tight, 1, down, -1, errState},
		{tight, 0, across, 1, errSpace}, {tight, 1, across, -1, errSpace}, {tight, 1, across, math.MinInt, errSpace}, {turned(tight), 0, down, math.MaxInt, errSpace},
	} {
		got, much, e := push.Leaf(x.c, x.id, x.axis, x.by)
		if e != x.want || e != ok && (much != 0 || !same(got, api.Cell{})) {
			t.Errorf("P14.1: Leaf %d: %v, %d, %d, not %d", n, got, much, e, x.want)
		}
	}
}

// IDs of rows and columns are 0: that isn't a leaf's ID.
func TestIDsOfGroups(t *testing.T) {
	c := row(of(0, 0, 7, 5), leaf(1, of(0, 0, 3, 5)), col(of(4, 0, 3, 5), leaf(2, of(4, 0, 3, 2)), leaf(3, of(4, 3, 3, 2))))
	for _, axis := range []uint8{across, down} {
		if _, n, e := push.Leaf(c, 0, axis, 1); e != errTarget || n != 0 {
			t.Errorf("P14.1: a row is pushed: %d, %d", n, e)
		}
	}
	if push.Frame(c, 0) {
		t.Error("P14.1: a row has a frame")
	}
	sameAnswers(t, c)
}

// wrongCells may not be, neither alone nor in others.
func wrongCells() []api.Cell {
	o := of(0, 0, 3, 1)
	two := []api.Cell{leaf(101, of(0, 0, 1, 1)), leaf(102, of(2, 0, 1, 1))}
	l := []api.Cell{
		{}, {Kind: 0, Rect: o}, {Kind: 0, Rect: o, Kids: two}, {Kind: 4, Rect: o, Kids: two}, {Kind: 255, Rect: o},
		leaf(-1, o), leaf(maxNum+1, o), leaf(math.MinInt, o), leaf(math.MaxInt, o),
		{Kind: leafKind, Rect: o, ID: 3, Kids: two}, row(o), col(o), row(o, leaf(101, o)), col(o, leaf(101, o)),
		row(o, two[0], leaf(101, of(2, 0, 1, 1))),
		{Kind: rowKind, Rect: o, ID: 1, Kids: two}, {Kind: colKind, Rect: o, ID: -1, Kids: two},
	}
	for _, r := range []api.Rect{
		{}, of(-1, 0, 3, 1), of(0, -1, 3, 1), of(0, 0, 0, 1), of(0, 0, 3, 0), of(0, 0, -3, 1), of(0, 0, 3, -1),
		of(0, 0, maxExtent+1, 1), of(0, 0, 1, maxExtent+1), of(maxExtent, 0, 1, 1), of(0, maxExtent, 1, 1),
		of(math.MaxInt, 0, 1, 1), of(math.MaxInt, 0, math.MaxInt, 1), of(0, math.MinInt, 1, math.MinInt), of(1, 1, math.MinInt, math.MinInt),
	} {
		l = append(l, leaf(3, r), row(r, two...), col(r, two...), row(o, two[0], leaf(3, r)))
	}
	return l
}

// refused asks that a tree is refused for itself, whatever else is asked of it.
func refused(t *testing.T, c api.Cell) {
	t.Helper()
	for _, id := range []int{-1, 0, 1, 3, 7, 101, 102, math.MaxInt} {
		if push.Frame(c, id) || push.Frame(c, id, across) || push.Frame(c, id, down, across) {
			t.Errorf("P14.1: Frame(%s, %d)", short(c), id)
		}
		for _, axis := range []uint8{across, down, 0, 255} {
			for _, by := range []int{0, 1, -1, math.MaxInt, math.MinInt} {
				if got, n, e := push.Leaf(c, id, axis, by); e != errArg || n != 0 || !same(got, api.Cell{}) {
					t.Errorf("P14.1: Leaf(%s, %d, %d, %d) = %s, %d, %d", short(c), id, axis, by, short(got), n, e)
				}
			}
			if above, below := push.Can(c, id, axis); above != 0 || below != 0 {
				t.Errorf("P14.1: Can(%s, %d, %d) = %d, %d", short(c), id, axis, above, below)
			}
		}
	}
}

func TestTreesThatMayNotBe(t *testing.T) {
	for _, wrong := range wrongCells() {
		refused(t, wrong)
		for number := 1; number < len(cells(mixed())); number++ {
			c := mixed()
			*place(&c, number) = wrong
			refused(t, c)
		}
	}
}

func TestTreesThatDontTile(t *testing.T) {
	for number := 1; number < len(cells(mixed())); number++ {
		for _, change := range []func(c *api.Cell){func(c *api.Cell) { c.X++ }, func(c *api.Cell) { c.Y-- }, func(c *api.Cell) { c.W-- }, func(c *api.Cell) { c.H++ }} {
			c := mixed()
			change(place(&c, number))
			refused(t, c)
		}
	}
}

// tilings does something with all trees that tile a rectangle, at most so deep; IDs are all 0.
func tilings(r api.Rect, deep int, do func(c api.Cell)) {
	do(leaf(0, r))
	if deep == 1 {
		return
	}
	for _, kind := range []uint8{rowKind, colKind} {
		kidLists(r, kind, deep-1, nil, func(kids []api.Cell) {
			if len(kids) > 1 {
				do(clone(api.Cell{Kind: kind, Rect: r, Kids: kids}))
			}
		})
	}
}

// kidLists does something with all lists of kids that fill a rectangle, in a row or a column.
func kidLists(r api.Rect, kind uint8, deep int, kids []api.Cell, do func(kids []api.Cell)) {
	size := r.W
	if kind == colKind {
		size = r.H
	}
	for n := 1; n <= size; n++ {
		head, rest := of(r.X, r.Y, n, r.H), of(r.X+n+1, r.Y, r.W-n-1, r.H)
		if kind == colKind {
			head, rest = of(r.X, r.Y, r.W, n), of(r.X, r.Y+n+1, r.W, r.H-n-1)
		}
		tilings(head, deep, func(kid api.Cell) {
			if n == size {
				do(append(kids, kid))
			} else {
				kidLists(rest, kind, deep, append(kids, kid), do)
			}
		})
	}
}

// number gives the leaves of a tree IDs, one behind the other.
func number(c *api.Cell, from int) int {
	if c.Kind == leafKind {
		c.ID = from
		return from + 1
	}
	for k := range c.Kids {
		from = number(&c.Kids[k], from)
	}
	return from
}

func TestEverySmallTiling(t *testing.T) {
	trees := 0
	for _, r := range []api.Rect{of(2, 1, 1, 1), of(0, 0, 3, 1), of(1, 1, 3, 3), of(1, 2, 4, 3), of(1, 2, 3, 5), of(0, 1, 1, 7), of(3, 0, 9, 1), of(3, 0, 5, 3), of(1, 1, 5, 5), of(2, 0, 7, 3), of(1, 1, 4, 7)} {
		tilings(r, 3, func(c api.Cell) {
			trees++
			free := number(&c, 0)
			for id := range free {
				for _, axis := range []uint8{across, down} {
					sameCan(t, c, id, axis)
					sameFrame(t, c, id, axis)
					for by := -6; by <= 6; by++ {
						sameLeaf(t, c, id, axis, by)
					}
				}
			}
		})
	}
	if trees < 1000 {
		t.Errorf("only %d trees tiled", trees)
	}
}

// randomTree is a tree that tiles a rectangle.
func randomTree(g *rand.Rand, r api.Rect, deep int) api.Cell {
	kind, size := rowKind, r.W
	if g.Intn(2) > 0 {
		kind, size = colKind, r.H
	}
	if deep == 0 || size < 3 || g.Intn(6) == 0 {
		return leaf(0, r)
	}
	c := api.Cell{Kind: kind, Rect: r}
	from := 0
	for from < size {
		n := 1 + g.Intn(size-from)
		if from == 0 {
			n = 1 + g.Intn(size-2)
		}
		if n == size-from-1 {
			n++ // behind it there is space for a line, but for none of its kids
		}
		part := of(r.X+from, r.Y, n, r.H)
		if kind == colKind {
			part = of(r.X, r.Y+from, r.W, n)
		}
		c.Kids = append(c.Kids, randomTree(g, part, deep-1))
		from += n + 1
	}
	if len(c.Kids) < 2 {
		return leaf(0, r)
	}
	return c
}

// disturb changes one number of a tree.
func disturb(g *rand.Rand, c *api.Cell) {
	spot := place(c, g.Intn(len(cells(*c))))
	*[]*int{&spot.X, &spot.Y, &spot.W, &spot.H, &spot.ID}[g.Intn(5)] += g.Intn(7) - 3
}

func TestManyTrees(t *testing.T) {
	g := rand.New(rand.NewSource(1414))
	most := 0
	for range 200 {
		c := randomTree(g, of(g.Intn(30), g.Intn(30), 1+g.Intn(60), 1+g.Intn(40)), 1+g.Intn(7))
		number(&c, g.Intn(1000))
		if !plainTiles(c) {
			t.Fatalf("%v doesn't tile", c)
		}
		ids := idsOf(c)
		most = max(most, len(ids))
		for range 20 {
			id, axis := ids[g.Intn(len(ids))], uint8(1+g.Intn(2))
			sameLeaf(t, c, id, axis, g.Intn(81)-40)
			sameLeaf(t, c, id, axis, g.Intn(9)-4)
			sameCan(t, c, id, axis)
			sameFrame(t, c, id, axis)
			other := clone(c)
			disturb(g, &other)
			sameLeaf(t, other, id, axis, g.Intn(9)-4)
			sameCan(t, other, id, axis)
			sameFrame(t, other, id, axis)
		}
		if len(ids) < 10 {
			sameAnswers(t, c)
		}
	}
	if most < 50 {
		t.Errorf("the greatest tree had %d leaves", most)
	}
}

// A tree is pushed again and again: all stays as promised, and what was pushed goes on from there.
func TestAgainAndAgain(t *testing.T) {
	g := rand.New(rand.NewSource(14))
	moved := 0
	for range 40 {
		c := randomTree(g, of(g.Intn(9), g.Intn(9), 1+g.Intn(50), 1+g.Intn(50)), 6)
		number(&c, 0)
		tree, ids := c, idsOf(c)
		for range 40 {
			id, axis, by := ids[g.Intn(len(ids))], uint8(1+g.Intn(2)), g.Intn(21)-10
			sameLeaf(t, c, id, axis, by)
			next, n, e := push.Leaf(c, id, axis, by)
			if e != ok {
				continue
			}
			if n != 0 {
				moved++
			}
			c = next
			if c.Rect != tree.Rect || !plainTiles(c) || !slices.Equal(idsOf(c), ids) {
				t.Fatalf("P14.2: %s became %s", short(tree), short(c))
			}
		}
	}
	if moved < 500 {
		t.Errorf("only %d pushes did something", moved)
	}
}

// As far as Can tells a leaf is pushed, and no farther: behind that it can't be pushed that way.
func TestAsFarAsItCan(t *testing.T) {
	g := rand.New(rand.NewSource(144))
	for range 100 {
		c := randomTree(g, of(g.Intn(9), g.Intn(9), 1+g.Intn(60), 1+g.Intn(60)), 5)
		number(&c, 0)
		for _, id := range idsOf(c) {
			for _, axis := range []uint8{across, down} {
				above, below := push.Can(c, id, axis)
				for _, far := range []int{above, -below} {
					got, n, e := push.Leaf(c, id, axis, far*3)
					if far == 0 {
						continue
					}
					if e != ok || n != far {
						t.Fatalf("P14.1: Leaf(%s, %d, %d, %d) = %s, %d, %d: it can be %d", short(c), id, axis, far*3, short(got), n, e, far)
					}
					if _, n, e := push.Leaf(got, id, axis, far); e != errSpace || n != 0 {
						t.Fatalf("P14.1: %s was pushed %d as far as it can, but then by %d, too, %d", short(c), id, n, e)
					}
				}
			}
		}
	}
}

// wide is a row of so many leaves in some lines, each so wide, the last one as wide as it takes.
func wide(n, id, y, h, w int) api.Cell {
	c := row(of(0, y, maxExtent, h))
	for k := range n {
		c.Kids = append(c.Kids, leaf(id+k, of((w+1)*k, y, w, h)))
	}
	c.Kids[n-1].W = maxExtent - (w+1)*(n-1)
	return c
}

// full is a tree of so many cells: a column of rows.
func full(n int) api.Cell {
	const rows, kids = 5, 3300
	c := col(of(0, 0, maxExtent, 3*rows+2))
	for k := range rows {
		c.Kids = append(c.Kids, wide(kids, kids*k, 3*k, 2, 2))
	}
	c.Kids = append(c.Kids, wide(n-2-rows-rows*kids, rows*kids, 3*rows, 2, 1))
	return c
}

func TestMostCells(t *testing.T) {
	c := full(maxCells)
	if len(cells(c)) != maxCells {
		t.Fatalf("%d cells are %d", maxCells, len(cells(c)))
	}
	last := len(idsOf(c)) - 1
	for _, id := range []int{0, 3299, 3301, last, maxNum} {
		sameLeaf(t, c, id, across, 2500)
		sameLeaf(t, c, id, across, math.MinInt)
		sameLeaf(t, c, id, down, 1)
		sameLeaf(t, c, id, down, -1)
		sameCan(t, c, id, across)
		sameCan(t, c, id, down)
		sameFrame(t, c, id, across, down)
	}
	refused(t, full(maxCells+1))
}

// Thousands give, one behind the other, to a cell of thousands.
func TestManyGivers(t *testing.T) {
	const kids = 2000
	c := wide(kids, 10000, 0, 3000, 3)
	first := col(of(0, 0, 3, 3000))
	for k := range 1000 {
		first.Kids = append(first.Kids, leaf(k, of(0, 3*k, 3, 2)))
	}
	first.Kids[999].H = 3
	first.Kids[3] = row(of(0, 9, 3, 2), leaf(3, of(0, 9, 1, 2)), leaf(30000, of(2, 9, 1, 2)))
	c.Kids[0] = first
	got, n, e := push.Leaf(c, 7, across, 3998)
	if e != ok || n != 3998 {
		t.Fatalf("P14.1: from %d: %d, %d", kids-1, n, e)
	}
	keeps(t, c, got, across)
	// The row's first leaf has 1 of each 2 that come, the last one the other 1.
	if a, b := got.Kids[0].Kids[3].Kids[0], got.Kids[0].Kids[3].Kids[1]; a.Rect != of(0, 9, 2000, 2) || b.Rect != of(2001, 9, 2000, 2) {
		t.Errorf("P14.1: what came 2 by 2 is %v, %v", a, b)
	}
}

// stair is a tree from a column and a line on to MaxExtent: each row has a leaf 2 wide and a column,
// each column a leaf 2 high and a row.
func stair(from int) api.Cell {
	c := leaf(0, of(maxExtent-4, maxExtent-4, 4, 4))
	for id := 1; c.X >= from+3; id += 2 {
		x, y, size := c.X, c.Y, c.W
		c = row(of(x-3, y, size+3, size), leaf(id, of(x-3, y, 2, size)), c)
		c = col(of(x-3, y-3, size+3, size+3), leaf(id+1, of(x-3, y-3, size+3, 2)), c)
	}
	return c
}

// nest is a tree from a column on to MaxExtent, of rows in rows: only their last leaf is in all.
func nest(from int) api.Cell {
	c := leaf(0, of(maxExtent-2, 0, 2, 5))
	for id := 1; c.X >= from+2; id++ {
		c = row(of(c.X-2, 0, c.W+2, 5), leaf(id, of(c.X-2, 0, 1, 5)), c)
	}
	return c
}

func TestDeep(t *testing.T) {
	for _, c := range []api.Cell{stair(maxExtent - 300), nest(maxExtent - 300)} {
		ids := idsOf(c)
		for _, id := range []int{0, 1, 2, 3, ids[0], ids[1], ids[2], ids[len(ids)/2], maxNum} {
			for _, axis := range []uint8{across, down} {
				for _, by := range []int{1, -1, 7, -7, math.MaxInt, math.MinInt} {
					sameLeaf(t, c, id, axis, by)
				}
				sameCan(t, c, id, axis)
				sameFrame(t, c, id, axis)
			}
		}
	}
}

// A deepest tree that tiles is gone through in time. Each leaf beside a column gives 1 across, each
// beside a row 1 down, the innermost one 3.
func TestDeepestThatTiles(t *testing.T) {
	c := stair(0)
	ids := idsOf(c)
	got, n, e := push.Leaf(c, ids[1], across, math.MaxInt)
	if above, below := push.Can(c, ids[1], across); e != ok || n != above || n != len(ids)/2+2 || below != 1 {
		t.Fatalf("P14.1: the outermost edge is pushed by %d, %d: it can be %d, and %d", n, e, above, below)
	}
	keeps(t, c, got, across)
	for _, x := range []struct {
		id, by, n int
		axis      uint8
	}{{0, 1, 1, across}, {0, -9, -1, across}, {1, 9, 3, across}, {2, 3, 3, down}, {2, -3, -1, down}, {3, 9, 4, across}, {ids[0], -2, -1, down}} {
		got, n, e := push.Leaf(c, x.id, x.axis, x.by)
		if e != ok || n != x.n {
			t.Fatalf("P14.1: Leaf(%d, %d, %d) of a deep tree: %d, %d", x.id, x.axis, x.by, n, e)
		}
		keeps(t, c, got, x.axis)
	}
	if _, n, e := push.Leaf(c, ids[0], across, 1); e != errState || n != 0 || push.Frame(c, ids[0], across) || !push.Frame(c, 0, across, down) {
		t.Errorf("P14.1: a deep tree's frames: %d, %d", n, e)
	}
	c = nest(0)
	for _, x := range []struct {
		id, by, n int
		e         api.Errno
	}{{0, 1, 1, ok}, {0, -1, 0, errSpace}, {1, 9, 1, ok}, {2, 9, 1, ok}, {len(idsOf(c)) - 1, 2, 1, ok}} {
		if _, n, e := push.Leaf(c, x.id, across, x.by); e != x.e || n != x.n {
			t.Errorf("P14.1: Leaf(%d, %d) of rows in rows: %d, %d", x.id, x.by, n, e)
		}
	}
	if !push.Frame(c, 0, across) || push.Frame(c, 0, down) {
		t.Error("P14.1: the frames of rows in rows")
	}
}

// As deep as the document bounds it, or beyond all counting: what may not be is refused in time.
func TestEnds(t *testing.T) {
	o := of(0, 0, 3, 1)
	deep := leaf(7, o)
	for range maxNested - 1 {
		deep = row(o, leaf(1, o), deep)
	}
	many := leaf(1, o)
	for range 200 {
		many = row(o, many, many)
	}
	round := make([]api.Cell, 2)
	round[0], round[1] = row(o, round...), row(o, round...)
	round[0].Kids, round[1].Kids = round, round
	for n, c := range []api.Cell{deep, many, round[0]} {
		for _, id := range []int{1, 7, 99} {
			if got, much, e := push.Leaf(c, id, across, 1); e != errArg || much != 0 || !same(got, api.Cell{}) {
				t.Errorf("P14.1: a leaf of the tree %d is pushed: %d, %d", n, much, e)
			}
			if above, below := push.Can(c, id, across); above != 0 || below != 0 {
				t.Errorf("P14.1: a leaf of the tree %d can be pushed: %d, %d", n, above, below)
			}
			if push.Frame(c, id) || push.Frame(c, id, across) {
				t.Errorf("P14.1: a leaf of the tree %d has a frame", n)
			}
		}
	}
}

// What a leaf's kids are called plays no part: none are none.
func TestNilAndEmpty(t *testing.T) {
	c := mixed()
	for _, number := range []int{1, 3, 5, 6, 7} {
		place(&c, number).Kids = []api.Cell{}
	}
	sameAnswers(t, c)
	sameAnswers(t, api.Cell{Kind: leafKind, Rect: of(0, 0, 5, 5), Kids: []api.Cell{}})
}

// roomy is the tree with room behind each list of kids, filled with something that is none of them.
func roomy(c api.Cell) api.Cell {
	kids := make([]api.Cell, 0, len(c.Kids)+2)
	for _, kid := range c.Kids {
		kids = append(kids, roomy(kid))
	}
	copy(kids[len(kids):cap(kids)], []api.Cell{leaf(-77, c.Rect), leaf(-78, c.Rect)})
	c.Kids = kids
	return c
}

// untouched tells whether the room that roomy made is as it was, in the whole tree.
func untouched(c api.Cell) bool {
	room := c.Kids[len(c.Kids):cap(c.Kids)]
	return len(room) == 2 && same(room[0], leaf(-77, c.Rect)) && same(room[1], leaf(-78, c.Rect)) &&
		!slices.ContainsFunc(c.Kids, func(kid api.Cell) bool { return !untouched(kid) })
}

// overwrite writes into all memory that a tree has, the room behind its lists, too.
func overwrite(c api.Cell) {
	for _, kid := range c.Kids {
		overwrite(kid)
	}
	room := c.Kids[:cap(c.Kids)]
	for k := range room {
		room[k] = leaf(-99, of(-9, -9, -9, -9))
	}
}

// answers are trees that were made of one, each in another way.
func answers(c api.Cell) []api.Cell {
	var l []api.Cell
	for _, id := range idsOf(c) {
		for _, axis := range []uint8{across, down} {
			for _, by := range []int{0, 1, 3, 99, -1, -2, -99} {
				if tree, _, e := push.Leaf(c, id, axis, by); e == ok {
					l = append(l, tree)
				}
			}
		}
	}
	return l
}

// What is handed in isn't changed, nor is the room behind its end, nor by who writes into an answer.
func TestNothingIsChanged(t *testing.T) {
	for _, tree := range []api.Cell{mixed(), side(1, 1, 9, 4, 2, 7)} {
		c := roomy(tree)
		first, second := answers(c), answers(c)
		for _, id := range idsOf(c) {
			push.Can(c, id, across)
			push.Frame(c, id, across, down)
		}
		if !same(c, tree) || !untouched(c) {
			t.Errorf("P0.4: what was handed in is changed: %v", c)
		}
		var want []api.Cell
		for _, x := range second {
			want = append(want, clone(x))
		}
		for k, x := range first {
			if !same(x, want[k]) {
				t.Fatalf("P0.4: who writes into an answer changes the answer %d", k)
			}
			overwrite(x)
			if !same(c, tree) || !untouched(c) {
				t.Fatalf("P0.4: who writes into the answer %d changes what was handed in: %v", k, c)
			}
			if !slices.EqualFunc(second, want, same) {
				t.Fatalf("P0.4: who writes into the answer %d changes another one", k)
			}
		}
		if !slices.EqualFunc(answers(c), want, same) {
			t.Error("P0.6: answers are other ones later on")
		}
		overwrite(c)
		if !slices.EqualFunc(second, want, same) {
			t.Error("P0.4: an answer hangs on what was handed in")
		}
	}
}

// No two lists of an answer share memory: who lets one grow changes none of the others.
func TestListsOfAnAnswer(t *testing.T) {
	for k, x := range answers(mixed()) {
		want := clone(x)
		for number := range cells(x) {
			spot := place(&x, number)
			_ = append(spot.Kids, leaf(-77, of(0, 0, 1, 1)), leaf(-78, of(0, 0, 1, 1)))
		}
		if !same(x, want) {
			t.Errorf("P0.4: lists of the answer %d share memory: %v", k, x)
		}
	}
}

func TestAxesAreKept(t *testing.T) {
	all := []uint8{down, across, 77, 78}
	if !push.Frame(mixed(), 1, all[:2]...) || !slices.Equal(all, []uint8{down, across, 77, 78}) {
		t.Errorf("P0.4: axes that were handed in are changed: %v", all)
	}
}

func FuzzTrees(f *testing.F) {
	f.Add(int64(1), 80, 24, 4, 0, uint8(1), 1)
	f.Add(int64(2), 5, 5, 3, 2, uint8(2), -1)
	f.Add(int64(3), 40, 3, 6, 5, uint8(0), math.MinInt)
	f.Fuzz(func(t *testing.T, seed int64, w, h, deep, id int, axis uint8, by int) {
		g := rand.New(rand.NewSource(seed))
		c := randomTree(g, of(g.Intn(9), g.Intn(9), 1+int(uint8(w)), 1+int(uint8(h))), int(uint8(deep)%8))
		free := number(&c, 0)
		for _, id := range []int{id, int(uint(id) % uint(free+1))} {
			for _, axis := range []uint8{axis, across, down} {
				sameLeaf(t, c, id, axis, by)
				sameLeaf(t, c, id, axis, by%50)
				sameCan(t, c, id, axis)
				sameFrame(t, c, id, axis, across)
			}
		}
		disturb(g, &c)
		other := int(uint(id) % uint(free+1))
		sameLeaf(t, c, other, axis, by%50)
		sameCan(t, c, other, across)
		sameFrame(t, c, other, down)
	})
}
