package split_test

import (
	"fmt"
	"math"
	"math/rand"
	"slices"
	"testing"

	"sash/api"
	"sash/split"
)

// What the document tells in numbers is written out here, not taken from api.
const (
	leafKind  = uint8(1)
	rowKind   = uint8(2)
	colKind   = uint8(3)
	across    = uint8(1)
	down      = uint8(2)
	ok        = api.Errno(0)
	errArg    = api.Errno(1)
	errTarget = api.Errno(6)
	errSpace  = api.Errno(7)
	errCap    = api.Errno(8)
	maxNum    = 2147483647
	maxExtent = 10000
	maxCells  = 20000
	maxNested = 1 << 16
)

func of(x, y, w, h int) api.Rect { return api.Rect{X: x, Y: y, W: w, H: h} }

func leaf(id int, r api.Rect) api.Cell { return api.Cell{Kind: leafKind, Rect: r, ID: id} }

func row(r api.Rect, kids ...api.Cell) api.Cell {
	return api.Cell{Kind: rowKind, Rect: r, Kids: kids}
}

func col(r api.Rect, kids ...api.Cell) api.Cell {
	return api.Cell{Kind: colKind, Rect: r, Kids: kids}
}

// mixed is a tree that tiles, with all kinds of cells. Their numbers are: 0 the row, 1 the leaf 3,
// 2 a column, 3 the leaf 1, 4 a row, 5 the leaf 0, 6 the leaf 5, 7 the leaf 7.
func mixed() api.Cell {
	low := row(of(9, 9, 6, 4), leaf(0, of(9, 9, 3, 4)), leaf(5, of(13, 9, 2, 4)))
	mid := col(of(9, 2, 6, 11), leaf(1, of(9, 2, 6, 6)), low)
	return row(of(3, 2, 17, 11), leaf(3, of(3, 2, 5, 11)), mid, leaf(7, of(16, 2, 4, 11)))
}

// cells are all cells of a tree, each ahead of its kids: where one stands in the list is its number.
func cells(c api.Cell) []api.Cell {
	var l []api.Cell
	stack := []api.Cell{c}
	for len(stack) > 0 {
		c := stack[len(stack)-1]
		stack = stack[:len(stack)-1]
		l = append(l, c)
		for k := len(c.Kids) - 1; k >= 0; k-- {
			stack = append(stack, c.Kids[k])
		}
	}
	return l
}

// leaves are the leaves of a tree, in order.
func leaves(c api.Cell) []api.Cell {
	return slices.DeleteFunc(cells(c), func(c api.Cell) bool { return c.Kind != leafKind })
}

// place is where the cell with a number stands in a tree, to be written at.
func place(c *api.Cell, number int) *api.Cell {
	for number > 0 {
		number--
		for k := range c.Kids {
			n := len(cells(c.Kids[k]))
			if number < n {
				c = &c.Kids[k]
				break
			}
			number -= n
		}
	}
	return c
}

// clone is the same tree in memory of its own.
func clone(c api.Cell) api.Cell {
	c.Kids = slices.Clone(c.Kids)
	for k := range c.Kids {
		c.Kids[k] = clone(c.Kids[k])
	}
	return c
}

func same(a, b api.Cell) bool {
	return a.Kind == b.Kind && a.Rect == b.Rect && a.ID == b.ID && slices.EqualFunc(a.Kids, b.Kids, same)
}

func plainMay(c api.Cell) bool {
	far := func(from, size int) bool {
		return from >= 0 && from <= maxExtent && size >= 1 && size <= maxExtent && from+size <= maxExtent
	}
	met := map[int]bool{}
	l := cells(c)
	for _, c := range l {
		isLeaf := c.Kind == leafKind && len(c.Kids) == 0 && c.ID >= 0 && c.ID <= maxNum && !met[c.ID]
		isGroup := (c.Kind == rowKind || c.Kind == colKind) && c.ID == 0 && len(c.Kids) >= 2
		if !isLeaf && !isGroup || !far(c.X, c.W) || !far(c.Y, c.H) {
			return false
		}
		if isLeaf {
			met[c.ID] = true
		}
	}
	return len(l) <= maxCells
}

// plainFilled tells whether a cell that may be has kids that stand side by side, with one column
// (line) between them, from its beginning to its end.
func plainFilled(c api.Cell) bool {
	if c.Kind == leafKind {
		return true
	}
	x, y := c.X, c.Y
	for _, kid := range c.Kids {
		if kid.X != x || kid.Y != y {
			return false
		}
		if c.Kind == rowKind && kid.H == c.H {
			x += kid.W + 1
		} else if c.Kind == colKind && kid.W == c.W {
			y += kid.H + 1
		} else {
			return false
		}
	}
	if c.Kind == rowKind {
		return x == c.X+c.W+1
	}
	return y == c.Y+c.H+1
}

func plainTiles(c api.Cell) bool {
	return plainMay(c) && !slices.ContainsFunc(cells(c), func(c api.Cell) bool { return !plainFilled(c) })
}

// plainLeaf is the leaf of a tree that has an ID.
func plainLeaf(c api.Cell, id int) (api.Cell, bool) {
	for _, c := range leaves(c) {
		if c.ID == id {
			return c, true
		}
	}
	return api.Cell{}, false
}

// plainSizes hands a size out, 1 by 1: to the elder one first, then by turns; or, if so many are
// asked for, to the new one as long as it should have more, then to the elder one.
func plainSizes(s, size int) (int, int, bool) {
	if s < 3 || size < 0 {
		return 0, 0, false
	}
	elder, newer := 1, 1
	for elder+newer < s-1 {
		if size == 0 && newer < elder || newer < size {
			newer++
		} else {
			elder++
		}
	}
	return elder, newer, true
}

func sizeOf(r api.Rect, axis uint8) int {
	if axis == across {
		return r.W
	}
	return r.H
}

// part is what a rectangle has from some column (line) of its on, so many of them.
func part(r api.Rect, axis uint8, from, size int) api.Rect {
	if axis == across {
		return of(r.X+from, r.Y, size, r.H)
	}
	return of(r.X, r.Y+from, r.W, size)
}

// plainPair is what becomes of a leaf that is split, in order.
func plainPair(c api.Cell, axis uint8, size, fresh int, ahead bool) []api.Cell {
	elder, newer, _ := plainSizes(sizeOf(c.Rect, axis), size)
	if ahead {
		return []api.Cell{leaf(fresh, part(c.Rect, axis, 0, newer)), leaf(c.ID, part(c.Rect, axis, newer+1, elder))}
	}
	return []api.Cell{leaf(c.ID, part(c.Rect, axis, 0, elder)), leaf(fresh, part(c.Rect, axis, elder+1, newer))}
}

// plainSplit is the tree, cell by cell, in which one leaf is split that has the size for it.
func plainSplit(c api.Cell, id int, axis uint8, pair []api.Cell) api.Cell {
	kind := map[uint8]uint8{across: rowKind, down: colKind}[axis]
	if c.Kind == leafKind {
		if c.ID == id {
			return api.Cell{Kind: kind, Rect: c.Rect, Kids: pair}
		}
		return c
	}
	var kids []api.Cell
	for _, kid := range c.Kids {
		if kid.Kind == leafKind && kid.ID == id && c.Kind == kind {
			kids = append(kids, pair...)
		} else {
			kids = append(kids, plainSplit(kid, id, axis, pair))
		}
	}
	c.Kids = kids
	return c
}

// request is what is asked of a tree.
type request struct {
	id    int
	axis  uint8
	size  int
	fresh int
	ahead bool
}

func ask(c api.Cell, x request) (api.Cell, api.Errno) {
	return split.Leaf(c, x.id, x.axis, x.size, x.fresh, x.ahead)
}

func plainAnswer(c api.Cell, x request) (api.Cell, api.Errno) {
	if !plainTiles(c) || x.axis != across && x.axis != down || x.size < 0 || x.fresh < 0 || x.fresh > maxNum {
		return api.Cell{}, errArg
	}
	if _, taken := plainLeaf(c, x.fresh); taken {
		return api.Cell{}, errArg
	}
	was, there := plainLeaf(c, x.id)
	if !there {
		return api.Cell{}, errTarget
	}
	if sizeOf(was.Rect, x.axis) < 3 {
		return api.Cell{}, errSpace
	}
	tree := plainSplit(c, x.id, x.axis, plainPair(was, x.axis, x.size, x.fresh, x.ahead))
	if len(cells(tree)) > maxCells {
		return api.Cell{}, errCap
	}
	return tree, ok
}

func plainCan(c api.Cell, id int, axes ...uint8) bool {
	was, there := plainLeaf(c, id)
	for _, axis := range axes {
		if axis != across && axis != down || sizeOf(was.Rect, axis) < 3 {
			return false
		}
	}
	return there && plainTiles(c)
}

// short is a tree for a message: a great one isn't told whole.
func short(c api.Cell) string {
	s := fmt.Sprint(c)
	return s[:min(len(s), 300)]
}

// keeps holds a tree in which a leaf was split against the second promise.
func keeps(t *testing.T, was, is api.Cell, x request) {
	t.Helper()
	if !plainTiles(is) || is.Rect != was.Rect {
		t.Fatalf("P12.2: %s became %s, by %v", short(was), short(is), x)
	}
	l, now := leaves(was), leaves(is)
	at := slices.IndexFunc(l, func(c api.Cell) bool { return c.ID == x.id })
	elder, newer := at, at+1
	if x.ahead {
		elder, newer = at+1, at
	}
	if len(now) != len(l)+1 || now[newer].ID != x.fresh || now[elder].ID != x.id {
		t.Fatalf("P12.2: %s became %s, by %v", short(was), short(is), x)
	}
	now = slices.Delete(now, newer, newer+1)
	now[at].Rect = l[at].Rect
	if !slices.EqualFunc(l, now, same) {
		t.Fatalf("P12.2: the other leaves of %s became those of %s, by %v", short(was), short(is), x)
	}
}

func sameAnswer(t *testing.T, c api.Cell, x request) {
	t.Helper()
	got, e := ask(c, x)
	want, should := plainAnswer(c, x)
	if e != should || !same(got, want) {
		t.Fatalf("P12.1: Leaf of %s by %v = %s, %d, not %s, %d", short(c), x, short(got), e, short(want), should)
	}
	if e == ok {
		keeps(t, c, got, x)
	}
}

func sameCan(t *testing.T, c api.Cell, id int, axes ...uint8) {
	t.Helper()
	if got, want := split.Can(c, id, axes...), plainCan(c, id, axes...); got != want {
		t.Fatalf("P12.1: Can(%s, %d, %v) = %v", short(c), id, axes, got)
	}
}

func sameSizes(t *testing.T, s, size int) {
	t.Helper()
	a, b, is := split.Sizes(s, size)
	x, y, should := plainSizes(s, size)
	if a != x || b != y || is != should {
		t.Fatalf("P12.1: Sizes(%d, %d) = %d, %d, %v, not %d, %d, %v", s, size, a, b, is, x, y, should)
	}
}

// freshID is one that no leaf has.
func freshID(c api.Cell) int {
	id := 0
	for _, c := range leaves(c) {
		id = max(id, c.ID+1)
	}
	return id
}

// sameAnswers holds all that is asked of one tree against the plain reading: each leaf, split along
// each axis, to each size that there is for it, and wrong ones.
func sameAnswers(t *testing.T, c api.Cell) {
	t.Helper()
	fresh := freshID(c)
	for _, was := range leaves(c) {
		for axis := range uint8(4) {
			s := sizeOf(was.Rect, axis)
			for _, size := range []int{0, 1, 2, s / 2, s - 3, s - 2, s - 1, s, math.MaxInt, -1, math.MinInt} {
				sameAnswer(t, c, request{was.ID, axis, size, fresh, false})
				sameAnswer(t, c, request{was.ID, axis, size, fresh, true})
			}
			for _, id := range []int{was.ID, leaves(c)[0].ID, maxNum, maxNum + 1, -1, math.MinInt, math.MaxInt} {
				sameAnswer(t, c, request{was.ID, axis, 0, id, false})
			}
			sameCan(t, c, was.ID, axis)
			sameCan(t, c, was.ID, axis, across)
			sameCan(t, c, was.ID, down, axis)
		}
		sameCan(t, c, was.ID)
	}
	for _, id := range []int{fresh, -1, maxNum, math.MinInt, math.MaxInt} {
		sameAnswer(t, c, request{id, across, 0, fresh + 1, false})
		sameAnswer(t, c, request{id, down, 0, fresh + 1, true})
		sameCan(t, c, id)
		sameCan(t, c, id, across)
	}
}

func TestExample(t *testing.T) {
	if a, b, is := split.Sizes(80, 0); a != 40 || b != 39 || !is {
		t.Errorf("P12.1: Sizes of 80: %d, %d, %v", a, b, is)
	}
	got, e := split.Leaf(leaf(0, of(0, 0, 80, 24)), 0, across, 0, 1, false)
	want := row(of(0, 0, 80, 24), leaf(0, of(0, 0, 40, 24)), leaf(1, of(41, 0, 39, 24)))
	if e != ok || !same(got, want) {
		t.Errorf("P12.1: 80 columns split across: %v, %d", got, e)
	}
}

func TestSizes(t *testing.T) {
	for _, x := range []struct{ s, size, elder, newer int }{
		{3, 0, 1, 1}, {4, 0, 2, 1}, {5, 0, 2, 2}, {6, 0, 3, 2}, {7, 0, 3, 3}, {24, 0, 12, 11}, {79, 0, 39, 39}, {81, 0, 40, 40},
		{3, 1, 1, 1}, {3, 2, 1, 1}, {3, 3, 1, 1}, {3, 4, 1, 1}, {3, 99, 1, 1}, {4, 1, 2, 1}, {4, 2, 1, 2}, {4, 3, 1, 2},
		{10, 1, 8, 1}, {10, 7, 2, 7}, {10, 8, 1, 8}, {10, 9, 1, 8}, {10, 10, 1, 8}, {10, 11, 1, 8}, {10, math.MaxInt, 1, 8},
		{maxExtent, 0, 5000, 4999}, {maxExtent, 1, 9998, 1}, {maxExtent, 9999, 1, 9998},
		{maxNum, 0, 1<<30 - 1, 1<<30 - 1}, {maxNum, maxNum, 1, maxNum - 2}, {maxNum + 1, 0, 1 << 30, 1<<30 - 1},
		{math.MaxInt, 0, math.MaxInt / 2, math.MaxInt / 2}, {math.MaxInt - 1, 0, math.MaxInt / 2, math.MaxInt/2 - 1},
		{math.MaxInt, 1, math.MaxInt - 2, 1}, {math.MaxInt, math.MaxInt, 1, math.MaxInt - 2},
		{math.MaxInt, math.MaxInt - 1, 1, math.MaxInt - 2}, {math.MaxInt, math.MaxInt - 3, 2, math.MaxInt - 3},
	} {
		if a, b, is := split.Sizes(x.s, x.size); a != x.elder || b != x.newer || !is {
			t.Errorf("P12.1: Sizes(%d, %d) = %d, %d, %v", x.s, x.size, a, b, is)
		}
	}
	for s := -3; s < 70; s++ {
		for size := -3; size < 75; size++ {
			sameSizes(t, s, size)
		}
	}
}

func TestNoSizes(t *testing.T) {
	least := []int{math.MinInt, math.MinInt + 1, -maxNum, -3, -1, 0, 1, 2}
	for _, n := range least {
		for _, m := range []int{math.MinInt, -1, 0, 1, 2, 3, math.MaxInt} {
			if a, b, is := split.Sizes(n, m); a != 0 || b != 0 || is {
				t.Errorf("P12.1: Sizes(%d, %d) = %d, %d, %v", n, m, a, b, is)
			}
		}
	}
	for _, s := range []int{3, 4, 80, maxExtent, maxNum, math.MaxInt} {
		for _, size := range []int{math.MinInt, math.MinInt + 1, -s, -2, -1} {
			if a, b, is := split.Sizes(s, size); a != 0 || b != 0 || is {
				t.Errorf("P12.1: Sizes(%d, %d) = %d, %d, %v", s, size, a, b, is)
			}
		}
	}
}

// A leaf alone becomes a row, or a column, that stands where it stood.
func TestLeafAlone(t *testing.T) {
	r := of(4, 6, 8, 5)
	for _, x := range []struct {
		ask  request
		want api.Cell
	}{
		{request{7, across, 0, 0, false}, row(r, leaf(7, of(4, 6, 4, 5)), leaf(0, of(9, 6, 3, 5)))},
		{request{7, across, 0, 0, true}, row(r, leaf(0, of(4, 6, 3, 5)), leaf(7, of(8, 6, 4, 5)))},
		{request{7, across, 1, maxNum, false}, row(r, leaf(7, of(4, 6, 6, 5)), leaf(maxNum, of(11, 6, 1, 5)))},
		{request{7, across, 6, 8, false}, row(r, leaf(7, of(4, 6, 1, 5)), leaf(8, of(6, 6, 6, 5)))},
		{request{7, across, 7, 8, true}, row(r, leaf(8, of(4, 6, 6, 5)), leaf(7, of(11, 6, 1, 5)))},
		{request{7, down, 0, 8, false}, col(r, leaf(7, of(4, 6, 8, 2)), leaf(8, of(4, 9, 8, 2)))},
		{request{7, down, 0, 8, true}, col(r, leaf(8, of(4, 6, 8, 2)), leaf(7, of(4, 9, 8, 2)))},
		{request{7, down, 1, 8, true}, col(r, leaf(8, of(4, 6, 8, 1)), leaf(7, of(4, 8, 8, 3)))},
		{request{7, down, 3, 8, false}, col(r, leaf(7, of(4, 6, 8, 1)), leaf(8, of(4, 8, 8, 3)))},
		{request{7, down, math.MaxInt, 8, false}, col(r, leaf(7, of(4, 6, 8, 1)), leaf(8, of(4, 8, 8, 3)))},
	} {
		if got, e := ask(leaf(7, r), x.ask); e != ok || !same(got, x.want) {
			t.Errorf("P12.1: Leaf by %v = %v, %d, not %v", x.ask, got, e, x.want)
		}
	}
	for w := 1; w < 8; w++ {
		for h := 1; h < 8; h++ {
			sameAnswers(t, leaf(7, of(1, 2, w, h)))
		}
	}
	sameAnswers(t, leaf(7, of(0, 0, maxExtent, maxExtent)))
	sameAnswers(t, leaf(7, of(maxExtent-3, maxExtent-4, 3, 4)))
}

// A leaf in a cell along the axis gets a neighbour there; in one along the other axis both become
// the kids of a new cell.
func TestLeafAmongOthers(t *testing.T) {
	c := mixed()
	r := c.Rect
	mid := c.Kids[1]
	for _, x := range []struct {
		ask  request
		want api.Cell
	}{
		{request{3, across, 0, 9, false}, row(r, leaf(3, of(3, 2, 2, 11)), leaf(9, of(6, 2, 2, 11)), mid, c.Kids[2])},
		{request{3, across, 3, 9, true}, row(r, leaf(9, of(3, 2, 3, 11)), leaf(3, of(7, 2, 1, 11)), mid, c.Kids[2])},
		{request{7, across, 0, 9, false}, row(r, c.Kids[0], mid, leaf(7, of(16, 2, 2, 11)), leaf(9, of(19, 2, 1, 11)))},
		{request{7, across, 0, 9, true}, row(r, c.Kids[0], mid, leaf(9, of(16, 2, 1, 11)), leaf(7, of(18, 2, 2, 11)))},
		{request{3, down, 0, 9, false}, row(r, col(of(3, 2, 5, 11), leaf(3, of(3, 2, 5, 5)), leaf(9, of(3, 8, 5, 5))), mid, c.Kids[2])},
		{request{7, down, 2, 9, true}, row(r, c.Kids[0], mid, col(of(16, 2, 4, 11), leaf(9, of(16, 2, 4, 2)), leaf(7, of(16, 5, 4, 8))))},
		{request{1, down, 0, 9, false}, row(r, c.Kids[0], col(mid.Rect, leaf(1, of(9, 2, 6, 3)), leaf(9, of(9, 6, 6, 2)), mid.Kids[1]), c.Kids[2])},
		{request{1, across, 0, 9, true}, row(r, c.Kids[0], col(mid.Rect, row(of(9, 2, 6, 6), leaf(9, of(9, 2, 2, 6)), leaf(1, of(12, 2, 3, 6))), mid.Kids[1]), c.Kids[2])},
		{request{0, across, 0, 9, false}, row(r, c.Kids[0], col(mid.Rect, mid.Kids[0], row(of(9, 9, 6, 4), leaf(0, of(9, 9, 1, 4)), leaf(9, of(11, 9, 1, 4)), leaf(5, of(13, 9, 2, 4)))), c.Kids[2])},
		{request{5, down, 0, 9, false}, row(r, c.Kids[0], col(mid.Rect, mid.Kids[0], row(of(9, 9, 6, 4), leaf(0, of(9, 9, 3, 4)), col(of(13, 9, 2, 4), leaf(5, of(13, 9, 2, 2)), leaf(9, of(13, 12, 2, 1))))), c.Kids[2])},
	} {
		if got, e := ask(mixed(), x.ask); e != ok || !same(got, x.want) {
			t.Errorf("P12.1: Leaf by %v = %v, %d, not %v", x.ask, got, e, x.want)
		}
	}
	for _, c := range cells(mixed()) {
		sameAnswers(t, c)
	}
}

// The axis of the cell that the leaf is in tells alone: not that of cells further out, nor that a
// row's kid is a row, too.
func TestRowsInRows(t *testing.T) {
	inner := row(of(4, 0, 7, 3), leaf(2, of(4, 0, 3, 3)), leaf(3, of(8, 0, 3, 3)))
	c := row(of(0, 0, 11, 3), leaf(1, of(0, 0, 3, 3)), inner)
	got, e := split.Leaf(c, 2, across, 0, 9, false)
	want := row(c.Rect, c.Kids[0], row(inner.Rect, leaf(2, of(4, 0, 1, 3)), leaf(9, of(6, 0, 1, 3)), inner.Kids[1]))
	if e != ok || !same(got, want) {
		t.Errorf("P12.1: Leaf in a row in a row = %v, %d", got, e)
	}
	got, e = split.Leaf(c, 1, across, 0, 9, true)
	want = row(c.Rect, leaf(9, of(0, 0, 1, 3)), leaf(1, of(2, 0, 1, 3)), inner)
	if e != ok || !same(got, want) {
		t.Errorf("P12.1: Leaf beside a row, in a row = %v, %d", got, e)
	}
	sameAnswers(t, c)
}

// The error that is named first is told.
func TestErrors(t *testing.T) {
	c := mixed() // 5 is 2 by 4, 0 is 3 by 4
	for _, x := range []struct {
		ask  request
		want api.Errno
	}{
		{request{3, 0, 0, 9, false}, errArg}, {request{3, 3, 0, 9, false}, errArg}, {request{3, 255, 0, 9, true}, errArg},
		{request{3, across, -1, 9, false}, errArg}, {request{3, down, math.MinInt, 9, false}, errArg},
		{request{3, across, 0, -1, false}, errArg}, {request{3, across, 0, maxNum + 1, false}, errArg},
		{request{3, across, 0, math.MinInt, false}, errArg}, {request{3, across, 0, math.MaxInt, true}, errArg},
		{request{3, across, 0, 3, false}, errArg}, {request{3, across, 0, 7, false}, errArg}, {request{3, across, 0, 0, false}, errArg},
		{request{9, 0, 0, 9, false}, errArg}, {request{9, across, -1, 9, false}, errArg}, {request{9, across, 0, -1, false}, errArg}, {request{9, across, 0, 5, false}, errArg},
		{request{5, 3, 0, 9, false}, errArg}, {request{5, across, -1, 9, false}, errArg}, {request{5, across, 0, maxNum + 1, false}, errArg}, {request{5, across, 0, 5, false}, errArg},
		{request{9, across, 0, 9, false}, errTarget}, {request{2, down, 0, 9, true}, errTarget}, {request{-1, across, 0, 9, false}, errTarget},
		{request{math.MinInt, across, 0, 9, false}, errTarget}, {request{math.MaxInt, down, 5, 9, false}, errTarget},
		{request{5, across, 0, 9, false}, errSpace}, {request{5, across, 1, 9, true}, errSpace}, {request{5, across, math.MaxInt, 9, true}, errSpace},
		{request{5, down, 0, 9, false}, ok}, {request{0, across, 0, 9, false}, ok}, {request{0, across, 0, 2, false}, ok}, {request{3, across, 0, maxNum, true}, ok},
	} {
		got, e := ask(c, x.ask)
		if e != x.want || e != ok && !same(got, api.Cell{}) {
			t.Errorf("P12.1: Leaf by %v = %v, %d, not %d", x.ask, got, e, x.want)
		}
	}
	for n := range 256 {
		sameAnswer(t, c, request{3, uint8(n), 0, 9, false})
		sameAnswer(t, c, request{9, uint8(n), 0, 10, false})
		sameCan(t, c, 3, uint8(n))
		sameCan(t, c, 3, across, down, uint8(n))
	}
}

// IDs of rows and columns are 0: that isn't a leaf's ID.
func TestIDsOfGroups(t *testing.T) {
	c := row(of(0, 0, 7, 3), leaf(1, of(0, 0, 3, 3)), leaf(2, of(4, 0, 3, 3)))
	if _, e := split.Leaf(c, 0, across, 0, 9, false); e != errTarget {
		t.Errorf("P12.1: a row is split: %d", e)
	}
	if split.Can(c, 0) {
		t.Error("P12.1: a row can be split")
	}
	got, e := split.Leaf(c, 2, down, 0, 0, false)
	if want := row(c.Rect, c.Kids[0], col(of(4, 0, 3, 3), leaf(2, of(4, 0, 3, 1)), leaf(0, of(4, 2, 3, 1)))); e != ok || !same(got, want) {
		t.Errorf("P12.1: a new leaf 0: %v, %d", got, e)
	}
}

func TestCan(t *testing.T) {
	c := row(of(0, 0, 8, 3), leaf(1, of(0, 0, 2, 3)), leaf(4, of(3, 0, 5, 3)))
	flat := row(of(0, 0, 8, 2), leaf(1, of(0, 0, 2, 2)), leaf(4, of(3, 0, 5, 2)))
	for _, x := range []struct {
		c    api.Cell
		id   int
		axes []uint8
		want bool
	}{
		{c, 1, nil, true}, {c, 1, []uint8{}, true}, {c, 0, nil, false}, {c, 2, nil, false}, {c, -1, nil, false},
		{c, 1, []uint8{across}, false}, {c, 1, []uint8{down}, true}, {c, 1, []uint8{down, across}, false}, {c, 1, []uint8{across, down}, false},
		{c, 1, []uint8{down, down, down}, true}, {c, 1, []uint8{down, across, down}, false}, {c, 2, []uint8{down}, false},
		{c, 4, []uint8{across}, true}, {c, 4, []uint8{across, down, across}, true}, {c, 4, []uint8{0}, false}, {c, 4, []uint8{3}, false},
		{c, 4, []uint8{across, 0}, false}, {c, 4, []uint8{255, down}, false}, {c, 4, []uint8{across, down, 4}, false},
		{flat, 1, nil, true}, {flat, 1, []uint8{down}, false}, {flat, 4, []uint8{across}, true}, {flat, 4, []uint8{across, down}, false},
	} {
		if got := split.Can(x.c, x.id, x.axes...); got != x.want {
			t.Errorf("P12.1: Can(%v, %d, %v) = %v", x.c, x.id, x.axes, got)
		}
	}
}

// wrongCells may not be, neither alone nor in others.
func wrongCells() []api.Cell {
	o := of(0, 0, 3, 1)
	two := []api.Cell{leaf(101, of(0, 0, 1, 1)), leaf(102, of(2, 0, 1, 1))}
	l := []api.Cell{
		{}, {Kind: 0, Rect: o}, {Kind: 0, Rect: o, Kids: two}, {Kind: 4, Rect: o, Kids: two}, {Kind: 255, Rect: o},
		leaf(-1, o), leaf(maxNum+1, o), leaf(math.MinInt, o), leaf(math.MaxInt, o),
		{Kind: leafKind, Rect: o, ID: 3, Kids: two}, row(o), col(o), row(o, leaf(101, o)), col(o, leaf(101, o)),
		row(o, two[0], leaf(101, of(2, 0, 1, 1))),
		{Kind: rowKind, Rect: o, ID: 1, Kids: two}, {Kind: colKind, Rect: o, ID: -1, Kids: two},
	}
	for _, r := range []api.Rect{
		{}, of(-1, 0, 3, 1), of(0, -1, 3, 1), of(0, 0, 0, 1), of(0, 0, 3, 0), of(0, 0, -3, 1), of(0, 0, 3, -1),
		of(0, 0, maxExtent+1, 1), of(0, 0, 1, maxExtent+1), of(maxExtent, 0, 1, 1), of(0, maxExtent, 1, 1),
		of(math.MaxInt, 0, 1, 1), of(math.MaxInt, 0, math.MaxInt, 1), of(0, math.MinInt, 1, math.MinInt), of(1, 1, math.MinInt, math.MinInt),
	} {
		l = append(l, leaf(3, r), row(r, two...), col(r, two...), row(o, two[0], leaf(3, r)))
	}
	return l
}

// refused asks that a tree is refused for itself, whatever else is asked of it.
func refused(t *testing.T, c api.Cell) {
	t.Helper()
	for _, id := range []int{-1, 0, 3, 7, 101, math.MaxInt} {
		for axis := range uint8(4) {
			for _, size := range []int{-1, 0, 2} {
				x := request{id, axis, size, 9, size > 0}
				if got, e := ask(c, x); e != errArg || !same(got, api.Cell{}) {
					t.Errorf("P12.1: Leaf of %s by %v = %s, %d", short(c), x, short(got), e)
				}
			}
			if split.Can(c, id, axis) {
				t.Errorf("P12.1: Can(%s, %d, %d)", short(c), id, axis)
			}
		}
		if split.Can(c, id) {
			t.Errorf("P12.1: Can(%s, %d)", short(c), id)
		}
	}
}

func TestTreesThatMayNotBe(t *testing.T) {
	for _, wrong := range wrongCells() {
		refused(t, wrong)
		for number := 1; number < len(cells(mixed())); number++ {
			c := mixed()
			*place(&c, number) = wrong
			refused(t, c)
		}
	}
}

func TestTreesThatDontTile(t *testing.T) {
	for number := 1; number < len(cells(mixed())); number++ {
		for _, change := range []func(c *api.Cell){func(c *api.Cell) { c.X++ }, func(c *api.Cell) { c.Y-- }, func(c *api.Cell) { c.W-- }, func(c *api.Cell) { c.H++ }} {
			c := mixed()
			change(place(&c, number))
			refused(t, c)
		}
	}
}

// tilings does something with all trees that tile a rectangle, at most so deep; IDs are all 0.
func tilings(r api.Rect, deep int, do func(c api.Cell)) {
	do(leaf(0, r))
	if deep == 1 {
		return
	}
	for _, kind := range []uint8{rowKind, colKind} {
		kidLists(r, kind, deep-1, nil, func(kids []api.Cell) {
			if len(kids) > 1 {
				do(clone(api.Cell{Kind: kind, Rect: r, Kids: kids}))
			}
		})
	}
}

// kidLists does something with all lists of kids that fill a rectangle, in a row or a column.
func kidLists(r api.Rect, kind uint8, deep int, kids []api.Cell, do func(kids []api.Cell)) {
	size := r.W
	if kind == colKind {
		size = r.H
	}
	for n := 1; n <= size; n++ {
		head, rest := of(r.X, r.Y, n, r.H), of(r.X+n+1, r.Y, r.W-n-1, r.H)
		if kind == colKind {
			head, rest = of(r.X, r.Y, r.W, n), of(r.X, r.Y+n+1, r.W, r.H-n-1)
		}
		tilings(head, deep, func(kid api.Cell) {
			if n == size {
				do(append(kids, kid))
			} else {
				kidLists(rest, kind, deep, append(kids, kid), do)
			}
		})
	}
}

// number gives the leaves of a tree IDs, one behind the other.
func number(c *api.Cell, from int) int {
	if c.Kind == leafKind {
		c.ID = from
		return from + 1
	}
	for k := range c.Kids {
		from = number(&c.Kids[k], from)
	}
	return from
}

func TestEverySmallTiling(t *testing.T) {
	trees := 0
	for _, r := range []api.Rect{of(2, 1, 1, 1), of(0, 0, 3, 1), of(1, 1, 3, 3), of(1, 2, 4, 3), of(1, 2, 3, 5), of(0, 1, 1, 7), of(3, 0, 9, 1), of(3, 0, 5, 3), of(1, 1, 5, 5), of(2, 0, 7, 4)} {
		tilings(r, 3, func(c api.Cell) {
			trees++
			fresh := number(&c, 0)
			for id := range fresh + 1 {
				for size := -1; size <= 8; size++ {
					sameAnswer(t, c, request{id, across, size, fresh, false})
					sameAnswer(t, c, request{id, across, size, fresh, true})
					sameAnswer(t, c, request{id, down, size, fresh, false})
					sameAnswer(t, c, request{id, down, size, fresh, true})
				}
				sameCan(t, c, id, across)
				sameCan(t, c, id, down)
				sameCan(t, c, id, across, down)
			}
		})
	}
	if trees < 1000 {
		t.Errorf("only %d trees tiled", trees)
	}
}

// randomTree is a tree that tiles a rectangle.
func randomTree(g *rand.Rand, r api.Rect, deep int) api.Cell {
	kind, size := rowKind, r.W
	if g.Intn(2) > 0 {
		kind, size = colKind, r.H
	}
	if deep == 0 || size < 3 || g.Intn(6) == 0 {
		return leaf(0, r)
	}
	c := api.Cell{Kind: kind, Rect: r}
	from := 0
	for from < size {
		n := 1 + g.Intn(size-from)
		if from == 0 {
			n = 1 + g.Intn(size-2)
		}
		if n == size-from-1 {
			n++ // behind it there is space for a line, but for none of its kids
		}
		part := of(r.X+from, r.Y, n, r.H)
		if kind == colKind {
			part = of(r.X, r.Y+from, r.W, n)
		}
		c.Kids = append(c.Kids, randomTree(g, part, deep-1))
		from += n + 1
	}
	if len(c.Kids) < 2 {
		return leaf(0, r)
	}
	return c
}

// disturb changes one number of a tree.
func disturb(g *rand.Rand, c *api.Cell) {
	spot := place(c, g.Intn(len(cells(*c))))
	*[]*int{&spot.X, &spot.Y, &spot.W, &spot.H, &spot.ID}[g.Intn(5)] += g.Intn(7) - 3
}

func TestManyTrees(t *testing.T) {
	g := rand.New(rand.NewSource(1212))
	most := 0
	for range 150 {
		c := randomTree(g, of(g.Intn(30), g.Intn(30), 1+g.Intn(60), 1+g.Intn(40)), 1+g.Intn(7))
		number(&c, g.Intn(1000))
		if !plainTiles(c) {
			t.Fatalf("%v doesn't tile", c)
		}
		l := leaves(c)
		most = max(most, len(l))
		for range 40 {
			id := l[g.Intn(len(l))].ID
			for _, axis := range []uint8{across, down} {
				sameAnswer(t, c, request{id, axis, max(0, g.Intn(30)-10), 1000000, g.Intn(2) > 0})
				sameCan(t, c, id, axis)
			}
			other := clone(c)
			disturb(g, &other)
			sameAnswer(t, other, request{id, across, g.Intn(9), 1000000, g.Intn(2) > 0})
			sameCan(t, other, id, down)
		}
		if len(l) < 25 {
			sameAnswers(t, c)
		}
	}
	if most < 50 {
		t.Errorf("the greatest tree had %d leaves", most)
	}
}

// What is split again and again stays a tree that tiles, till no leaf has the space.
func TestAgainAndAgain(t *testing.T) {
	g := rand.New(rand.NewSource(12))
	for range 20 {
		c := leaf(0, of(g.Intn(9), g.Intn(9), 1+g.Intn(25), 1+g.Intn(25)))
		for fresh := 1; ; fresh++ {
			l := slices.DeleteFunc(leaves(c), func(c api.Cell) bool { return c.W < 3 && c.H < 3 })
			if len(l) == 0 {
				break
			}
			was := l[g.Intn(len(l))]
			axis := 1 + uint8(g.Intn(2))
			x := request{was.ID, axis, g.Intn(5), fresh, g.Intn(2) > 0}
			sameAnswer(t, c, x)
			if next, e := ask(c, x); e == ok {
				c = next
			} else if sizeOf(was.Rect, axis) >= 3 {
				t.Fatalf("P12.1: Leaf of %v by %v: %d", c, x, e)
			}
		}
		for _, was := range leaves(c) {
			sameCan(t, c, was.ID, across)
			sameCan(t, c, was.ID, down)
			sameAnswer(t, c, request{was.ID, across, 0, maxNum, false})
		}
	}
}

// wide is a row of so many leaves in some lines, each 1 wide, the last one as wide as it takes.
func wide(n, id, y, h int) api.Cell {
	c := row(of(0, y, maxExtent, h))
	for k := range n {
		c.Kids = append(c.Kids, leaf(id+k, of(2*k, y, 1, h)))
	}
	c.Kids[n-1].W = maxExtent - 2*(n-1)
	return c
}

// full is a tree of so many cells, whose first leaf is 1 by 3, and whose last one 10 by 2 at least.
func full(n int) api.Cell {
	const kids = 5000
	last := n - 5 - 3*kids
	return col(of(0, 0, maxExtent, 12), wide(kids, 0, 0, 3), wide(kids, kids, 4, 2), wide(kids, 2*kids, 7, 2), wide(last, 3*kids, 10, 2))
}

// A neighbour is one cell more, a new row or column two. That there is no space is told ahead of
// that there would be too many cells.
func TestMostCells(t *testing.T) {
	for _, x := range []struct {
		cells           int
		beside, instead api.Errno
	}{
		{maxCells - 3, ok, ok}, {maxCells - 2, ok, ok}, {maxCells - 1, ok, errCap}, {maxCells, errCap, errCap}, {maxCells + 1, errArg, errArg},
	} {
		c := full(x.cells)
		if len(cells(c)) != x.cells {
			t.Fatalf("%d cells are %d", x.cells, len(cells(c)))
		}
		last := leaves(c)[len(leaves(c))-1].ID
		if _, e := split.Leaf(c, last, across, 0, maxNum, true); e != x.beside {
			t.Errorf("P12.1: another kid, of %d cells: %d", x.cells, e)
		}
		if _, e := split.Leaf(c, 0, down, 0, maxNum, false); e != x.instead {
			t.Errorf("P12.1: a new column, of %d cells: %d", x.cells, e)
		}
		for _, ahead := range []bool{false, true} {
			sameAnswer(t, c, request{last, across, 0, maxNum, ahead})
			sameAnswer(t, c, request{0, down, 1, maxNum, ahead})
			sameAnswer(t, c, request{last, down, 0, maxNum, ahead})
			sameAnswer(t, c, request{0, across, 0, maxNum, ahead})
			sameAnswer(t, c, request{maxNum, across, 0, maxNum, ahead})
			sameAnswer(t, c, request{0, down, 0, last, ahead})
		}
		// How many cells there would be isn't asked of what can be split.
		sameCan(t, c, last, across)
		sameCan(t, c, 0, down)
		sameCan(t, c, last, across, down)
	}
}

// stair is as deep as a tree that tiles can be: each row has a leaf 1 wide and a column, each column
// a leaf 1 high and a row.
func stair() api.Cell {
	c := leaf(0, of(maxExtent-4, maxExtent-4, 4, 4))
	for id := 1; c.X >= 2; id += 2 {
		x, y, size := c.X, c.Y, c.W
		c = row(of(x-2, y, size+2, size), leaf(id, of(x-2, y, 1, size)), c)
		c = col(of(x-2, y-2, size+2, size+2), leaf(id+1, of(x-2, y-2, size+2, 1)), c)
	}
	return c
}

func TestDeepestThatTiles(t *testing.T) {
	c := stair()
	l := cells(c)
	outermost := l[1].ID
	// The leaf 0 is deepest: it stands in the innermost row, 1 stands beside it.
	for _, x := range []request{
		{0, across, 0, maxNum, false}, {0, down, 2, maxNum, true}, {1, down, 0, maxNum, false}, {1, across, 0, maxNum, false},
		{outermost, across, 7, maxNum, true}, {outermost, down, 0, maxNum, true}, {maxNum, down, 0, maxNum, true},
	} {
		sameAnswer(t, c, x)
		sameCan(t, c, x.id, x.axis)
	}
}

// As deep as the document bounds it, or beyond all counting: what may not be is refused in time.
func TestEnds(t *testing.T) {
	o := of(0, 0, 3, 1)
	deep := leaf(7, o)
	for range maxNested - 1 {
		deep = row(o, leaf(1, o), deep)
	}
	many := leaf(1, o)
	for range 200 {
		many = row(o, many, many)
	}
	round := make([]api.Cell, 2)
	round[0], round[1] = row(o, round...), row(o, round...)
	round[0].Kids, round[1].Kids = round, round
	for n, c := range []api.Cell{deep, many, round[0]} {
		for _, id := range []int{1, 7, 99} {
			if got, e := split.Leaf(c, id, across, 0, 9, false); e != errArg || !same(got, api.Cell{}) {
				t.Errorf("P12.1: a leaf of the tree %d is split: %d", n, e)
			}
			if split.Can(c, id) || split.Can(c, id, across) {
				t.Errorf("P12.1: a leaf of the tree %d can be split", n)
			}
		}
	}
}

// What a leaf's kids are called plays no part: none are none.
func TestNilAndEmpty(t *testing.T) {
	c := mixed()
	for _, number := range []int{1, 3, 5, 6, 7} {
		place(&c, number).Kids = []api.Cell{}
	}
	sameAnswers(t, c)
	sameAnswers(t, api.Cell{Kind: leafKind, Rect: of(0, 0, 5, 5), Kids: []api.Cell{}})
}

// roomy is the tree with room behind each list of kids, filled with something that is none of them.
func roomy(c api.Cell) api.Cell {
	kids := make([]api.Cell, 0, len(c.Kids)+2)
	for _, kid := range c.Kids {
		kids = append(kids, roomy(kid))
	}
	copy(kids[len(kids):cap(kids)], []api.Cell{leaf(-77, c.Rect), leaf(-78, c.Rect)})
	c.Kids = kids
	return c
}

// untouched tells whether the room that roomy made is as it was, in the whole tree.
func untouched(c api.Cell) bool {
	room := c.Kids[len(c.Kids):cap(c.Kids)]
	return len(room) == 2 && same(room[0], leaf(-77, c.Rect)) && same(room[1], leaf(-78, c.Rect)) &&
		!slices.ContainsFunc(c.Kids, func(kid api.Cell) bool { return !untouched(kid) })
}

// overwrite writes into all memory that a tree has, the room behind its lists, too.
func overwrite(c api.Cell) {
	for _, kid := range c.Kids {
		overwrite(kid)
	}
	room := c.Kids[:cap(c.Kids)]
	for k := range room {
		room[k] = leaf(-99, of(-9, -9, -9, -9))
	}
}

// answers are trees that were made of one, each by another split.
func answers(c api.Cell) []api.Cell {
	var l []api.Cell
	for _, was := range leaves(c) {
		for _, axis := range []uint8{across, down} {
			for _, ahead := range []bool{false, true} {
				tree, _ := split.Leaf(c, was.ID, axis, 0, 9, ahead)
				l = append(l, tree)
			}
		}
	}
	return l
}

// What is handed in isn't changed, nor is the room behind its end, nor by who writes into an answer.
func TestNothingIsChanged(t *testing.T) {
	for _, tree := range []api.Cell{mixed(), leaf(4, of(1, 1, 9, 9))} {
		c := roomy(tree)
		first, second := answers(c), answers(c)
		for _, was := range leaves(c) {
			split.Can(c, was.ID, across, down)
		}
		if !same(c, tree) || !untouched(c) {
			t.Errorf("P0.4: what was handed in is changed: %v", c)
		}
		var want []api.Cell
		for _, x := range second {
			want = append(want, clone(x))
		}
		for k, x := range first {
			if !same(x, want[k]) {
				t.Fatalf("P0.4: who writes into an answer changes the answer %d", k)
			}
			overwrite(x)
			if !same(c, tree) || !untouched(c) {
				t.Fatalf("P0.4: who writes into the answer %d changes what was handed in: %v", k, c)
			}
			if !slices.EqualFunc(second, want, same) {
				t.Fatalf("P0.4: who writes into the answer %d changes another one", k)
			}
		}
		if !slices.EqualFunc(answers(c), want, same) {
			t.Error("P0.6: answers are other ones later on")
		}
		overwrite(c)
		if !slices.EqualFunc(second, want, same) {
			t.Error("P0.4: an answer hangs on what was handed in")
		}
	}
}

// No two lists of an answer share memory: who lets one grow changes none of the others.
func TestListsOfAnAnswer(t *testing.T) {
	for k, x := range answers(mixed()) {
		want := clone(x)
		for number := range cells(x) {
			spot := place(&x, number)
			_ = append(spot.Kids, leaf(-77, of(0, 0, 1, 1)), leaf(-78, of(0, 0, 1, 1)))
		}
		if !same(x, want) {
			t.Errorf("P0.4: lists of the answer %d share memory: %v", k, x)
		}
	}
}

func TestAxesAreKept(t *testing.T) {
	all := []uint8{across, down, across, 77, 78}
	if !split.Can(mixed(), 3, all[:3]...) || !slices.Equal(all, []uint8{across, down, across, 77, 78}) {
		t.Errorf("P0.4: axes that were handed in are changed: %v", all)
	}
}

func FuzzTrees(f *testing.F) {
	f.Add(int64(1), 80, 24, 4, 0, uint8(1), 0, 1, false)
	f.Add(int64(2), 5, 5, 3, 2, uint8(2), 2, 9999, true)
	f.Add(int64(3), 40, 3, 6, 5, uint8(9), math.MinInt, -1, false)
	f.Fuzz(func(t *testing.T, seed int64, w, h, deep, id int, axis uint8, size, fresh int, ahead bool) {
		g := rand.New(rand.NewSource(seed))
		c := randomTree(g, of(g.Intn(9), g.Intn(9), 1+int(uint8(w)), 1+int(uint8(h))), int(uint8(deep)%8))
		free := number(&c, 0)
		for _, id := range []int{id, int(uint(id) % uint(free+1))} {
			for _, axis := range []uint8{axis, 1 + axis%2} {
				for _, size := range []int{size, size % 300, int(uint8(size) % 10)} {
					sameAnswer(t, c, request{id, axis, size, fresh, ahead})
					sameAnswer(t, c, request{id, axis, size, free, ahead})
				}
				sameCan(t, c, id, axis)
				sameCan(t, c, id, axis, axis/4)
			}
		}
		disturb(g, &c)
		sameAnswer(t, c, request{int(uint8(id)), 1 + axis%2, int(uint8(size) % 10), 1000000, ahead})
		sameCan(t, c, int(uint8(id)), 1+axis%2)
		sameSizes(t, w%100000, size%100000)
	})
}
