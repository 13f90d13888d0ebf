package kill_test

import (
	"fmt"
	"math"
	"math/rand"
	"slices"
	"testing"

	"sash/api"
	"sash/kill"
	"sash/split"
)

// What the document tells in numbers is written out here, not taken from api.
const (
	leafKind  = uint8(1)
	rowKind   = uint8(2)
	colKind   = uint8(3)
	across    = uint8(1)
	down      = uint8(2)
	ok        = api.Errno(0)
	errArg    = api.Errno(1)
	errTarget = api.Errno(6)
	errCount  = api.Errno(9)
	errState  = api.Errno(10)
	maxNum    = 2147483647
	maxExtent = 10000
	maxCells  = 20000
	maxNested = 1 << 16
)

func of(x, y, w, h int) api.Rect { return api.Rect{X: x, Y: y, W: w, H: h} }

func leaf(id int, r api.Rect) api.Cell { return api.Cell{Kind: leafKind, Rect: r, ID: id} }

func row(r api.Rect, kids ...api.Cell) api.Cell {
	return api.Cell{Kind: rowKind, Rect: r, Kids: kids}
}

func col(r api.Rect, kids ...api.Cell) api.Cell {
	return api.Cell{Kind: colKind, Rect: r, Kids: kids}
}

// mixed is a tree that tiles, with all kinds of cells. Their numbers are: 0 the row, 1 the leaf 3,
// 2 a column, 3 the leaf 1, 4 a row, 5 the leaf 0, 6 the leaf 5, 7 the leaf 7.
func mixed() api.Cell {
	low := row(of(9, 9, 6, 4), leaf(0, of(9, 9, 3, 4)), leaf(5, of(13, 9, 2, 4)))
	mid := col(of(9, 2, 6, 11), leaf(1, of(9, 2, 6, 6)), low)
	return row(of(3, 2, 17, 11), leaf(3, of(3, 2, 5, 11)), mid, leaf(7, of(16, 2, 4, 11)))
}

// cells are all cells of a tree, each ahead of its kids: where one stands in the list is its number.
func cells(c api.Cell) []api.Cell {
	var l []api.Cell
	stack := []api.Cell{c}
	for len(stack) > 0 {
		c := stack[len(stack)-1]
		stack = stack[:len(stack)-1]
		l = append(l, c)
		for k := len(c.Kids) - 1; k >= 0; k-- {
			stack = append(stack, c.Kids[k])
		}
	}
	return l
}

// leaves are the leaves of a tree, in order.
func leaves(c api.Cell) []api.Cell {
	return slices.DeleteFunc(cells(c), func(c api.Cell) bool { return c.Kind != leafKind })
}

// place is where the cell with a number stands in a tree, to be written at.
func place(c *api.Cell, number int) *api.Cell {
	for number > 0 {
		number--
		for k := range c.Kids {
			n := len(cells(c.Kids[k]))
			if number < n {
				c = &c.Kids[k]
				break
			}
			number -= n
		}
	}
	return c
}

// clone is the same tree in memory of its own.
func clone(c api.Cell) api.Cell {
	c.Kids = slices.Clone(c.Kids)
	for k := range c.Kids {
		c.Kids[k] = clone(c.Kids[k])
	}
	return c
}

func same(a, b api.Cell) bool {
	return a.Kind == b.Kind && a.Rect == b.Rect && a.ID == b.ID && slices.EqualFunc(a.Kids, b.Kids, same)
}

func plainMay(c api.Cell) bool {
	far := func(from, size int) bool {
		return from >= 0 && from <= maxExtent && size >= 1 && size <= maxExtent && from+size <= maxExtent
	}
	met := map[int]bool{}
	l := cells(c)
	for _, c := range l {
		isLeaf := c.Kind == leafKind && len(c.Kids) == 0 && c.ID >= 0 && c.ID <= maxNum && !met[c.ID]
		isGroup := (c.Kind == rowKind || c.Kind == colKind) && c.ID == 0 && len(c.Kids) >= 2
		if !isLeaf && !isGroup || !far(c.X, c.W) || !far(c.Y, c.H) {
			return false
		}
		if isLeaf {
			met[c.ID] = true
		}
	}
	return len(l) <= maxCells
}

// plainFilled tells whether a cell that may be has kids that stand side by side, with one column
// (line) between them, from its beginning to its end.
func plainFilled(c api.Cell) bool {
	if c.Kind == leafKind {
		return true
	}
	x, y := c.X, c.Y
	for _, kid := range c.Kids {
		if kid.X != x || kid.Y != y {
			return false
		}
		if c.Kind == rowKind && kid.H == c.H {
			x += kid.W + 1
		} else if c.Kind == colKind && kid.W == c.W {
			y += kid.H + 1
		} else {
			return false
		}
	}
	if c.Kind == rowKind {
		return x == c.X+c.W+1
	}
	return y == c.Y+c.H+1
}

func plainTiles(c api.Cell) bool {
	return plainMay(c) && !slices.ContainsFunc(cells(c), func(c api.Cell) bool { return !plainFilled(c) })
}

func sizeOf(r api.Rect, axis uint8) int {
	if axis == across {
		return r.W
	}
	return r.H
}

func axisOf(c api.Cell) uint8 {
	return map[uint8]uint8{rowKind: across, colKind: down}[c.Kind]
}

// plainGrown is a tree that is greater along an axis, round by round; where its cells begin isn't
// told yet.
func plainGrown(c api.Cell, axis uint8, by int) api.Cell {
	if axis == across {
		c.W += by
	} else {
		c.H += by
	}
	shares := make([]int, len(c.Kids))
	if axisOf(c) == axis {
		for n := range by {
			shares[n%len(shares)]++
		}
	} else {
		for k := range shares {
			shares[k] = by
		}
	}
	var kids []api.Cell
	for k, kid := range c.Kids {
		kids = append(kids, plainGrown(kid, axis, shares[k]))
	}
	c.Kids = kids
	return c
}

// plainSet lets all cells of a tree begin where those ahead of them end.
func plainSet(c api.Cell, x, y int) api.Cell {
	c.X, c.Y = x, y
	var kids []api.Cell
	for _, kid := range c.Kids {
		kids = append(kids, plainSet(kid, x, y))
		if c.Kind == rowKind {
			x += kid.W + 1
		} else {
			y += kid.H + 1
		}
	}
	c.Kids = kids
	return c
}

func hasID(id int) func(c api.Cell) bool {
	return func(c api.Cell) bool { return c.Kind == leafKind && c.ID == id }
}

// plainGone is the tree, cell by cell, from which a leaf has gone that isn't the tree itself.
func plainGone(c api.Cell, id int) api.Cell {
	at := slices.IndexFunc(c.Kids, hasID(id))
	if at < 0 {
		var kids []api.Cell
		for _, kid := range c.Kids {
			kids = append(kids, plainGone(kid, id))
		}
		c.Kids = kids
		return c
	}
	kids := slices.Clone(c.Kids)
	beside := at - 1
	if at == 0 {
		beside = 1
	}
	kids[beside] = plainGrown(kids[beside], axisOf(c), sizeOf(kids[at].Rect, axisOf(c))+1)
	kids = slices.Delete(kids, at, at+1)
	if len(kids) == 1 {
		return plainSet(kids[0], c.X, c.Y)
	}
	c.Kids = kids
	return plainSet(c, c.X, c.Y)
}

func plainLeaf(c api.Cell, id int) (api.Cell, api.Errno) {
	if !plainTiles(c) {
		return api.Cell{}, errArg
	}
	if !slices.ContainsFunc(leaves(c), hasID(id)) {
		return api.Cell{}, errTarget
	}
	if c.Kind == leafKind {
		return api.Cell{}, errState
	}
	return plainGone(c, id), ok
}

// plainHeir is the leaf just ahead in the whole tree's order, or, if no kid is ahead of the leaf in
// its row or column, the one just behind.
func plainHeir(c api.Cell, id int) (int, bool) {
	if _, e := plainLeaf(c, id); e != ok {
		return 0, false
	}
	l := leaves(c)
	at := slices.IndexFunc(l, hasID(id))
	if isFirstKid(c, id) {
		return l[at+1].ID, true
	}
	return l[at-1].ID, true
}

// isFirstKid tells whether no kid is ahead of a leaf in its row or column.
func isFirstKid(c api.Cell, id int) bool {
	return slices.ContainsFunc(cells(c), func(c api.Cell) bool {
		return len(c.Kids) > 0 && hasID(id)(c.Kids[0])
	})
}

func plainTo(c api.Cell, n int) (api.Cell, api.Errno) {
	if !plainTiles(c) || n < 1 {
		return api.Cell{}, errArg
	}
	l := leaves(c)
	if len(l) < n {
		return api.Cell{}, errCount
	}
	for k := len(l) - 1; k >= n; k-- {
		c = plainGone(c, l[k].ID)
	}
	return c, ok
}

func plainLeaves(c api.Cell, ids ...int) (api.Cell, api.Errno) {
	for _, id := range ids {
		next, e := plainLeaf(c, id)
		if e != ok {
			return api.Cell{}, e
		}
		c = next
	}
	return c, ok
}

// short is a tree for a message: a great one isn't told whole.
func short(c api.Cell) string {
	s := fmt.Sprint(c)
	return s[:min(len(s), 300)]
}

// keeps holds a tree from which a leaf has gone against the second promise.
func keeps(t *testing.T, was, is api.Cell, id int) {
	t.Helper()
	if !plainTiles(is) || is.Rect != was.Rect {
		t.Fatalf("P13.2: %s became %s, without %d", short(was), short(is), id)
	}
	l, now := leaves(was), leaves(is)
	l = slices.DeleteFunc(l, hasID(id))
	if len(l) != len(leaves(was))-1 || len(l) != len(now) {
		t.Fatalf("P13.2: %s became %s, without %d", short(was), short(is), id)
	}
	for k, c := range now {
		if c.ID != l[k].ID || c.W < l[k].W || c.H < l[k].H {
			t.Fatalf("P13.2: %v of %s became %v, without %d", l[k], short(was), c, id)
		}
	}
}

func sameLeaf(t *testing.T, c api.Cell, id int) {
	t.Helper()
	got, e := kill.Leaf(c, id)
	want, should := plainLeaf(c, id)
	if e != should || !same(got, want) {
		t.Fatalf("P13.1: Leaf(%s, %d) = %s, %d, not %s, %d", short(c), id, short(got), e, short(want), should)
	}
	if e == ok {
		keeps(t, c, got, id)
	}
	heir, is := kill.Heir(c, id)
	if other, there := plainHeir(c, id); heir != other || is != there {
		t.Fatalf("P13.1: Heir(%s, %d) = %d, %v, not %d, %v", short(c), id, heir, is, other, there)
	}
}

func sameTo(t *testing.T, c api.Cell, n int) {
	t.Helper()
	got, e := kill.To(c, n)
	want, should := plainTo(c, n)
	if e != should || !same(got, want) {
		t.Fatalf("P13.1: To(%s, %d) = %s, %d, not %s, %d", short(c), n, short(got), e, short(want), should)
	}
}

func sameLeaves(t *testing.T, c api.Cell, ids ...int) {
	t.Helper()
	got, e := kill.Leaves(c, ids...)
	want, should := plainLeaves(c, ids...)
	if e != should || !same(got, want) {
		t.Fatalf("P13.1: Leaves(%s, %v) = %s, %d, not %s, %d", short(c), ids, short(got), e, short(want), should)
	}
}

// idsOf are the IDs of a tree's leaves, in order.
func idsOf(c api.Cell) []int {
	var ids []int
	for _, c := range leaves(c) {
		ids = append(ids, c.ID)
	}
	return ids
}

// sameAnswers holds all that is asked of one tree against the plain reading: each leaf, each two,
// each number of leaves, and wrong ones.
func sameAnswers(t *testing.T, c api.Cell) {
	t.Helper()
	ids := idsOf(c)
	for n := range len(ids) + 2 {
		sameTo(t, c, n)
		sameLeaves(t, c, ids[:min(n, len(ids))]...)
	}
	for _, n := range []int{math.MinInt, -1, maxNum, math.MaxInt} {
		sameTo(t, c, n)
	}
	wrong := []int{-1, slices.Max(ids) + 1, maxNum + 1, math.MinInt, math.MaxInt}
	for _, id := range slices.Concat(ids, wrong) {
		sameLeaf(t, c, id)
		for _, other := range slices.Concat(ids, wrong[:2]) {
			sameLeaves(t, c, id, other)
		}
	}
	slices.Reverse(ids)
	sameLeaves(t, c, ids...)
	sameLeaves(t, c, ids[:len(ids)-1]...)
}

// Of two panes one goes: the other one has the whole rectangle.
func TestExample(t *testing.T) {
	r := of(0, 0, 80, 24)
	for _, c := range []api.Cell{
		row(r, leaf(0, of(0, 0, 40, 24)), leaf(1, of(41, 0, 39, 24))),
		col(r, leaf(0, of(0, 0, 80, 12)), leaf(1, of(0, 13, 80, 11))),
	} {
		for id := range 2 {
			if got, e := kill.Leaf(c, id); e != ok || !same(got, leaf(1-id, r)) {
				t.Errorf("P13.1: Leaf(%v, %d) = %v, %d", c, id, got, e)
			}
			if heir, is := kill.Heir(c, id); heir != 1-id || !is {
				t.Errorf("P13.1: Heir(%v, %d) = %d, %v", c, id, heir, is)
			}
		}
		sameAnswers(t, c)
	}
}

func TestLeafAmongOthers(t *testing.T) {
	c := mixed()
	r := c.Rect
	first, mid, last := c.Kids[0], c.Kids[1], c.Kids[2]
	for _, x := range []struct {
		id   int
		want api.Cell
		heir int
	}{
		{3, row(r, col(of(3, 2, 12, 11), leaf(1, of(3, 2, 12, 6)), row(of(3, 9, 12, 4), leaf(0, of(3, 9, 6, 4)), leaf(5, of(10, 9, 5, 4)))), last), 1},
		{1, row(r, first, row(mid.Rect, leaf(0, of(9, 2, 3, 11)), leaf(5, of(13, 2, 2, 11))), last), 0},
		{0, row(r, first, col(mid.Rect, mid.Kids[0], leaf(5, of(9, 9, 6, 4))), last), 5},
		{5, row(r, first, col(mid.Rect, mid.Kids[0], leaf(0, of(9, 9, 6, 4))), last), 0},
		{7, row(r, first, col(of(9, 2, 11, 11), leaf(1, of(9, 2, 11, 6)), row(of(9, 9, 11, 4), leaf(0, of(9, 9, 6, 4)), leaf(5, of(16, 9, 4, 4))))), 5},
	} {
		if got, e := kill.Leaf(mixed(), x.id); e != ok || !same(got, x.want) {
			t.Errorf("P13.1: Leaf(%d) = %v, %d, not %v", x.id, got, e, x.want)
		}
		if heir, is := kill.Heir(mixed(), x.id); heir != x.heir || !is {
			t.Errorf("P13.1: Heir(%d) = %d, %v, not %d", x.id, heir, is, x.heir)
		}
	}
	for _, c := range cells(mixed()) {
		sameAnswers(t, c)
	}
}

// The kid ahead grows, not the one behind, whatever their sizes are; only of the first one it is the
// one behind.
func TestNeighbours(t *testing.T) {
	a, b, c, d := leaf(1, of(2, 1, 1, 3)), leaf(2, of(4, 1, 9, 3)), leaf(3, of(14, 1, 2, 3)), leaf(4, of(17, 1, 5, 3))
	tree := row(of(2, 1, 20, 3), a, b, c, d)
	for _, x := range []struct {
		id   int
		want []api.Cell
	}{
		{1, []api.Cell{leaf(2, of(2, 1, 11, 3)), c, d}},
		{2, []api.Cell{leaf(1, of(2, 1, 11, 3)), c, d}},
		{3, []api.Cell{a, leaf(2, of(4, 1, 12, 3)), d}},
		{4, []api.Cell{a, b, leaf(3, of(14, 1, 8, 3))}},
	} {
		if got, e := kill.Leaf(tree, x.id); e != ok || !same(got, row(tree.Rect, x.want...)) {
			t.Errorf("P13.1: Leaf(%d) = %v, %d", x.id, got, e)
		}
	}
	sameAnswers(t, tree)
}

// What is left alone stands in place of its row or column as it is: a row can be a row's kid then.
func TestRowsInRows(t *testing.T) {
	inner := row(of(4, 0, 7, 3), leaf(2, of(4, 0, 3, 3)), leaf(3, of(8, 0, 3, 3)))
	c := row(of(0, 0, 11, 5), leaf(1, of(0, 0, 3, 5)), col(of(4, 0, 7, 5), inner, leaf(4, of(4, 4, 7, 1))))
	got, e := kill.Leaf(c, 4)
	grown := row(of(4, 0, 7, 5), leaf(2, of(4, 0, 3, 5)), leaf(3, of(8, 0, 3, 5)))
	want := row(c.Rect, c.Kids[0], grown)
	if e != ok || !same(got, want) {
		t.Fatalf("P13.1: Leaf beside a row = %v, %d, not %v", got, e, want)
	}
	sameAnswers(t, c)
	sameAnswers(t, want)
	got, e = kill.Leaf(want, 2)
	if e != ok || !same(got, row(c.Rect, c.Kids[0], leaf(3, of(4, 0, 7, 5)))) {
		t.Errorf("P13.1: Leaf in a row in a row = %v, %d", got, e)
	}
	got, e = kill.Leaf(want, 1)
	if e != ok || !same(got, row(c.Rect, leaf(2, of(0, 0, 5, 5)), leaf(3, of(6, 0, 5, 5)))) {
		t.Errorf("P13.1: Leaf ahead of a row, in a row = %v, %d", got, e)
	}
}

// Where the tree ends at MaxExtent, the second kid has no space behind it, till it stands where the
// first one stood.
func TestFarthest(t *testing.T) {
	for _, n := range []int{1, 2, 4999, 9997, 9998} {
		rest := maxExtent - n - 1
		r := of(0, 0, maxExtent, maxExtent)
		sameAnswers(t, row(r, leaf(1, of(0, 0, n, maxExtent)), leaf(2, of(n+1, 0, rest, maxExtent))))
		sameAnswers(t, col(r, leaf(1, of(0, 0, maxExtent, n)), leaf(2, of(0, n+1, maxExtent, rest))))
		if got, e := kill.Leaf(row(r, leaf(1, of(0, 0, n, maxExtent)), leaf(2, of(n+1, 0, rest, maxExtent))), 1); e != ok || !same(got, leaf(2, r)) {
			t.Errorf("P13.1: a first leaf %d wide goes: %v, %d", n, got, e)
		}
	}
	c := mixed()
	for _, x := range []int{0, maxExtent - c.W} {
		for _, y := range []int{0, maxExtent - c.H} {
			sameAnswers(t, plainSet(c, x, y))
		}
	}
}

// The error that is named first is told.
func TestErrors(t *testing.T) {
	narrow := mixed()
	narrow.Kids[0].W--
	one := leaf(4, of(1, 1, 9, 9))
	for n, x := range []struct {
		c    api.Cell
		id   int
		want api.Errno
	}{
		{mixed(), 3, ok}, {mixed(), 0, ok}, {mixed(), 4, errTarget}, {mixed(), -1, errTarget}, {mixed(), math.MinInt, errTarget}, {mixed(), math.MaxInt, errTarget},
		{one, 4, errState}, {one, 0, errTarget}, {one, -1, errTarget}, {one, math.MaxInt, errTarget},
		{narrow, 3, errArg}, {narrow, 9, errArg}, {api.Cell{}, 0, errArg}, {leaf(4, of(0, 0, 0, 1)), 4, errArg}, {leaf(-1, of(0, 0, 1, 1)), -1, errArg},
	} {
		if got, e := kill.Leaf(x.c, x.id); e != x.want || e != ok && !same(got, api.Cell{}) {
			t.Errorf("P13.1: Leaf %d: %v, %d, not %d", n, got, e, x.want)
		}
		if got, e := kill.Leaves(x.c, x.id); e != x.want || e != ok && !same(got, api.Cell{}) {
			t.Errorf("P13.1: Leaves %d: %v, %d, not %d", n, got, e, x.want)
		}
		if heir, is := kill.Heir(x.c, x.id); is != (x.want == ok) || !is && heir != 0 {
			t.Errorf("P13.1: Heir %d: %d, %v", n, heir, is)
		}
	}
	for n, x := range []struct {
		c    api.Cell
		n    int
		want api.Errno
	}{
		{mixed(), 0, errArg}, {mixed(), -1, errArg}, {mixed(), math.MinInt, errArg}, {narrow, 9, errArg}, {narrow, 1, errArg}, {narrow, 0, errArg},
		{api.Cell{}, 1, errArg}, {mixed(), 6, errCount}, {mixed(), math.MaxInt, errCount}, {one, 2, errCount}, {one, 1, ok}, {one, 0, errArg}, {mixed(), 5, ok}, {mixed(), 1, ok},
	} {
		if got, e := kill.To(x.c, x.n); e != x.want || e != ok && !same(got, api.Cell{}) {
			t.Errorf("P13.1: To %d: %v, %d, not %d", n, got, e, x.want)
		}
	}
}

// IDs of rows and columns are 0: that isn't a leaf's ID.
func TestIDsOfGroups(t *testing.T) {
	c := row(of(0, 0, 7, 3), leaf(1, of(0, 0, 3, 3)), col(of(4, 0, 3, 3), leaf(2, of(4, 0, 3, 1)), leaf(3, of(4, 2, 3, 1))))
	if _, e := kill.Leaf(c, 0); e != errTarget {
		t.Errorf("P13.1: a row goes: %d", e)
	}
	if heir, is := kill.Heir(c, 0); heir != 0 || is {
		t.Errorf("P13.1: the heir of a row: %d, %v", heir, is)
	}
	sameAnswers(t, c)
}

// As many as are asked for stay; those that go are the last ones, the very last one first.
func TestTo(t *testing.T) {
	c := mixed() // 3, 1, 0, 5, 7
	r := c.Rect
	first, mid := c.Kids[0], c.Kids[1]
	for n, want := range map[int]api.Cell{
		5: c,
		4: row(r, first, col(of(9, 2, 11, 11), leaf(1, of(9, 2, 11, 6)), row(of(9, 9, 11, 4), leaf(0, of(9, 9, 6, 4)), leaf(5, of(16, 9, 4, 4))))),
		3: row(r, first, col(of(9, 2, 11, 11), leaf(1, of(9, 2, 11, 6)), leaf(0, of(9, 9, 11, 4)))),
		2: row(r, first, leaf(1, of(9, 2, 11, 11))),
		1: leaf(3, r),
	} {
		if got, e := kill.To(c, n); e != ok || !same(got, want) {
			t.Errorf("P13.1: To(%d) = %v, %d, not %v", n, got, e, want)
		}
	}
	if got, e := kill.To(mid, 3); e != ok || !same(got, mid) {
		t.Errorf("P13.1: To as many as there are = %v, %d", got, e)
	}
}

// They go in the order in which they are told: that isn't all the same.
func TestLeaves(t *testing.T) {
	a, b, c := leaf(1, of(0, 0, 2, 1)), leaf(2, of(3, 0, 3, 1)), leaf(3, of(7, 0, 4, 1))
	tree := row(of(0, 0, 11, 1), a, b, c)
	for _, x := range []struct {
		ids  []int
		want api.Cell
		e    api.Errno
	}{
		{nil, tree, ok}, {[]int{}, tree, ok},
		{[]int{2}, row(tree.Rect, leaf(1, of(0, 0, 6, 1)), c), ok},
		{[]int{1, 2}, leaf(3, tree.Rect), ok}, {[]int{2, 1}, leaf(3, tree.Rect), ok}, {[]int{3, 1}, leaf(2, tree.Rect), ok},
		{[]int{1, 2, 3}, api.Cell{}, errState}, {[]int{3, 2, 1}, api.Cell{}, errState},
		{[]int{1, 2, 1}, api.Cell{}, errTarget}, {[]int{1, 1}, api.Cell{}, errTarget}, {[]int{9}, api.Cell{}, errTarget}, {[]int{1, 9, 2, 3}, api.Cell{}, errTarget},
		{[]int{1, 2, 3, 9}, api.Cell{}, errState}, {[]int{1, 2, 9, 3}, api.Cell{}, errTarget}, {[]int{-1, 1}, api.Cell{}, errTarget}, {[]int{1, 2, math.MaxInt}, api.Cell{}, errTarget},
	} {
		if got, e := kill.Leaves(tree, x.ids...); e != x.e || !same(got, x.want) {
			t.Errorf("P13.1: Leaves(%v) = %v, %d, not %v, %d", x.ids, got, e, x.want, x.e)
		}
	}
	sameAnswers(t, tree)
	// The kids of the row share twice what comes to it twice, each time from the first kid on; if 4
	// goes first, 3 has it, and all comes to the row at once.
	nest := row(of(0, 0, 9, 1), row(of(0, 0, 3, 1), leaf(1, of(0, 0, 1, 1)), leaf(2, of(2, 0, 1, 1))), leaf(3, of(4, 0, 2, 1)), leaf(4, of(7, 0, 2, 1)))
	if got, e := kill.Leaves(nest, 3, 4); e != ok || !same(got, row(nest.Rect, leaf(1, of(0, 0, 5, 1)), leaf(2, of(6, 0, 3, 1)))) {
		t.Errorf("P13.1: Leaves(3, 4) = %v, %d", got, e)
	}
	if got, e := kill.Leaves(nest, 4, 3); e != ok || !same(got, row(nest.Rect, leaf(1, of(0, 0, 4, 1)), leaf(2, of(5, 0, 4, 1)))) {
		t.Errorf("P13.1: Leaves(4, 3) = %v, %d", got, e)
	}
	if got, e := kill.To(nest, 2); e != ok || !same(got, row(nest.Rect, leaf(1, of(0, 0, 4, 1)), leaf(2, of(5, 0, 4, 1)))) {
		t.Errorf("P13.1: To(2) = %v, %d", got, e)
	}
	sameAnswers(t, nest)
}

// If none is to go, no error is told: of a tree that doesn't tile neither.
func TestNoLeaves(t *testing.T) {
	narrow := mixed()
	narrow.Kids[0].W--
	for n, c := range append(wrongCells(), narrow, mixed()) {
		if got, e := kill.Leaves(c); e != ok || !same(got, c) {
			t.Errorf("P13.1: Leaves of the tree %d = %v, %d", n, got, e)
		}
	}
}

// wrongCells may not be, neither alone nor in others.
func wrongCells() []api.Cell {
	o := of(0, 0, 3, 1)
	two := []api.Cell{leaf(101, of(0, 0, 1, 1)), leaf(102, of(2, 0, 1, 1))}
	l := []api.Cell{
		{}, {Kind: 0, Rect: o}, {Kind: 0, Rect: o, Kids: two}, {Kind: 4, Rect: o, Kids: two}, {Kind: 255, Rect: o},
		leaf(-1, o), leaf(maxNum+1, o), leaf(math.MinInt, o), leaf(math.MaxInt, o),
		{Kind: leafKind, Rect: o, ID: 3, Kids: two}, row(o), col(o), row(o, leaf(101, o)), col(o, leaf(101, o)),
		row(o, two[0], leaf(101, of(2, 0, 1, 1))),
		{Kind: rowKind, Rect: o, ID: 1, Kids: two}, {Kind: colKind, Rect: o, ID: -1, Kids: two},
	}
	for _, r := range []api.Rect{
		{}, of(-1, 0, 3, 1), of(0, -1, 3, 1), of(0, 0, 0, 1), of(0, 0, 3, 0), of(0, 0, -3, 1), of(0, 0, 3, -1),
		of(0, 0, maxExtent+1, 1), of(0, 0, 1, maxExtent+1), of(maxExtent, 0, 1, 1), of(0, maxExtent, 1, 1),
		of(math.MaxInt, 0, 1, 1), of(math.MaxInt, 0, math.MaxInt, 1), of(0, math.MinInt, 1, math.MinInt), of(1, 1, math.MinInt, math.MinInt),
	} {
		l = append(l, leaf(3, r), row(r, two...), col(r, two...), row(o, two[0], leaf(3, r)))
	}
	return l
}

// refused asks that a tree is refused for itself, whatever else is asked of it.
func refused(t *testing.T, c api.Cell) {
	t.Helper()
	for _, id := range []int{-1, 0, 3, 7, 101, 102, math.MaxInt} {
		if got, e := kill.Leaf(c, id); e != errArg || !same(got, api.Cell{}) {
			t.Errorf("P13.1: Leaf(%s, %d) = %s, %d", short(c), id, short(got), e)
		}
		if got, is := kill.Heir(c, id); got != 0 || is {
			t.Errorf("P13.1: Heir(%s, %d) = %d, %v", short(c), id, got, is)
		}
		if got, e := kill.Leaves(c, id, 3); e != errArg || !same(got, api.Cell{}) {
			t.Errorf("P13.1: Leaves(%s, %d, 3) = %s, %d", short(c), id, short(got), e)
		}
	}
	for _, n := range []int{-1, 0, 1, 2, 99, math.MaxInt} {
		if got, e := kill.To(c, n); e != errArg || !same(got, api.Cell{}) {
			t.Errorf("P13.1: To(%s, %d) = %s, %d", short(c), n, short(got), e)
		}
	}
}

func TestTreesThatMayNotBe(t *testing.T) {
	for _, wrong := range wrongCells() {
		refused(t, wrong)
		for number := 1; number < len(cells(mixed())); number++ {
			c := mixed()
			*place(&c, number) = wrong
			refused(t, c)
		}
	}
}

func TestTreesThatDontTile(t *testing.T) {
	for number := 1; number < len(cells(mixed())); number++ {
		for _, change := range []func(c *api.Cell){func(c *api.Cell) { c.X++ }, func(c *api.Cell) { c.Y-- }, func(c *api.Cell) { c.W-- }, func(c *api.Cell) { c.H++ }} {
			c := mixed()
			change(place(&c, number))
			refused(t, c)
		}
	}
}

// tilings does something with all trees that tile a rectangle, at most so deep; IDs are all 0.
func tilings(r api.Rect, deep int, do func(c api.Cell)) {
	do(leaf(0, r))
	if deep == 1 {
		return
	}
	for _, kind := range []uint8{rowKind, colKind} {
		kidLists(r, kind, deep-1, nil, func(kids []api.Cell) {
			if len(kids) > 1 {
				do(clone(api.Cell{Kind: kind, Rect: r, Kids: kids}))
			}
		})
	}
}

// kidLists does something with all lists of kids that fill a rectangle, in a row or a column.
func kidLists(r api.Rect, kind uint8, deep int, kids []api.Cell, do func(kids []api.Cell)) {
	size := r.W
	if kind == colKind {
		size = r.H
	}
	for n := 1; n <= size; n++ {
		head, rest := of(r.X, r.Y, n, r.H), of(r.X+n+1, r.Y, r.W-n-1, r.H)
		if kind == colKind {
			head, rest = of(r.X, r.Y, r.W, n), of(r.X, r.Y+n+1, r.W, r.H-n-1)
		}
		tilings(head, deep, func(kid api.Cell) {
			if n == size {
				do(append(kids, kid))
			} else {
				kidLists(rest, kind, deep, append(kids, kid), do)
			}
		})
	}
}

// number gives the leaves of a tree IDs, one behind the other.
func number(c *api.Cell, from int) int {
	if c.Kind == leafKind {
		c.ID = from
		return from + 1
	}
	for k := range c.Kids {
		from = number(&c.Kids[k], from)
	}
	return from
}

// withoutTrace splits a leaf of a tree in many ways, and lets the new one go again: by the third
// promise the tree is as it was, if the elder one is all that it could go to.
func withoutTrace(t *testing.T, c api.Cell, id, fresh int) {
	t.Helper()
	for _, axis := range []uint8{across, down} {
		for _, size := range []int{0, 1, 2, 5, math.MaxInt} {
			for _, ahead := range []bool{false, true} {
				x, e := split.Leaf(c, id, axis, size, fresh, ahead)
				if e != ok {
					continue
				}
				sameLeaf(t, x, fresh)
				if back, e := kill.Leaf(x, fresh); (!ahead || isFirstKid(x, fresh)) && (e != ok || !same(back, c)) {
					t.Fatalf("P13.3: %s, split at %d into %s, became %s, %d", short(c), id, short(x), short(back), e)
				}
				if heir, is := kill.Heir(x, fresh); (!ahead || isFirstKid(x, fresh)) && (heir != id || !is) {
					t.Fatalf("P13.3: Heir(%s, %d) = %d, %v", short(x), fresh, heir, is)
				}
			}
		}
	}
}

func TestWithoutTrace(t *testing.T) {
	for _, c := range []api.Cell{mixed(), leaf(7, of(1, 1, 9, 9)), leaf(7, of(0, 0, maxExtent, maxExtent)), leaf(7, of(maxExtent-3, maxExtent-3, 3, 3))} {
		for _, id := range idsOf(c) {
			withoutTrace(t, c, id, 9)
			withoutTrace(t, c, id, maxNum)
		}
	}
}

func TestEverySmallTiling(t *testing.T) {
	trees := 0
	for _, r := range []api.Rect{of(2, 1, 1, 1), of(0, 0, 3, 1), of(1, 1, 3, 3), of(1, 2, 4, 3), of(1, 2, 3, 5), of(0, 1, 1, 7), of(3, 0, 9, 1), of(3, 0, 5, 3), of(1, 1, 5, 5), of(2, 0, 7, 4)} {
		tilings(r, 3, func(c api.Cell) {
			trees++
			fresh := number(&c, 0)
			sameAnswers(t, c)
			for id := range fresh {
				withoutTrace(t, c, id, fresh)
			}
		})
	}
	if trees < 1000 {
		t.Errorf("only %d trees tiled", trees)
	}
}

// randomTree is a tree that tiles a rectangle.
func randomTree(g *rand.Rand, r api.Rect, deep int) api.Cell {
	kind, size := rowKind, r.W
	if g.Intn(2) > 0 {
		kind, size = colKind, r.H
	}
	if deep == 0 || size < 3 || g.Intn(6) == 0 {
		return leaf(0, r)
	}
	c := api.Cell{Kind: kind, Rect: r}
	from := 0
	for from < size {
		n := 1 + g.Intn(size-from)
		if from == 0 {
			n = 1 + g.Intn(size-2)
		}
		if n == size-from-1 {
			n++ // behind it there is space for a line, but for none of its kids
		}
		part := of(r.X+from, r.Y, n, r.H)
		if kind == colKind {
			part = of(r.X, r.Y+from, r.W, n)
		}
		c.Kids = append(c.Kids, randomTree(g, part, deep-1))
		from += n + 1
	}
	if len(c.Kids) < 2 {
		return leaf(0, r)
	}
	return c
}

// disturb changes one number of a tree.
func disturb(g *rand.Rand, c *api.Cell) {
	spot := place(c, g.Intn(len(cells(*c))))
	*[]*int{&spot.X, &spot.Y, &spot.W, &spot.H, &spot.ID}[g.Intn(5)] += g.Intn(7) - 3
}

func TestManyTrees(t *testing.T) {
	g := rand.New(rand.NewSource(1313))
	most := 0
	for range 150 {
		c := randomTree(g, of(g.Intn(30), g.Intn(30), 1+g.Intn(60), 1+g.Intn(40)), 1+g.Intn(7))
		number(&c, g.Intn(1000))
		if !plainTiles(c) {
			t.Fatalf("%v doesn't tile", c)
		}
		ids := idsOf(c)
		most = max(most, len(ids))
		for range 10 {
			id := ids[g.Intn(len(ids))]
			sameLeaf(t, c, id)
			sameTo(t, c, g.Intn(len(ids)+2))
			withoutTrace(t, c, id, 1000000)
			other := clone(c)
			disturb(g, &other)
			sameLeaf(t, other, id)
			sameTo(t, other, g.Intn(9))
			sameLeaves(t, other, ids[0], id)
		}
		for range 5 {
			g.Shuffle(len(ids), func(a, b int) { ids[a], ids[b] = ids[b], ids[a] })
			sameLeaves(t, c, ids...)
			sameLeaves(t, c, ids[1:]...)
			sameLeaves(t, c, ids[g.Intn(len(ids)):]...)
		}
		if len(ids) < 15 {
			sameAnswers(t, c)
		}
	}
	if most < 50 {
		t.Errorf("the greatest tree had %d leaves", most)
	}
}

// One goes behind the other, till one is left; told at once, it is the same.
func TestAgainAndAgain(t *testing.T) {
	g := rand.New(rand.NewSource(13))
	for range 30 {
		tree := randomTree(g, of(g.Intn(9), g.Intn(9), 1+g.Intn(50), 1+g.Intn(50)), 6)
		number(&tree, 0)
		c := tree
		var gone []int
		for len(leaves(c)) > 1 {
			ids := idsOf(c)
			id := ids[g.Intn(len(ids))]
			sameLeaf(t, c, id)
			c, _ = kill.Leaf(c, id)
			gone = append(gone, id)
			if got, e := kill.Leaves(tree, gone...); e != ok || !same(got, c) {
				t.Fatalf("P13.1: Leaves(%s, %v) = %s, %d", short(tree), gone, short(got), e)
			}
		}
		if c.Kind != leafKind || c.Rect != tree.Rect {
			t.Fatalf("P13.2: the last one of %s is %v", short(tree), c)
		}
		sameLeaf(t, c, c.ID)
	}
}

// wide is a row of so many leaves in some lines, each 1 wide, the last one as wide as it takes.
func wide(n, id, y, h int) api.Cell {
	c := row(of(0, y, maxExtent, h))
	for k := range n {
		c.Kids = append(c.Kids, leaf(id+k, of(2*k, y, 1, h)))
	}
	c.Kids[n-1].W = maxExtent - 2*(n-1)
	return c
}

// full is a tree of so many cells, whose first leaf is 1 by 3, and whose last one 10 by 2 at least.
func full(n int) api.Cell {
	const kids = 5000
	last := n - 5 - 3*kids
	return col(of(0, 0, maxExtent, 12), wide(kids, 0, 0, 3), wide(kids, kids, 4, 2), wide(kids, 2*kids, 7, 2), wide(last, 3*kids, 10, 2))
}

func TestMostCells(t *testing.T) {
	c := full(maxCells)
	if len(cells(c)) != maxCells {
		t.Fatalf("%d cells are %d", maxCells, len(cells(c)))
	}
	ids := idsOf(c)
	for _, id := range []int{0, 1, 4999, 5000, 9999, ids[len(ids)-1], ids[len(ids)-2], maxNum} {
		sameLeaf(t, c, id)
	}
	for _, n := range []int{len(ids), len(ids) - 1, len(ids) - 5, 0, len(ids) + 1} {
		sameTo(t, c, n)
	}
	for n, want := range map[int]api.Cell{
		1: leaf(0, c.Rect),
		2: row(c.Rect, leaf(0, of(0, 0, 1, 12)), leaf(1, of(2, 0, maxExtent-2, 12))),
	} {
		if got, e := kill.To(c, n); e != ok || !same(got, want) {
			t.Errorf("P13.1: To(%d) of %d cells = %s, %d", n, maxCells, short(got), e)
		}
	}
	if got, e := kill.Leaves(c, ids[:len(ids)-1]...); e != ok || !same(got, leaf(ids[len(ids)-1], c.Rect)) {
		t.Errorf("P13.1: Leaves, but the last one, of %d cells = %s, %d", maxCells, short(got), e)
	}
	refused(t, full(maxCells+1))
}

// stair is as deep as a tree that tiles can be: each row has a leaf 1 wide and a column, each column
// a leaf 1 high and a row.
func stair() api.Cell {
	c := leaf(0, of(maxExtent-4, maxExtent-4, 4, 4))
	for id := 1; c.X >= 2; id += 2 {
		x, y, size := c.X, c.Y, c.W
		c = row(of(x-2, y, size+2, size), leaf(id, of(x-2, y, 1, size)), c)
		c = col(of(x-2, y-2, size+2, size+2), leaf(id+1, of(x-2, y-2, size+2, 1)), c)
	}
	return c
}

func TestDeepestThatTiles(t *testing.T) {
	c := stair()
	ids := idsOf(c)
	// The leaf 0 is deepest: it stands in the innermost row, 1 stands beside it.
	for _, id := range []int{0, 1, 2, ids[0], ids[1], ids[len(ids)/2], maxNum} {
		sameLeaf(t, c, id)
	}
	for _, n := range []int{1, 2, len(ids) - 1, len(ids)} {
		got, e := kill.To(c, n)
		if e != ok || !plainTiles(got) || got.Rect != c.Rect || !slices.Equal(idsOf(got), ids[:n]) {
			t.Errorf("P13.1: To(%d) of a deep tree: %d", n, e)
		}
	}
	sameLeaves(t, c, ids[0], ids[1], ids[2], 0, 1)
}

// As deep as the document bounds it, or beyond all counting: what may not be is refused in time.
func TestEnds(t *testing.T) {
	o := of(0, 0, 3, 1)
	deep := leaf(7, o)
	for range maxNested - 1 {
		deep = row(o, leaf(1, o), deep)
	}
	many := leaf(1, o)
	for range 200 {
		many = row(o, many, many)
	}
	round := make([]api.Cell, 2)
	round[0], round[1] = row(o, round...), row(o, round...)
	round[0].Kids, round[1].Kids = round, round
	for n, c := range []api.Cell{deep, many, round[0]} {
		for _, id := range []int{1, 7, 99} {
			if got, e := kill.Leaf(c, id); e != errArg || !same(got, api.Cell{}) {
				t.Errorf("P13.1: a leaf of the tree %d goes: %d", n, e)
			}
			if got, e := kill.Leaves(c, id); e != errArg || !same(got, api.Cell{}) {
				t.Errorf("P13.1: leaves of the tree %d go: %d", n, e)
			}
			if got, e := kill.To(c, id); e != errArg || !same(got, api.Cell{}) {
				t.Errorf("P13.1: the last leaves of the tree %d go: %d", n, e)
			}
			if heir, is := kill.Heir(c, id); heir != 0 || is {
				t.Errorf("P13.1: a leaf of the tree %d has an heir: %d", n, heir)
			}
		}
	}
	if got, e := kill.Leaves(deep); e != ok || !same(got, deep) {
		t.Errorf("P13.1: no leaves of a deep tree go: %d", e)
	}
}

// What a leaf's kids are called plays no part: none are none.
func TestNilAndEmpty(t *testing.T) {
	c := mixed()
	for _, number := range []int{1, 3, 5, 6, 7} {
		place(&c, number).Kids = []api.Cell{}
	}
	sameAnswers(t, c)
	sameAnswers(t, api.Cell{Kind: leafKind, Rect: of(0, 0, 5, 5), Kids: []api.Cell{}})
}

// roomy is the tree with room behind each list of kids, filled with something that is none of them.
func roomy(c api.Cell) api.Cell {
	kids := make([]api.Cell, 0, len(c.Kids)+2)
	for _, kid := range c.Kids {
		kids = append(kids, roomy(kid))
	}
	copy(kids[len(kids):cap(kids)], []api.Cell{leaf(-77, c.Rect), leaf(-78, c.Rect)})
	c.Kids = kids
	return c
}

// untouched tells whether the room that roomy made is as it was, in the whole tree.
func untouched(c api.Cell) bool {
	room := c.Kids[len(c.Kids):cap(c.Kids)]
	return len(room) == 2 && same(room[0], leaf(-77, c.Rect)) && same(room[1], leaf(-78, c.Rect)) &&
		!slices.ContainsFunc(c.Kids, func(kid api.Cell) bool { return !untouched(kid) })
}

// overwrite writes into all memory that a tree has, the room behind its lists, too.
func overwrite(c api.Cell) {
	for _, kid := range c.Kids {
		overwrite(kid)
	}
	room := c.Kids[:cap(c.Kids)]
	for k := range room {
		room[k] = leaf(-99, of(-9, -9, -9, -9))
	}
}

// answers are trees that were made of one, each in another way.
func answers(c api.Cell) []api.Cell {
	var l []api.Cell
	ids := idsOf(c)
	for n, id := range ids {
		one, _ := kill.Leaf(c, id)
		last, _ := kill.To(c, n+1)
		some, _ := kill.Leaves(c, ids[:n]...)
		two, _ := kill.Leaves(c, id, ids[0])
		l = append(l, one, last, some, two)
	}
	return l
}

// What is handed in isn't changed, nor is the room behind its end, nor by who writes into an answer.
func TestNothingIsChanged(t *testing.T) {
	for _, tree := range []api.Cell{mixed(), leaf(4, of(1, 1, 9, 9))} {
		c := roomy(tree)
		first, second := answers(c), answers(c)
		for _, id := range idsOf(c) {
			kill.Heir(c, id)
		}
		if !same(c, tree) || !untouched(c) {
			t.Errorf("P0.4: what was handed in is changed: %v", c)
		}
		var want []api.Cell
		for _, x := range second {
			want = append(want, clone(x))
		}
		for k, x := range first {
			if !same(x, want[k]) {
				t.Fatalf("P0.4: who writes into an answer changes the answer %d", k)
			}
			overwrite(x)
			if !same(c, tree) || !untouched(c) {
				t.Fatalf("P0.4: who writes into the answer %d changes what was handed in: %v", k, c)
			}
			if !slices.EqualFunc(second, want, same) {
				t.Fatalf("P0.4: who writes into the answer %d changes another one", k)
			}
		}
		if !slices.EqualFunc(answers(c), want, same) {
			t.Error("P0.6: answers are other ones later on")
		}
		overwrite(c)
		if !slices.EqualFunc(second, want, same) {
			t.Error("P0.4: an answer hangs on what was handed in")
		}
	}
}

// No two lists of an answer share memory: who lets one grow changes none of the others.
func TestListsOfAnAnswer(t *testing.T) {
	for k, x := range answers(mixed()) {
		want := clone(x)
		for number := range cells(x) {
			spot := place(&x, number)
			_ = append(spot.Kids, leaf(-77, of(0, 0, 1, 1)), leaf(-78, of(0, 0, 1, 1)))
		}
		if !same(x, want) {
			t.Errorf("P0.4: lists of the answer %d share memory: %v", k, x)
		}
	}
}

func TestIDsAreKept(t *testing.T) {
	all := []int{7, 3, 1, 77, 78}
	got, e := kill.Leaves(mixed(), all[:3]...)
	if e != ok || len(leaves(got)) != 2 || !slices.Equal(all, []int{7, 3, 1, 77, 78}) {
		t.Errorf("P0.4: numbers that were handed in are changed: %v, %d", all, e)
	}
}

func FuzzTrees(f *testing.F) {
	f.Add(int64(1), 80, 24, 4, 0, 1)
	f.Add(int64(2), 5, 5, 3, 2, -1)
	f.Add(int64(3), 40, 3, 6, 5, math.MinInt)
	f.Fuzz(func(t *testing.T, seed int64, w, h, deep, id, n int) {
		g := rand.New(rand.NewSource(seed))
		c := randomTree(g, of(g.Intn(9), g.Intn(9), 1+int(uint8(w)), 1+int(uint8(h))), int(uint8(deep)%8))
		free := number(&c, 0)
		other := int(uint(n) % uint(free+1))
		for _, id := range []int{id, int(uint(id) % uint(free+1))} {
			sameLeaf(t, c, id)
			sameLeaves(t, c, id, other)
			sameLeaves(t, c, other, id, free-1)
			withoutTrace(t, c, id, free)
		}
		sameTo(t, c, n)
		sameTo(t, c, other)
		disturb(g, &c)
		sameLeaf(t, c, other)
		sameTo(t, c, other)
		sameLeaves(t, c, other, 0)
	})
}
