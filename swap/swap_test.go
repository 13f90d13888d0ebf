package swap_test

import (
	"fmt"
	"math"
	"math/big"
	"math/rand"
	"slices"
	"testing"

	"sash/api"
	"sash/swap"
)

// What the document tells in numbers is written out here, not taken from api.
const (
	leafKind  = uint8(1)
	rowKind   = uint8(2)
	colKind   = uint8(3)
	ok        = api.Errno(0)
	errArg    = api.Errno(1)
	errTarget = api.Errno(6)
	errCount  = api.Errno(9)
	maxNum    = 2147483647
	maxExtent = 10000
	maxCells  = 20000
	maxNested = 1 << 16
)

func of(x, y, w, h int) api.Rect { return api.Rect{X: x, Y: y, W: w, H: h} }

func leaf(id int, r api.Rect) api.Cell { return api.Cell{Kind: leafKind, Rect: r, ID: id} }

func row(r api.Rect, kids ...api.Cell) api.Cell {
	return api.Cell{Kind: rowKind, Rect: r, Kids: kids}
}

func col(r api.Rect, kids ...api.Cell) api.Cell {
	return api.Cell{Kind: colKind, Rect: r, Kids: kids}
}

// mixed is a tree that tiles, with all kinds of cells. Their numbers are: 0 the row, 1 the leaf 3,
// 2 a column, 3 the leaf 1, 4 a row, 5 the leaf 0, 6 the leaf 5, 7 the leaf 7.
func mixed() api.Cell {
	low := row(of(9, 9, 6, 4), leaf(0, of(9, 9, 3, 4)), leaf(5, of(13, 9, 2, 4)))
	mid := col(of(9, 2, 6, 11), leaf(1, of(9, 2, 6, 6)), low)
	return row(of(3, 2, 17, 11), leaf(3, of(3, 2, 5, 11)), mid, leaf(7, of(16, 2, 4, 11)))
}

// side is a row of leaves of these widths, from the ID 0 on, so high.
func side(x, y, h int, widths ...int) api.Cell {
	c := row(of(x, y, -1, h))
	for id, w := range widths {
		c.Kids = append(c.Kids, leaf(id, of(x, y, w, h)))
		c.W += w + 1
		x += w + 1
	}
	return c
}

// turned is the same tree with columns for lines, and lines for columns.
func turned(c api.Cell) api.Cell {
	c.X, c.Y, c.W, c.H = c.Y, c.X, c.H, c.W
	if c.Kind == rowKind || c.Kind == colKind {
		c.Kind = rowKind + colKind - c.Kind
	}
	c.Kids = slices.Clone(c.Kids)
	for k := range c.Kids {
		c.Kids[k] = turned(c.Kids[k])
	}
	return c
}

// cells are all cells of a tree, each ahead of its kids: where one stands in the list is its number.
func cells(c api.Cell) []api.Cell {
	var l []api.Cell
	stack := []api.Cell{c}
	for len(stack) > 0 {
		c := stack[len(stack)-1]
		stack = stack[:len(stack)-1]
		l = append(l, c)
		for k := len(c.Kids) - 1; k >= 0; k-- {
			stack = append(stack, c.Kids[k])
		}
	}
	return l
}

// idsOf are the IDs of a tree's leaves, in order.
func idsOf(c api.Cell) []int {
	var ids []int
	for _, c := range cells(c) {
		if c.Kind == leafKind {
			ids = append(ids, c.ID)
		}
	}
	return ids
}

// place is where the cell with a number stands in a tree, to be written at.
func place(c *api.Cell, number int) *api.Cell {
	for number > 0 {
		number--
		for k := range c.Kids {
			n := len(cells(c.Kids[k]))
			if number < n {
				c = &c.Kids[k]
				break
			}
			number -= n
		}
	}
	return c
}

// clone is the same tree in memory of its own.
func clone(c api.Cell) api.Cell {
	c.Kids = slices.Clone(c.Kids)
	for k := range c.Kids {
		c.Kids[k] = clone(c.Kids[k])
	}
	return c
}

func same(a, b api.Cell) bool {
	return a.Kind == b.Kind && a.Rect == b.Rect && a.ID == b.ID && slices.EqualFunc(a.Kids, b.Kids, same)
}

func plainMay(c api.Cell) bool {
	far := func(from, size int) bool {
		return from >= 0 && from <= maxExtent && size >= 1 && size <= maxExtent && from+size <= maxExtent
	}
	met := map[int]bool{}
	l := cells(c)
	for _, c := range l {
		isLeaf := c.Kind == leafKind && len(c.Kids) == 0 && c.ID >= 0 && c.ID <= maxNum && !met[c.ID]
		isGroup := (c.Kind == rowKind || c.Kind == colKind) && c.ID == 0 && len(c.Kids) >= 2
		if !isLeaf && !isGroup || !far(c.X, c.W) || !far(c.Y, c.H) {
			return false
		}
		if isLeaf {
			met[c.ID] = true
		}
	}
	return len(l) <= maxCells
}

// plainFilled tells whether a cell that may be has kids that stand side by side, with one column
// (line) between them, from its beginning to its end.
func plainFilled(c api.Cell) bool {
	if c.Kind == leafKind {
		return true
	}
	x, y := c.X, c.Y
	for _, kid := range c.Kids {
		if kid.X != x || kid.Y != y {
			return false
		}
		if c.Kind == rowKind && kid.H == c.H {
			x += kid.W + 1
		} else if c.Kind == colKind && kid.W == c.W {
			y += kid.H + 1
		} else {
			return false
		}
	}
	if c.Kind == rowKind {
		return x == c.X+c.W+1
	}
	return y == c.Y+c.H+1
}

func plainTiles(c api.Cell) bool {
	return plainMay(c) && !slices.ContainsFunc(cells(c), func(c api.Cell) bool { return !plainFilled(c) })
}

func hasLeaf(c api.Cell, id int) bool {
	return slices.Contains(idsOf(c), id)
}

// plainNamed is the same tree with other IDs: what each leaf's becomes is told of that which it has.
func plainNamed(c api.Cell, become map[int]int) api.Cell {
	if c.Kind == leafKind {
		c.ID = become[c.ID]
	}
	var kids []api.Cell
	for _, kid := range c.Kids {
		kids = append(kids, plainNamed(kid, become))
	}
	c.Kids = kids
	return c
}

// plainFrom is the place so many places behind another one, of n, going round. It is reckoned with
// numbers that have no end.
func plainFrom(place, by, n int) int {
	sum := new(big.Int).Add(big.NewInt(int64(place)), big.NewInt(int64(by)))
	return int(sum.Mod(sum, big.NewInt(int64(n))).Int64())
}

func plainTwo(c api.Cell, a, b int) (api.Cell, api.Errno) {
	if !plainTiles(c) {
		return api.Cell{}, errArg
	}
	if !hasLeaf(c, a) || !hasLeaf(c, b) {
		return api.Cell{}, errTarget
	}
	become := map[int]int{}
	for _, id := range idsOf(c) {
		become[id] = id
	}
	become[a], become[b] = b, a
	return plainNamed(c, become), ok
}

func plainRound(c api.Cell, by int) (api.Cell, api.Errno) {
	if !plainTiles(c) {
		return api.Cell{}, errArg
	}
	become := map[int]int{}
	ids := idsOf(c)
	// The one that stands by places ahead of a leaf has that one by places behind itself.
	for k, id := range ids {
		become[ids[plainFrom(k, by, len(ids))]] = id
	}
	return plainNamed(c, become), ok
}

func plainBeside(c api.Cell, id, by int) (api.Cell, api.Errno) {
	if !plainTiles(c) {
		return api.Cell{}, errArg
	}
	ids := idsOf(c)
	at := slices.Index(ids, id)
	if at < 0 {
		return api.Cell{}, errTarget
	}
	return plainTwo(c, id, ids[plainFrom(at, by, len(ids))])
}

func plainOrder(c api.Cell, order ...int) (api.Cell, api.Errno) {
	if !plainTiles(c) {
		return api.Cell{}, errArg
	}
	ids := idsOf(c)
	if len(order) != len(ids) {
		return api.Cell{}, errCount
	}
	are, told := map[int]bool{}, map[int]bool{}
	for _, id := range ids {
		are[id] = true
	}
	become := map[int]int{}
	for k, id := range order {
		if !are[id] || told[id] {
			return api.Cell{}, errTarget
		}
		told[id] = true
		become[ids[k]] = id
	}
	return plainNamed(c, become), ok
}

// short is a tree for a message: a great one isn't told whole.
func short(c api.Cell) string {
	s := fmt.Sprint(c)
	return s[:min(len(s), 300)]
}

// keeps holds a tree whose leaves have changed places against the second promise.
func keeps(t *testing.T, was, is api.Cell) {
	t.Helper()
	l, now := cells(was), cells(is)
	if len(l) != len(now) || !slices.Equal(slices.Sorted(slices.Values(idsOf(was))), slices.Sorted(slices.Values(idsOf(is)))) {
		t.Fatalf("P15.2: %s became %s", short(was), short(is))
	}
	for n, c := range now {
		if c.Kind != l[n].Kind || c.Rect != l[n].Rect || len(c.Kids) != len(l[n].Kids) || c.Kind != leafKind && c.ID != 0 {
			t.Fatalf("P15.2: the cell %d of %s became that of %s", n, short(was), short(is))
		}
	}
}

// isBack asks that a tree is as another one was: what was done is done twice, or back.
func isBack(t *testing.T, what string, was, is api.Cell, e api.Errno) {
	t.Helper()
	if e != ok || !same(was, is) {
		t.Fatalf("P15.2: %s of %s, twice or back, is %s, %d", what, short(was), short(is), e)
	}
}

// opposite is a number that leads back: of the least int there is none with the other sign, but one
// that stands as many rounds and places away.
func opposite(by, n int) int {
	if by == math.MinInt {
		return -(by % n)
	}
	return -by
}

func sameTwo(t *testing.T, c api.Cell, a, b int) {
	t.Helper()
	got, e := swap.Two(c, a, b)
	want, should := plainTwo(c, a, b)
	if e != should || !same(got, want) {
		t.Fatalf("P15.1: Two(%s, %d, %d) = %s, %d, not %s, %d", short(c), a, b, short(got), e, short(want), should)
	}
	if e != ok {
		return
	}
	keeps(t, c, got)
	again, e := swap.Two(got, a, b)
	isBack(t, "Two", c, again, e)
	again, e = swap.Two(got, b, a)
	isBack(t, "Two", c, again, e)
}

func sameRound(t *testing.T, c api.Cell, by int) {
	t.Helper()
	got, e := swap.Round(c, by)
	want, should := plainRound(c, by)
	if e != should || !same(got, want) {
		t.Fatalf("P15.1: Round(%s, %d) = %s, %d, not %s, %d", short(c), by, short(got), e, short(want), should)
	}
	if e != ok {
		return
	}
	keeps(t, c, got)
	back, e := swap.Round(got, opposite(by, len(idsOf(c))))
	isBack(t, "Round", c, back, e)
}

func sameBeside(t *testing.T, c api.Cell, id, by int) {
	t.Helper()
	got, e := swap.Beside(c, id, by)
	want, should := plainBeside(c, id, by)
	if e != should || !same(got, want) {
		t.Fatalf("P15.1: Beside(%s, %d, %d) = %s, %d, not %s, %d", short(c), id, by, short(got), e, short(want), should)
	}
	if e != ok {
		return
	}
	keeps(t, c, got)
	back, e := swap.Beside(got, id, opposite(by, len(idsOf(c))))
	isBack(t, "Beside", c, back, e)
}

func sameOrder(t *testing.T, c api.Cell, order ...int) {
	t.Helper()
	got, e := swap.Order(c, order...)
	want, should := plainOrder(c, order...)
	if e != should || !same(got, want) {
		t.Fatalf("P15.1: Order(%s, %.200s) = %s, %d, not %s, %d", short(c), fmt.Sprint(order), short(got), e, short(want), should)
	}
	if e != ok {
		return
	}
	keeps(t, c, got)
	back, e := swap.Order(got, idsOf(c)...)
	isBack(t, "Order", c, back, e)
}

// steps are numbers of places: few, some rounds of n, and as many as there are.
func steps(n int) []int {
	l := []int{n, -n, 2*n + 1, -2*n - 1, 1000*n - 1, maxNum, -maxNum, math.MaxInt, math.MaxInt - 1, math.MinInt, math.MinInt + 1}
	for by := -min(n, 9) - 1; by <= min(n, 9)+1; by++ {
		l = append(l, by)
	}
	return l
}

// orders are lists of numbers for a tree: right ones, too few, too many, wrong ones, ones told twice.
func orders(ids []int) [][]int {
	l := [][]int{nil, {}, ids, slices.Sorted(slices.Values(ids)), ids[1:], slices.Concat(ids, ids[:1]), slices.Concat(ids, ids)}
	back := slices.Clone(ids)
	slices.Reverse(back)
	l = append(l, back)
	for k := range min(len(ids), 6) {
		l = append(l, slices.Concat(ids[k:], ids[:k]))
		for _, wrong := range []int{-1, slices.Max(ids) + 1, maxNum + 1, math.MinInt, math.MaxInt, 0, ids[0], ids[len(ids)-1]} {
			other := slices.Clone(ids)
			other[k] = wrong
			l = append(l, other)
		}
	}
	return l
}

// sameAnswers holds all that is asked of one tree against the plain reading.
func sameAnswers(t *testing.T, c api.Cell) {
	t.Helper()
	ids := idsOf(c)
	asked := slices.Concat(ids, []int{-1, 0, slices.Max(ids) + 1, maxNum + 1, math.MinInt, math.MaxInt})
	for _, id := range asked {
		for _, other := range asked {
			sameTwo(t, c, id, other)
		}
		for _, by := range steps(len(ids)) {
			sameBeside(t, c, id, by)
		}
	}
	for _, by := range steps(len(ids)) {
		sameRound(t, c, by)
	}
	for _, order := range orders(ids) {
		sameOrder(t, c, order...)
	}
}

// Of the leaves 1, 2, 3, Round by 1: 3, 1, 2.
func TestExample(t *testing.T) {
	c := side(0, 0, 5, 2, 3, 4)
	number(&c, 1)
	want := row(of(0, 0, 11, 5), leaf(3, of(0, 0, 2, 5)), leaf(1, of(3, 0, 3, 5)), leaf(2, of(7, 0, 4, 5)))
	if got, e := swap.Round(c, 1); e != ok || !same(got, want) {
		t.Errorf("P15.1: Round(1) = %v, %d", got, e)
	}
	if got, e := swap.Round(turned(c), 1); e != ok || !same(got, turned(want)) {
		t.Errorf("P15.1: Round(1) of a column = %v, %d", got, e)
	}
	sameAnswers(t, c)
	sameAnswers(t, turned(c))
}

// renamed is the tree mixed with these IDs, in order.
func renamed(ids ...int) api.Cell {
	low := row(of(9, 9, 6, 4), leaf(ids[2], of(9, 9, 3, 4)), leaf(ids[3], of(13, 9, 2, 4)))
	mid := col(of(9, 2, 6, 11), leaf(ids[1], of(9, 2, 6, 6)), low)
	return row(of(3, 2, 17, 11), leaf(ids[0], of(3, 2, 5, 11)), mid, leaf(ids[4], of(16, 2, 4, 11)))
}

func TestTwo(t *testing.T) {
	for _, x := range []struct {
		a, b int
		want api.Cell
	}{
		{3, 1, renamed(1, 3, 0, 5, 7)}, {3, 0, renamed(0, 1, 3, 5, 7)}, {3, 5, renamed(5, 1, 0, 3, 7)}, {3, 7, renamed(7, 1, 0, 5, 3)},
		{1, 0, renamed(3, 0, 1, 5, 7)}, {0, 5, renamed(3, 1, 5, 0, 7)}, {5, 7, renamed(3, 1, 0, 7, 5)}, {1, 7, renamed(3, 7, 0, 5, 1)},
		{3, 3, mixed()}, {0, 0, mixed()}, {7, 7, mixed()},
	} {
		if got, e := swap.Two(mixed(), x.a, x.b); e != ok || !same(got, x.want) {
			t.Errorf("P15.1: Two(%d, %d) = %v, %d, not %v", x.a, x.b, got, e, x.want)
		}
		if got, e := swap.Two(mixed(), x.b, x.a); e != ok || !same(got, x.want) {
			t.Errorf("P15.1: Two(%d, %d) = %v, %d, not %v", x.b, x.a, got, e, x.want)
		}
	}
	for _, c := range cells(mixed()) {
		sameAnswers(t, c)
		sameAnswers(t, turned(c))
	}
}

func TestRound(t *testing.T) {
	for _, x := range []struct {
		by   int
		want api.Cell
	}{
		{0, mixed()}, {1, renamed(7, 3, 1, 0, 5)}, {2, renamed(5, 7, 3, 1, 0)}, {4, renamed(1, 0, 5, 7, 3)}, {5, mixed()}, {6, renamed(7, 3, 1, 0, 5)},
		{-1, renamed(1, 0, 5, 7, 3)}, {-2, renamed(0, 5, 7, 3, 1)}, {-5, mixed()}, {-11, renamed(1, 0, 5, 7, 3)},
		// The greatest int is two places more than some rounds of 5, the least one three places less.
		{math.MaxInt, renamed(5, 7, 3, 1, 0)}, {math.MinInt, renamed(5, 7, 3, 1, 0)},
	} {
		if got, e := swap.Round(mixed(), x.by); e != ok || !same(got, x.want) {
			t.Errorf("P15.1: Round(%d) = %v, %d, not %v", x.by, got, e, x.want)
		}
	}
}

func TestBeside(t *testing.T) {
	for _, x := range []struct {
		id, by int
		want   api.Cell
	}{
		{3, 1, renamed(1, 3, 0, 5, 7)}, {3, 2, renamed(0, 1, 3, 5, 7)}, {3, -1, renamed(7, 1, 0, 5, 3)}, {3, -2, renamed(5, 1, 0, 3, 7)}, {3, 4, renamed(7, 1, 0, 5, 3)},
		{7, 1, renamed(7, 1, 0, 5, 3)}, {7, -1, renamed(3, 1, 0, 7, 5)}, {0, 1, renamed(3, 1, 5, 0, 7)}, {0, -1, renamed(3, 0, 1, 5, 7)}, {0, 3, renamed(0, 1, 3, 5, 7)},
		{3, 0, mixed()}, {0, 5, mixed()}, {7, -10, mixed()}, {1, math.MaxInt, renamed(3, 5, 0, 1, 7)}, {1, math.MinInt, renamed(3, 5, 0, 1, 7)},
	} {
		if got, e := swap.Beside(mixed(), x.id, x.by); e != ok || !same(got, x.want) {
			t.Errorf("P15.1: Beside(%d, %d) = %v, %d, not %v", x.id, x.by, got, e, x.want)
		}
	}
}

func TestOrder(t *testing.T) {
	for _, x := range []struct {
		ids  []int
		e    api.Errno
		want api.Cell
	}{
		{[]int{3, 1, 0, 5, 7}, ok, mixed()}, {[]int{0, 1, 3, 5, 7}, ok, renamed(0, 1, 3, 5, 7)}, {[]int{7, 5, 3, 1, 0}, ok, renamed(7, 5, 3, 1, 0)}, {[]int{5, 0, 7, 3, 1}, ok, renamed(5, 0, 7, 3, 1)},
		{nil, errCount, api.Cell{}}, {[]int{}, errCount, api.Cell{}}, {[]int{3}, errCount, api.Cell{}}, {[]int{3, 1, 0, 5}, errCount, api.Cell{}}, {[]int{3, 1, 0, 5, 7, 9}, errCount, api.Cell{}}, {[]int{3, 1, 0, 5, 7, 3}, errCount, api.Cell{}}, {[]int{9, 9}, errCount, api.Cell{}},
		{[]int{3, 1, 0, 5, 9}, errTarget, api.Cell{}}, {[]int{-3, 1, 0, 5, 7}, errTarget, api.Cell{}}, {[]int{3, 1, 0, 5, 5}, errTarget, api.Cell{}}, {[]int{3, 3, 0, 5, 7}, errTarget, api.Cell{}}, {[]int{0, 0, 0, 0, 0}, errTarget, api.Cell{}}, {[]int{9, 9, 9, 9, 9}, errTarget, api.Cell{}}, {[]int{7, 1, 0, 5, 7}, errTarget, api.Cell{}}, {[]int{math.MaxInt, math.MinInt, 0, 5, 7}, errTarget, api.Cell{}},
	} {
		if got, e := swap.Order(mixed(), x.ids...); e != x.e || !same(got, x.want) {
			t.Errorf("P15.1: Order(%v) = %v, %d, not %v, %d", x.ids, got, e, x.want, x.e)
		}
	}
}

// One leaf changes places with itself.
func TestOneLeaf(t *testing.T) {
	for _, id := range []int{0, 4, maxNum} {
		c := leaf(id, of(1, 1, 9, 9))
		for name, got := range answersOfOne(c) {
			if !same(got, c) {
				t.Errorf("P15.1: %s of the leaf %d alone = %v", name, id, got)
			}
		}
		sameAnswers(t, c)
	}
}

func answersOfOne(c api.Cell) map[string]api.Cell {
	two, _ := swap.Two(c, c.ID, c.ID)
	round, _ := swap.Round(c, math.MinInt)
	beside, _ := swap.Beside(c, c.ID, -1)
	order, _ := swap.Order(c, c.ID)
	return map[string]api.Cell{"Two": two, "Round": round, "Beside": beside, "Order": order}
}

// The error that is named first is told, with the zero cell.
func TestErrors(t *testing.T) {
	narrow := mixed()
	narrow.Kids[0].W--
	two := func(a, b int) func(c api.Cell) (api.Cell, api.Errno) {
		return func(c api.Cell) (api.Cell, api.Errno) { return swap.Two(c, a, b) }
	}
	round := func(by int) func(c api.Cell) (api.Cell, api.Errno) {
		return func(c api.Cell) (api.Cell, api.Errno) { return swap.Round(c, by) }
	}
	beside := func(id, by int) func(c api.Cell) (api.Cell, api.Errno) {
		return func(c api.Cell) (api.Cell, api.Errno) { return swap.Beside(c, id, by) }
	}
	order := func(ids ...int) func(c api.Cell) (api.Cell, api.Errno) {
		return func(c api.Cell) (api.Cell, api.Errno) { return swap.Order(c, ids...) }
	}
	for n, x := range []struct {
		c    api.Cell
		call func(c api.Cell) (api.Cell, api.Errno)
		want api.Errno
	}{
		{mixed(), two(3, 7), ok}, {mixed(), two(9, 7), errTarget}, {mixed(), two(3, 9), errTarget}, {mixed(), two(9, 9), errTarget}, {mixed(), two(-1, 3), errTarget}, {mixed(), two(3, math.MinInt), errTarget}, {mixed(), two(math.MaxInt, math.MaxInt), errTarget},
		{narrow, two(3, 7), errArg}, {narrow, two(3, 3), errArg}, {narrow, two(9, 9), errArg}, {api.Cell{}, two(0, 0), errArg},
		{mixed(), round(3), ok}, {narrow, round(3), errArg}, {narrow, round(0), errArg}, {api.Cell{}, round(math.MinInt), errArg},
		{mixed(), beside(7, 1), ok}, {mixed(), beside(9, 1), errTarget}, {mixed(), beside(9, 0), errTarget}, {mixed(), beside(-1, math.MinInt), errTarget}, {narrow, beside(7, 1), errArg}, {narrow, beside(9, 1), errArg}, {narrow, beside(7, 0), errArg}, {api.Cell{}, beside(0, 0), errArg},
		{mixed(), order(7, 5, 3, 1, 0), ok}, {mixed(), order(7, 5, 3, 1), errCount}, {mixed(), order(9, 9, 9, 9), errCount}, {mixed(), order(9, 9, 9, 9, 9), errTarget},
		{narrow, order(7, 5, 3, 1, 0), errArg}, {narrow, order(3, 1, 0, 5, 7), errArg}, {narrow, order(), errArg}, {narrow, order(9), errArg}, {narrow, order(7, 7, 7, 7, 7), errArg}, {api.Cell{}, order(), errArg},
	} {
		got, e := x.call(x.c)
		if e != x.want || e != ok && !same(got, api.Cell{}) {
			t.Errorf("P15.1: the call %d: %v, %d, not %d", n, got, e, x.want)
		}
	}
}

// IDs of rows and columns are 0: that isn't a leaf's ID.
func TestIDsOfGroups(t *testing.T) {
	c := row(of(0, 0, 7, 5), leaf(1, of(0, 0, 3, 5)), col(of(4, 0, 3, 5), leaf(2, of(4, 0, 3, 2)), leaf(3, of(4, 3, 3, 2))))
	for n, call := range []func() (api.Cell, api.Errno){
		func() (api.Cell, api.Errno) { return swap.Two(c, 0, 1) },
		func() (api.Cell, api.Errno) { return swap.Two(c, 1, 0) },
		func() (api.Cell, api.Errno) { return swap.Two(c, 0, 0) },
		func() (api.Cell, api.Errno) { return swap.Beside(c, 0, 1) },
		func() (api.Cell, api.Errno) { return swap.Order(c, 1, 2, 0) },
	} {
		if got, e := call(); e != errTarget || !same(got, api.Cell{}) {
			t.Errorf("P15.1: a row changes places, %d: %v, %d", n, got, e)
		}
	}
	sameAnswers(t, c)
}

// wrongCells may not be, neither alone nor in others.
func wrongCells() []api.Cell {
	o := of(0, 0, 3, 1)
	two := []api.Cell{leaf(101, of(0, 0, 1, 1)), leaf(102, of(2, 0, 1, 1))}
	l := []api.Cell{
		{}, {Kind: 0, Rect: o}, {Kind: 0, Rect: o, Kids: two}, {Kind: 4, Rect: o, Kids: two}, {Kind: 255, Rect: o},
		leaf(-1, o), leaf(maxNum+1, o), leaf(math.MinInt, o), leaf(math.MaxInt, o),
		{Kind: leafKind, Rect: o, ID: 3, Kids: two}, row(o), col(o), row(o, leaf(101, o)), col(o, leaf(101, o)),
		row(o, two[0], leaf(101, of(2, 0, 1, 1))),
		{Kind: rowKind, Rect: o, ID: 1, Kids: two}, {Kind: colKind, Rect: o, ID: -1, Kids: two},
	}
	for _, r := range []api.Rect{
		{}, of(-1, 0, 3, 1), of(0, -1, 3, 1), of(0, 0, 0, 1), of(0, 0, 3, 0), of(0, 0, -3, 1), of(0, 0, 3, -1),
		of(0, 0, maxExtent+1, 1), of(0, 0, 1, maxExtent+1), of(maxExtent, 0, 1, 1), of(0, maxExtent, 1, 1),
		of(math.MaxInt, 0, 1, 1), of(math.MaxInt, 0, math.MaxInt, 1), of(0, math.MinInt, 1, math.MinInt), of(1, 1, math.MinInt, math.MinInt),
	} {
		l = append(l, leaf(3, r), row(r, two...), col(r, two...), row(o, two[0], leaf(3, r)))
	}
	return l
}

// refused asks that a tree is refused for itself, whatever else is asked of it.
func refused(t *testing.T, c api.Cell) {
	t.Helper()
	told := func(got api.Cell, e api.Errno) {
		t.Helper()
		if e != errArg || !same(got, api.Cell{}) {
			t.Errorf("P15.1: of %s: %s, %d", short(c), short(got), e)
		}
	}
	for _, id := range []int{-1, 0, 1, 3, 7, 101, 102, math.MaxInt} {
		told(swap.Two(c, id, id))
		told(swap.Two(c, id, 3))
		told(swap.Two(c, 1, id))
		told(swap.Order(c, id))
		for _, by := range []int{0, 1, -1, math.MaxInt, math.MinInt} {
			told(swap.Beside(c, id, by))
			told(swap.Round(c, by))
		}
	}
	told(swap.Order(c))
	told(swap.Order(c, 7, 5, 3, 1, 0))
	told(swap.Order(c, 101, 102))
}

func TestTreesThatMayNotBe(t *testing.T) {
	for _, wrong := range wrongCells() {
		refused(t, wrong)
		for number := 1; number < len(cells(mixed())); number++ {
			c := mixed()
			*place(&c, number) = wrong
			refused(t, c)
		}
	}
}

func TestTreesThatDontTile(t *testing.T) {
	for number := 1; number < len(cells(mixed())); number++ {
		for _, change := range []func(c *api.Cell){func(c *api.Cell) { c.X++ }, func(c *api.Cell) { c.Y-- }, func(c *api.Cell) { c.W-- }, func(c *api.Cell) { c.H++ }} {
			c := mixed()
			change(place(&c, number))
			refused(t, c)
		}
	}
}

// tilings does something with all trees that tile a rectangle, at most so deep; IDs are all 0.
func tilings(r api.Rect, deep int, do func(c api.Cell)) {
	do(leaf(0, r))
	if deep == 1 {
		return
	}
	for _, kind := range []uint8{rowKind, colKind} {
		kidLists(r, kind, deep-1, nil, func(kids []api.Cell) {
			if len(kids) > 1 {
				do(clone(api.Cell{Kind: kind, Rect: r, Kids: kids}))
			}
		})
	}
}

// kidLists does something with all lists of kids that fill a rectangle, in a row or a column.
func kidLists(r api.Rect, kind uint8, deep int, kids []api.Cell, do func(kids []api.Cell)) {
	size := r.W
	if kind == colKind {
		size = r.H
	}
	for n := 1; n <= size; n++ {
		head, rest := of(r.X, r.Y, n, r.H), of(r.X+n+1, r.Y, r.W-n-1, r.H)
		if kind == colKind {
			head, rest = of(r.X, r.Y, r.W, n), of(r.X, r.Y+n+1, r.W, r.H-n-1)
		}
		tilings(head, deep, func(kid api.Cell) {
			if n == size {
				do(append(kids, kid))
			} else {
				kidLists(rest, kind, deep, append(kids, kid), do)
			}
		})
	}
}

// number gives the leaves of a tree IDs, one behind the other.
func number(c *api.Cell, from int) int {
	if c.Kind == leafKind {
		c.ID = from
		return from + 1
	}
	for k := range c.Kids {
		from = number(&c.Kids[k], from)
	}
	return from
}

func TestEverySmallTiling(t *testing.T) {
	trees := 0
	for _, r := range []api.Rect{of(2, 1, 1, 1), of(0, 0, 3, 1), of(1, 1, 3, 3), of(1, 2, 4, 3), of(1, 2, 3, 5), of(0, 1, 1, 7), of(3, 0, 9, 1), of(3, 0, 5, 3), of(1, 1, 5, 5), of(2, 0, 7, 3)} {
		tilings(r, 3, func(c api.Cell) {
			trees++
			free := number(&c, 0)
			for id := range free {
				sameTwo(t, c, id, (id*2+1)%free)
				sameBeside(t, c, id, id-2)
				sameRound(t, c, id)
				sameRound(t, c, -id)
			}
			for _, order := range orders(idsOf(c))[:10] {
				sameOrder(t, c, order...)
			}
		})
	}
	if trees < 500 {
		t.Errorf("only %d trees tiled", trees)
	}
}

// All orders of a few leaves are each one's, and no two are the same.
func TestAllOrders(t *testing.T) {
	ids := []int{3, 1, 0, 5, 7}
	met := map[string]bool{}
	var tell func(k int)
	tell = func(k int) {
		if k == len(ids) {
			got, e := swap.Order(mixed(), ids...)
			if e != ok || !same(got, renamed(ids...)) {
				t.Fatalf("P15.1: Order(%v) = %v, %d", ids, got, e)
			}
			met[fmt.Sprint(got)] = true
			return
		}
		for j := k; j < len(ids); j++ {
			ids[k], ids[j] = ids[j], ids[k]
			tell(k + 1)
			ids[k], ids[j] = ids[j], ids[k]
		}
	}
	tell(0)
	if len(met) != 120 {
		t.Errorf("P15.1: 5 leaves have %d orders", len(met))
	}
}

// randomTree is a tree that tiles a rectangle.
func randomTree(g *rand.Rand, r api.Rect, deep int) api.Cell {
	kind, size := rowKind, r.W
	if g.Intn(2) > 0 {
		kind, size = colKind, r.H
	}
	if deep == 0 || size < 3 || g.Intn(6) == 0 {
		return leaf(0, r)
	}
	c := api.Cell{Kind: kind, Rect: r}
	from := 0
	for from < size {
		n := 1 + g.Intn(size-from)
		if from == 0 {
			n = 1 + g.Intn(size-2)
		}
		if n == size-from-1 {
			n++ // behind it there is space for a line, but for none of its kids
		}
		part := of(r.X+from, r.Y, n, r.H)
		if kind == colKind {
			part = of(r.X, r.Y+from, r.W, n)
		}
		c.Kids = append(c.Kids, randomTree(g, part, deep-1))
		from += n + 1
	}
	if len(c.Kids) < 2 {
		return leaf(0, r)
	}
	return c
}

// disturb changes one number of a tree.
func disturb(g *rand.Rand, c *api.Cell) {
	spot := place(c, g.Intn(len(cells(*c))))
	*[]*int{&spot.X, &spot.Y, &spot.W, &spot.H, &spot.ID}[g.Intn(5)] += g.Intn(7) - 3
}

func TestManyTrees(t *testing.T) {
	g := rand.New(rand.NewSource(1515))
	most := 0
	for range 100 {
		c := randomTree(g, of(g.Intn(30), g.Intn(30), 1+g.Intn(60), 1+g.Intn(40)), 1+g.Intn(7))
		free := number(&c, g.Intn(1000))
		if !plainTiles(c) {
			t.Fatalf("%v doesn't tile", c)
		}
		ids := idsOf(c)
		most = max(most, len(ids))
		c, _ = plainOrder(c, mixedUp(g, ids)...)
		for range 20 {
			a, b, by := ids[g.Intn(len(ids))], ids[g.Intn(len(ids))], g.Intn(201)-100
			other := clone(c)
			disturb(g, &other)
			for _, c := range []api.Cell{c, other} {
				sameTwo(t, c, a, b)
				sameTwo(t, c, a, free)
				sameBeside(t, c, a, by)
				sameRound(t, c, by)
				sameRound(t, c, int(g.Uint64()))
				sameOrder(t, c, mixedUp(g, ids)...)
			}
		}
		if len(ids) < 10 {
			sameAnswers(t, c)
		}
	}
	if most < 50 {
		t.Errorf("the greatest tree had %d leaves", most)
	}
}

// mixedUp are the same numbers in another order.
func mixedUp(g *rand.Rand, l []int) []int {
	l = slices.Clone(l)
	g.Shuffle(len(l), func(a, b int) { l[a], l[b] = l[b], l[a] })
	return l
}

// Leaves change places again and again; at last, in their order, all is as it was.
func TestAgainAndAgain(t *testing.T) {
	g := rand.New(rand.NewSource(15))
	for range 40 {
		first := randomTree(g, of(g.Intn(9), g.Intn(9), 1+g.Intn(50), 1+g.Intn(50)), 6)
		number(&first, 0)
		c, ids := first, idsOf(first)
		for range 40 {
			a, b, by := ids[g.Intn(len(ids))], ids[g.Intn(len(ids))], g.Intn(41)-20
			next, e := swap.Two(c, a, b)
			switch g.Intn(4) {
			case 0:
				next, e = swap.Round(c, by)
			case 1:
				next, e = swap.Beside(c, a, by)
			case 2:
				next, e = swap.Order(c, mixedUp(g, ids)...)
			}
			if e != ok {
				t.Fatalf("P15.1: leaves of %s don't change places: %d", short(c), e)
			}
			keeps(t, first, next)
			c = next
		}
		back, e := swap.Order(c, ids...)
		isBack(t, "all", first, back, e)
	}
}

// By 1 as often as there are leaves, all come round; by any number as often, too.
func TestAllTheWayRound(t *testing.T) {
	for _, by := range []int{1, -1, 2, 3, -7, math.MaxInt, math.MinInt} {
		c := mixed()
		for n := range 5 {
			if n > 0 && by%5 != 0 && same(c, mixed()) {
				t.Errorf("P15.1: by %d all came round at %d already", by, n)
			}
			c, _ = swap.Round(c, by)
		}
		isBack(t, "Round", mixed(), c, ok)
	}
}

// What Round tells is what it does in steps of one place.
func TestStepByStep(t *testing.T) {
	forth, back := mixed(), mixed()
	for by := range 20 {
		for sign, want := range map[int]api.Cell{1: forth, -1: back} {
			if got, e := swap.Round(mixed(), sign*by); e != ok || !same(got, want) {
				t.Errorf("P15.1: Round(%d) = %v, %d, not %v", sign*by, got, e, want)
			}
		}
		forth, _ = swap.Round(forth, 1)
		back, _ = swap.Round(back, -1)
	}
}

// Where a tree stands plays no part, and how far it reaches neither.
func TestFarthest(t *testing.T) {
	for _, c := range []api.Cell{
		side(0, 0, maxExtent, 1, maxExtent-2), side(0, 0, maxExtent, maxExtent-4, 1, 1), side(maxExtent-5, maxExtent-1, 1, 1, 1, 1),
		row(of(maxExtent-3, 0, 3, maxExtent), leaf(maxNum, of(maxExtent-3, 0, 1, maxExtent)), leaf(0, of(maxExtent-1, 0, 1, maxExtent))),
	} {
		sameAnswers(t, c)
		sameAnswers(t, turned(c))
	}
}

// wide is a row of so many leaves in some lines, each so wide, the last one as wide as it takes.
func wide(n, id, y, h, w int) api.Cell {
	c := row(of(0, y, maxExtent, h))
	for k := range n {
		c.Kids = append(c.Kids, leaf(id+k, of((w+1)*k, y, w, h)))
	}
	c.Kids[n-1].W = maxExtent - (w+1)*(n-1)
	return c
}

// full is a tree of so many cells: a column of rows.
func full(n int) api.Cell {
	const rows, kids = 5, 3300
	c := col(of(0, 0, maxExtent, 3*rows+2))
	for k := range rows {
		c.Kids = append(c.Kids, wide(kids, kids*k, 3*k, 2, 2))
	}
	c.Kids = append(c.Kids, wide(n-2-rows-rows*kids, rows*kids, 3*rows, 2, 1))
	return c
}

func TestMostCells(t *testing.T) {
	c := full(maxCells)
	if len(cells(c)) != maxCells {
		t.Fatalf("%d cells are %d", maxCells, len(cells(c)))
	}
	ids := idsOf(c)
	last := len(ids) - 1
	for _, id := range []int{0, 3299, 3300, last, maxNum} {
		sameTwo(t, c, id, 7)
		sameTwo(t, c, last, id)
		sameBeside(t, c, id, 1)
		sameBeside(t, c, id, math.MinInt)
	}
	for _, by := range []int{0, 1, -1, last, 5000, math.MaxInt, math.MinInt} {
		sameRound(t, c, by)
	}
	g := rand.New(rand.NewSource(150))
	for range 3 {
		order := mixedUp(g, ids)
		sameOrder(t, c, order...)
		order[last] = order[0]
		sameOrder(t, c, order...)
	}
	sameOrder(t, c, ids[1:]...)
	refused(t, full(maxCells+1))
}

// stair is a tree from a column and a line on to MaxExtent: each row has a leaf 2 wide and a column,
// each column a leaf 2 high and a row.
func stair(from int) api.Cell {
	c := leaf(0, of(maxExtent-4, maxExtent-4, 4, 4))
	for id := 1; c.X >= from+3; id += 2 {
		x, y, size := c.X, c.Y, c.W
		c = row(of(x-3, y, size+3, size), leaf(id, of(x-3, y, 2, size)), c)
		c = col(of(x-3, y-3, size+3, size+3), leaf(id+1, of(x-3, y-3, size+3, 2)), c)
	}
	return c
}

// nest is a tree from a column on to MaxExtent, of rows in rows: only their last leaf is in all.
func nest(from int) api.Cell {
	c := leaf(0, of(maxExtent-2, 0, 2, 5))
	for id := 1; c.X >= from+2; id++ {
		c = row(of(c.X-2, 0, c.W+2, 5), leaf(id, of(c.X-2, 0, 1, 5)), c)
	}
	return c
}

// A deepest tree that tiles is gone through in time.
func TestDeepestThatTiles(t *testing.T) {
	for _, c := range []api.Cell{stair(0), nest(0)} {
		ids := idsOf(c)
		for n, call := range []func(c api.Cell) (api.Cell, api.Errno){
			func(c api.Cell) (api.Cell, api.Errno) { return swap.Two(c, 0, ids[0]) },
			func(c api.Cell) (api.Cell, api.Errno) { return swap.Round(c, len(ids)/2) },
			func(c api.Cell) (api.Cell, api.Errno) {
				return swap.Order(c, mixedUp(rand.New(rand.NewSource(5)), ids)...)
			},
			func(c api.Cell) (api.Cell, api.Errno) { return swap.Beside(c, ids[1], 3) },
		} {
			got, e := call(c)
			if e != ok {
				t.Fatalf("P15.1: the call %d of a deep tree: %d", n, e)
			}
			keeps(t, c, got)
			if same(c, got) {
				t.Errorf("P15.1: the call %d of a deep tree did nothing", n)
			}
		}
		got, _ := swap.Beside(c, ids[1], 3)
		if l := idsOf(got); l[1] != ids[4] || l[4] != ids[1] || !slices.Equal(l[5:], ids[5:]) {
			t.Errorf("P15.1: beside a deep tree's leaf: %v", l[:6])
		}
	}
}

// As deep as the document bounds it, or beyond all counting: what may not be is refused in time.
func TestEnds(t *testing.T) {
	o := of(0, 0, 3, 1)
	deep := leaf(7, o)
	for range maxNested - 1 {
		deep = row(o, leaf(1, o), deep)
	}
	many := leaf(1, o)
	for range 200 {
		many = row(o, many, many)
	}
	round := make([]api.Cell, 2)
	round[0], round[1] = row(o, round...), row(o, round...)
	round[0].Kids, round[1].Kids = round, round
	for n, c := range []api.Cell{deep, many, round[0]} {
		for _, call := range []func() (api.Cell, api.Errno){
			func() (api.Cell, api.Errno) { return swap.Two(c, 1, 7) },
			func() (api.Cell, api.Errno) { return swap.Round(c, 1) },
			func() (api.Cell, api.Errno) { return swap.Beside(c, 1, 1) },
			func() (api.Cell, api.Errno) { return swap.Order(c, 1, 7) },
			func() (api.Cell, api.Errno) { return swap.Order(c) },
		} {
			if got, e := call(); e != errArg || !same(got, api.Cell{}) {
				t.Errorf("P15.1: leaves of the tree %d change places: %d", n, e)
			}
		}
	}
}

// What a leaf's kids are called plays no part: none are none.
func TestNilAndEmpty(t *testing.T) {
	c := mixed()
	for _, number := range []int{1, 3, 5, 6, 7} {
		place(&c, number).Kids = []api.Cell{}
	}
	sameAnswers(t, c)
	sameAnswers(t, api.Cell{Kind: leafKind, Rect: of(0, 0, 5, 5), Kids: []api.Cell{}})
}

// roomy is the tree with room behind each list of kids, filled with something that is none of them.
func roomy(c api.Cell) api.Cell {
	kids := make([]api.Cell, 0, len(c.Kids)+2)
	for _, kid := range c.Kids {
		kids = append(kids, roomy(kid))
	}
	copy(kids[len(kids):cap(kids)], []api.Cell{leaf(-77, c.Rect), leaf(-78, c.Rect)})
	c.Kids = kids
	return c
}

// untouched tells whether the room that roomy made is as it was, in the whole tree.
func untouched(c api.Cell) bool {
	room := c.Kids[len(c.Kids):cap(c.Kids)]
	return len(room) == 2 && same(room[0], leaf(-77, c.Rect)) && same(room[1], leaf(-78, c.Rect)) &&
		!slices.ContainsFunc(c.Kids, func(kid api.Cell) bool { return !untouched(kid) })
}

// overwrite writes into all memory that a tree has, the room behind its lists, too.
func overwrite(c api.Cell) {
	for _, kid := range c.Kids {
		overwrite(kid)
	}
	room := c.Kids[:cap(c.Kids)]
	for k := range room {
		room[k] = leaf(-99, of(-9, -9, -9, -9))
	}
}

// answers are trees that were made of one, each in another way.
func answers(c api.Cell) []api.Cell {
	var l []api.Cell
	keep := func(tree api.Cell, e api.Errno) {
		if e == ok {
			l = append(l, tree)
		}
	}
	ids := idsOf(c)
	for _, id := range ids {
		for _, other := range ids {
			keep(swap.Two(c, id, other))
		}
		for by := range 4 {
			keep(swap.Round(c, by))
			keep(swap.Beside(c, id, by))
		}
	}
	keep(swap.Order(c, ids...))
	keep(swap.Order(c, slices.Sorted(slices.Values(ids))...))
	return l
}

// What is handed in isn't changed, nor is the room behind its end, nor by who writes into an answer.
func TestNothingIsChanged(t *testing.T) {
	for _, tree := range []api.Cell{mixed(), side(1, 1, 9, 4, 2, 7)} {
		c := roomy(tree)
		first, second := answers(c), answers(c)
		if !same(c, tree) || !untouched(c) {
			t.Errorf("P0.4: what was handed in is changed: %v", c)
		}
		var want []api.Cell
		for _, x := range second {
			want = append(want, clone(x))
		}
		for k, x := range first {
			if !same(x, want[k]) {
				t.Fatalf("P0.4: who writes into an answer changes the answer %d", k)
			}
			overwrite(x)
			if !same(c, tree) || !untouched(c) {
				t.Fatalf("P0.4: who writes into the answer %d changes what was handed in: %v", k, c)
			}
			if !slices.EqualFunc(second, want, same) {
				t.Fatalf("P0.4: who writes into the answer %d changes another one", k)
			}
		}
		if !slices.EqualFunc(answers(c), want, same) {
			t.Error("P0.6: answers are other ones later on")
		}
		overwrite(c)
		if !slices.EqualFunc(second, want, same) {
			t.Error("P0.4: an answer hangs on what was handed in")
		}
	}
}

// No two lists of an answer share memory: who lets one grow changes none of the others.
func TestListsOfAnAnswer(t *testing.T) {
	for k, x := range answers(mixed()) {
		want := clone(x)
		for number := range cells(x) {
			spot := place(&x, number)
			_ = append(spot.Kids, leaf(-77, of(0, 0, 1, 1)), leaf(-78, of(0, 0, 1, 1)))
		}
		if !same(x, want) {
			t.Errorf("P0.4: lists of the answer %d share memory: %v", k, x)
		}
	}
}

// The numbers that are handed in stay as they are, and those behind their end.
func TestIDsAreKept(t *testing.T) {
	for _, ids := range [][]int{{7, 5, 3, 1, 0}, {7, 7, 3, 1, 0}, {9, 5, 3, 1, 0}, {7, 5, 3}} {
		all := append(slices.Clone(ids), 77, 78)
		got, _ := swap.Order(mixed(), all[:len(ids)]...)
		if !slices.Equal(all, slices.Concat(ids, []int{77, 78})) {
			t.Errorf("P0.4: numbers that were handed in are changed: %v", all)
		}
		want := clone(got)
		for k := range all {
			all[k] = -1
		}
		if !same(got, want) {
			t.Error("P0.4: an answer hangs on the numbers that were handed in")
		}
	}
}

func FuzzTrees(f *testing.F) {
	f.Add(int64(1), 80, 24, 4, 0, 1, 1)
	f.Add(int64(2), 5, 5, 3, 2, 2, -1)
	f.Add(int64(3), 40, 3, 6, 5, 0, math.MinInt)
	f.Fuzz(func(t *testing.T, seed int64, w, h, deep, a, b, by int) {
		g := rand.New(rand.NewSource(seed))
		c := randomTree(g, of(g.Intn(9), g.Intn(9), 1+int(uint8(w)), 1+int(uint8(h))), int(uint8(deep)%8))
		free := number(&c, 0)
		ids := idsOf(c)
		inner := int(uint(a) % uint(free+1))
		other := clone(c)
		disturb(g, &other)
		for _, c := range []api.Cell{c, other} {
			for _, b := range []int{b, int(uint(b) % uint(free+1))} {
				sameTwo(t, c, a, b)
				sameTwo(t, c, inner, b)
			}
			sameBeside(t, c, a, by)
			sameBeside(t, c, inner, by)
			sameRound(t, c, by)
			order := mixedUp(g, ids)
			sameOrder(t, c, order...)
			order[0] = inner
			sameOrder(t, c, order...)
			sameOrder(t, c, order[1:]...)
		}
	})
}
