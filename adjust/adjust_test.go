package adjust_test

import (
	"math"
	"math/rand"
	"slices"
	"testing"

	"sash/adjust"
	"sash/api"
)

// What the document tells in numbers is written out here, not taken from api.
const (
	leafKind  = uint8(1)
	rowKind   = uint8(2)
	colKind   = uint8(3)
	across    = uint8(1)
	down      = uint8(2)
	ok        = api.Errno(0)
	errArg    = api.Errno(1)
	errSpace  = api.Errno(7)
	maxNum    = 2147483647
	maxExtent = 10000
	maxCells  = 20000
	maxNested = 1 << 16
)

func of(x, y, w, h int) api.Rect { return api.Rect{X: x, Y: y, W: w, H: h} }

func leaf(id int, r api.Rect) api.Cell { return api.Cell{Kind: leafKind, Rect: r, ID: id} }

func row(r api.Rect, kids ...api.Cell) api.Cell {
	return api.Cell{Kind: rowKind, Rect: r, Kids: kids}
}

func col(r api.Rect, kids ...api.Cell) api.Cell {
	return api.Cell{Kind: colKind, Rect: r, Kids: kids}
}

// mixed is a tree that tiles, with all kinds of cells. Their numbers are: 0 the row, 1 the leaf 3,
// 2 a column, 3 the leaf 1, 4 a row, 5 the leaf 0, 6 the leaf 5, 7 the leaf 7.
func mixed() api.Cell {
	low := row(of(9, 9, 6, 4), leaf(0, of(9, 9, 3, 4)), leaf(5, of(13, 9, 2, 4)))
	mid := col(of(9, 2, 6, 11), leaf(1, of(9, 2, 6, 6)), low)
	return row(of(3, 2, 17, 11), leaf(3, of(3, 2, 5, 11)), mid, leaf(7, of(16, 2, 4, 11)))
}

// cells are all cells of a tree, each ahead of its kids: where one stands in the list is its number.
func cells(c api.Cell) []api.Cell {
	var l []api.Cell
	stack := []api.Cell{c}
	for len(stack) > 0 {
		c := stack[len(stack)-1]
		stack = stack[:len(stack)-1]
		l = append(l, c)
		for k := len(c.Kids) - 1; k >= 0; k-- {
			stack = append(stack, c.Kids[k])
		}
	}
	return l
}

// place is where the cell with a number stands in a tree, to be written at.
func place(c *api.Cell, number int) *api.Cell {
	for number > 0 {
		number--
		for k := range c.Kids {
			n := len(cells(c.Kids[k]))
			if number < n {
				c = &c.Kids[k]
				break
			}
			number -= n
		}
	}
	return c
}

// clone is the same tree in memory of its own.
func clone(c api.Cell) api.Cell {
	c.Kids = slices.Clone(c.Kids)
	for k := range c.Kids {
		c.Kids[k] = clone(c.Kids[k])
	}
	return c
}

func same(a, b api.Cell) bool {
	return a.Kind == b.Kind && a.Rect == b.Rect && a.ID == b.ID && slices.EqualFunc(a.Kids, b.Kids, same)
}

func plainMay(c api.Cell) bool {
	far := func(from, size int) bool {
		return from >= 0 && from <= maxExtent && size >= 1 && size <= maxExtent && from+size <= maxExtent
	}
	met := map[int]bool{}
	l := cells(c)
	for _, c := range l {
		isLeaf := c.Kind == leafKind && len(c.Kids) == 0 && c.ID >= 0 && c.ID <= maxNum && !met[c.ID]
		isGroup := (c.Kind == rowKind || c.Kind == colKind) && c.ID == 0 && len(c.Kids) >= 2
		if !isLeaf && !isGroup || !far(c.X, c.W) || !far(c.Y, c.H) {
			return false
		}
		if isLeaf {
			met[c.ID] = true
		}
	}
	return len(l) <= maxCells
}

// plainFilled tells whether a cell that may be has kids that stand side by side, with one column
// (line) between them, from its beginning to its end.
func plainFilled(c api.Cell) bool {
	if c.Kind == leafKind {
		return true
	}
	x, y := c.X, c.Y
	for _, kid := range c.Kids {
		if kid.X != x || kid.Y != y {
			return false
		}
		if c.Kind == rowKind && kid.H == c.H {
			x += kid.W + 1
		} else if c.Kind == colKind && kid.W == c.W {
			y += kid.H + 1
		} else {
			return false
		}
	}
	if c.Kind == rowKind {
		return x == c.X+c.W+1
	}
	return y == c.Y+c.H+1
}

func plainTiles(c api.Cell) bool {
	return plainMay(c) && !slices.ContainsFunc(cells(c), func(c api.Cell) bool { return !plainFilled(c) })
}

func sizeOf(c api.Cell, axis uint8) int {
	if axis == across {
		return c.W
	}
	return c.H
}

func isAlong(c api.Cell, axis uint8) bool {
	return c.Kind == rowKind && axis == across || c.Kind == colKind && axis == down
}

// plainLeast is the least size of a tree that may be.
func plainLeast(c api.Cell, axis uint8) int {
	if c.Kind == leafKind {
		return 1
	}
	var l []int
	sum := len(c.Kids) - 1
	for _, kid := range c.Kids {
		l = append(l, plainLeast(kid, axis))
		sum += l[len(l)-1]
	}
	if isAlong(c, axis) {
		return sum
	}
	return slices.Max(l)
}

// rounds hands a change out, 1 by 1, to those that can still be taken from, or to all, if it is
// above 0. It must be one that can be handed out.
func rounds(by int, gives []int) []int {
	change := make([]int, len(gives))
	for by != 0 {
		for k := range gives {
			if by > 0 {
				change[k]++
				by--
			} else if by < 0 && gives[k]+change[k] > 0 {
				change[k]--
				by++
			}
		}
	}
	return change
}

func plainShares(by int, gives []int) ([]int, bool) {
	together := 0
	for _, n := range gives {
		if n < 0 || n > maxNum {
			return nil, false
		}
		together += n
	}
	if len(gives) == 0 || by > maxNum || by < -maxNum || by < 0 && together < -by {
		return nil, false
	}
	return rounds(by, gives), true
}

// plainSet lets each kid begin behind all those that are ahead of it.
func plainSet(c api.Cell, x, y int) api.Cell {
	c.X, c.Y = x, y
	c.Kids = slices.Clone(c.Kids)
	for k := range c.Kids {
		wide, high := 0, 0
		for _, ahead := range c.Kids[:k] {
			wide, high = wide+ahead.W+1, high+ahead.H+1
		}
		if c.Kind != rowKind {
			wide = 0
		}
		if c.Kind != colKind {
			high = 0
		}
		c.Kids[k] = plainSet(c.Kids[k], x+wide, y+high)
	}
	return c
}

// plainChange changes the sizes of a tree, cell by cell, by what there is space for.
func plainChange(c api.Cell, axis uint8, by int) api.Cell {
	change := make([]int, len(c.Kids))
	for k := range change {
		change[k] = by
	}
	if isAlong(c, axis) {
		var gives []int
		for _, kid := range c.Kids {
			gives = append(gives, sizeOf(kid, axis)-plainLeast(kid, axis))
		}
		change = rounds(by, gives)
	}
	c.Kids = slices.Clone(c.Kids)
	for k := range c.Kids {
		c.Kids[k] = plainChange(c.Kids[k], axis, change[k])
	}
	if axis == across {
		c.W += by
	} else {
		c.H += by
	}
	return c
}

func plainAdjust(c api.Cell, axis uint8, by int) (api.Cell, api.Errno) {
	if !plainTiles(c) || axis != across && axis != down {
		return api.Cell{}, errArg
	}
	if by < -maxExtent || by > maxExtent || sizeOf(c, axis)+by < plainLeast(c, axis) {
		return api.Cell{}, errSpace
	}
	if end := map[uint8]int{across: c.X + c.W, down: c.Y + c.H}[axis]; end+by > maxExtent {
		return api.Cell{}, errSpace
	}
	return plainSet(plainChange(c, axis, by), c.X, c.Y), ok
}

func plainTo(c api.Cell, w, h int) (api.Cell, api.Errno) {
	if !plainTiles(c) {
		return api.Cell{}, errArg
	}
	if w < plainLeast(c, across) || w > maxExtent-c.X || h < plainLeast(c, down) || h > maxExtent-c.Y {
		return api.Cell{}, errSpace
	}
	wide := plainChange(c, across, w-c.W)
	return plainSet(plainChange(wide, down, h-c.H), c.X, c.Y), ok
}

// keeps holds a tree that was adjusted against the second promise. Sizes along an axis that is kept
// are those that they were, cell by cell.
func keeps(t *testing.T, was, is api.Cell, r api.Rect, kept ...uint8) {
	t.Helper()
	if !plainTiles(is) || is.Rect != r {
		t.Fatalf("P9.2: %v became %v, that doesn't tile %v", was, is, r)
	}
	a, b := cells(was), cells(is)
	if len(a) != len(b) {
		t.Fatalf("P9.2: %v became %v, of other cells", was, is)
	}
	for k := range a {
		if a[k].Kind != b[k].Kind || a[k].ID != b[k].ID || len(a[k].Kids) != len(b[k].Kids) {
			t.Fatalf("P9.2: %v became %v, of other cells", was, is)
		}
		for _, axis := range kept {
			if sizeOf(a[k], axis) != sizeOf(b[k], axis) {
				t.Fatalf("P9.2: %v became %v: the cell %d has another size along the axis %d", was, is, k, axis)
			}
		}
	}
}

func sameShares(t *testing.T, by int, gives []int) {
	t.Helper()
	got, is := adjust.Shares(by, gives...)
	want, should := plainShares(by, gives)
	if is != should || !slices.Equal(got, want) {
		t.Fatalf("P9.1: Shares(%d, %v) = %v, %v, not %v, %v", by, gives, got, is, want, should)
	}
}

func sameSet(t *testing.T, c api.Cell, x, y int) {
	t.Helper()
	if got, want := adjust.Set(c, x, y), plainSet(c, x, y); !same(got, want) {
		t.Fatalf("P9.1: Set(%v, %d, %d) = %v, not %v", c, x, y, got, want)
	}
}

func sameAdjust(t *testing.T, c api.Cell, axis uint8, by int) {
	t.Helper()
	got, e := adjust.Adjust(c, axis, by)
	want, should := plainAdjust(c, axis, by)
	if e != should || !same(got, want) {
		t.Fatalf("P9.1: Adjust(%v, %d, %d) = %v, %d, not %v, %d", c, axis, by, got, e, want, should)
	}
	if e != ok {
		return
	}
	if axis == across {
		keeps(t, c, got, of(c.X, c.Y, c.W+by, c.H), down)
	} else {
		keeps(t, c, got, of(c.X, c.Y, c.W, c.H+by), across)
	}
}

func sameTo(t *testing.T, c api.Cell, w, h int) {
	t.Helper()
	got, e := adjust.To(c, w, h)
	want, should := plainTo(c, w, h)
	if e != should || !same(got, want) {
		t.Fatalf("P9.1: To(%v, %d, %d) = %v, %d, not %v, %d", c, w, h, got, e, want, should)
	}
	if e == ok {
		keeps(t, c, got, of(c.X, c.Y, w, h))
	}
}

// sameAnswers holds what is asked of one tree against the plain reading, at all edges.
func sameAnswers(t *testing.T, c api.Cell) {
	t.Helper()
	huge := []int{math.MinInt, math.MinInt + 1, -maxNum, maxNum, math.MaxInt - 1, math.MaxInt}
	for axis := range uint8(4) {
		for _, by := range append(huge, -7, -2, -1, 0, 1, 2, 7) {
			sameAdjust(t, c, axis, by)
		}
	}
	if !plainTiles(c) {
		sameTo(t, c, c.W, c.H)
		return
	}
	w, h := plainLeast(c, across), plainLeast(c, down)
	for _, by := range []int{w - c.W - 1, w - c.W, w - c.W + 1, maxExtent - c.X - c.W, maxExtent - c.X - c.W + 1} {
		sameAdjust(t, c, across, by)
		sameTo(t, c, c.W+by, c.H)
		sameTo(t, c, c.W+by, h)
	}
	for _, by := range []int{h - c.H - 1, h - c.H, h - c.H + 1, maxExtent - c.Y - c.H, maxExtent - c.Y - c.H + 1} {
		sameAdjust(t, c, down, by)
		sameTo(t, c, c.W, c.H+by)
		sameTo(t, c, w, c.H+by)
	}
	for _, n := range append(huge, 0, 1) {
		sameTo(t, c, n, h)
		sameTo(t, c, w, n)
		sameTo(t, c, n, n)
	}
}

func TestExample(t *testing.T) {
	if l, is := adjust.Shares(5, 0, 0, 0); !is || !slices.Equal(l, []int{2, 2, 1}) {
		t.Errorf("P9.1: Shares of 5 among three kids: %v, %v", l, is)
	}
}

func TestShares(t *testing.T) {
	for _, x := range []struct {
		by    int
		gives []int
		want  []int
	}{
		{0, []int{0}, []int{0}}, {0, []int{5, 0, 9}, []int{0, 0, 0}},
		{1, []int{0}, []int{1}}, {1, []int{9, 9}, []int{1, 0}}, {2, []int{9, 9}, []int{1, 1}}, {3, []int{0, 9}, []int{2, 1}},
		{2, []int{0, 0, 0}, []int{1, 1, 0}}, {7, []int{0, 3, 1}, []int{3, 2, 2}},
		{-1, []int{1}, []int{-1}}, {-1, []int{0, 1}, []int{0, -1}}, {-1, []int{9, 9}, []int{-1, 0}},
		{-2, []int{9, 9}, []int{-1, -1}}, {-3, []int{9, 9}, []int{-2, -1}}, {-3, []int{1, 9}, []int{-1, -2}},
		{-6, []int{3, 1, 9}, []int{-3, -1, -2}}, {-7, []int{3, 1, 9}, []int{-3, -1, -3}}, {-8, []int{3, 1, 9}, []int{-3, -1, -4}},
		{-13, []int{3, 1, 9}, []int{-3, -1, -9}}, {-5, []int{0, 4, 0, 4}, []int{0, -3, 0, -2}},
		{-9, []int{2, 5, 4}, []int{-2, -4, -3}}, {-10, []int{2, 5, 4}, []int{-2, -4, -4}}, {-11, []int{2, 5, 4}, []int{-2, -5, -4}},
	} {
		if l, is := adjust.Shares(x.by, x.gives...); !is || !slices.Equal(l, x.want) {
			t.Errorf("P9.1: Shares(%d, %v) = %v, %v, not %v", x.by, x.gives, l, is, x.want)
		}
	}
}

// What kids give is asked of all of them, when they grow, too.
func TestNoShares(t *testing.T) {
	for _, x := range []struct {
		by    int
		gives []int
	}{
		{0, nil}, {1, nil}, {-1, nil}, {0, []int{}}, {math.MinInt, nil},
		{0, []int{-1}}, {1, []int{-1}}, {-1, []int{-1}}, {1, []int{3, -1}}, {-1, []int{3, -1, 3}}, {5, []int{math.MinInt, 3}},
		{0, []int{maxNum + 1}}, {1, []int{3, maxNum + 1}}, {-1, []int{maxNum + 1}}, {-1, []int{3, 3, math.MaxInt}},
		{-1, []int{math.MaxInt, math.MaxInt, 3}}, {1, []int{math.MaxInt, math.MinInt}},
		{maxNum + 1, []int{3}}, {math.MaxInt, []int{3, 3}}, {maxNum + 1, []int{maxNum, maxNum}},
		{-maxNum - 1, []int{maxNum, maxNum}}, {-maxNum - 2, []int{maxNum, maxNum, maxNum}}, {math.MinInt, []int{maxNum, maxNum}},
		{-1, []int{0}}, {-1, []int{0, 0, 0}}, {-4, []int{3}}, {-7, []int{1, 2, 3}}, {-14, []int{3, 1, 9}},
		{-maxNum, []int{maxNum - 1}}, {-maxNum, []int{maxNum - 3, 1, 1}},
	} {
		if l, is := adjust.Shares(x.by, x.gives...); is || len(l) > 0 {
			t.Errorf("P9.1: Shares(%d, %v) = %v, %v", x.by, x.gives, l, is)
		}
	}
}

func TestSharesOfGreatNumbers(t *testing.T) {
	for _, x := range []struct {
		by    int
		gives []int
		want  []int
	}{
		{maxNum, []int{0}, []int{maxNum}}, {maxNum, []int{maxNum, 0}, []int{1 << 30, 1<<30 - 1}},
		{maxNum, []int{0, 0, 0}, []int{715827883, 715827882, 715827882}}, {maxNum - 1, []int{0, 0}, []int{1<<30 - 1, 1<<30 - 1}},
		{-maxNum, []int{maxNum}, []int{-maxNum}}, {-maxNum, []int{maxNum, maxNum}, []int{-1 << 30, 1 - 1<<30}},
		{-maxNum, []int{maxNum, 5}, []int{5 - maxNum, -5}}, {-maxNum, []int{0, maxNum}, []int{0, -maxNum}},
		{-maxNum, []int{maxNum - 3, 1, 2}, []int{3 - maxNum, -1, -2}}, {-maxNum, []int{1, maxNum, maxNum}, []int{-1, 1 - 1<<30, 1 - 1<<30}},
		{1 - maxNum, []int{1, maxNum, maxNum}, []int{-1, 1 - 1<<30, 2 - 1<<30}},
		{-1, []int{maxNum, maxNum, maxNum}, []int{-1, 0, 0}}, {0, []int{maxNum, maxNum}, []int{0, 0}},
	} {
		if l, is := adjust.Shares(x.by, x.gives...); !is || !slices.Equal(l, x.want) {
			t.Errorf("P9.1: Shares(%d, %v) = %v, %v, not %v", x.by, x.gives, l, is, x.want)
		}
	}
}

func TestSharesOfManyKids(t *testing.T) {
	const n = 100000
	most, rising := slices.Repeat([]int{maxNum}, n), make([]int, n)
	for k := range rising {
		rising[k] = k
	}
	for _, x := range []struct {
		by          int
		gives       []int
		first, last int
	}{
		{n + 1, most, 2, 1}, {n - 1, most, 1, 0}, {maxNum, rising, maxNum/n + 1, maxNum / n},
		{-n - 1, most, -2, -1}, {-n + 1, most, -1, 0}, {-maxNum, most, -maxNum/n - 1, -maxNum / n},
		{-n + 1, rising, 0, -1}, {-n, rising, 0, -1}, {-2*n + 3, rising, 0, -2},
	} {
		l, is := adjust.Shares(x.by, x.gives...)
		if !is || len(l) != n || l[0] != x.first || l[n-1] != x.last {
			t.Fatalf("P9.1: Shares(%d, ..) of %d kids", x.by, n)
		}
		sum := 0
		for _, share := range l {
			sum += share
		}
		if sum != x.by {
			t.Errorf("P9.1: Shares(%d, ..) are %d together", x.by, sum)
		}
	}
	sameShares(t, -3*n+5, rising)
	sameShares(t, 3*n+5, rising)
}

// lists does something with all lists of numbers from 0 to a greatest one, of a length.
func lists(n, greatest int, l []int, do func(l []int)) {
	if n == 0 {
		do(l)
		return
	}
	for x := range greatest + 1 {
		lists(n-1, greatest, append(l, x), do)
	}
}

func TestSharesOfFewKids(t *testing.T) {
	for n := range 5 {
		lists(n, 4, nil, func(l []int) {
			for by := -18; by <= 10; by++ {
				sameShares(t, by, l)
			}
		})
	}
}

func TestSet(t *testing.T) {
	o := of(5, 6, 4, 3)
	c := row(o, leaf(1, of(0, 0, 2, 7)), col(of(1, 1, 5, 9), leaf(2, of(9, 9, 8, 1)), leaf(3, of(8, 8, 1, 2)), leaf(4, o)), leaf(5, o))
	want := row(of(10, 20, 4, 3), leaf(1, of(10, 20, 2, 7)),
		col(of(13, 20, 5, 9), leaf(2, of(13, 20, 8, 1)), leaf(3, of(13, 22, 1, 2)), leaf(4, of(13, 25, 4, 3))),
		leaf(5, of(19, 20, 4, 3)))
	if got := adjust.Set(c, 10, 20); !same(got, want) {
		t.Errorf("P9.1: Set(.., 10, 20) = %v", got)
	}
	if got := adjust.Set(leaf(4, o), -3, 8); !same(got, leaf(4, of(-3, 8, 4, 3))) {
		t.Errorf("P9.1: Set of a leaf = %v", got)
	}
	if got := adjust.Set(api.Cell{}, 2, 3); !same(got, api.Cell{Rect: of(2, 3, 0, 0)}) {
		t.Errorf("P9.1: Set of the zero cell = %v", got)
	}
	for number := range cells(mixed()) {
		c := cells(mixed())[number]
		if !same(adjust.Set(c, c.X, c.Y), c) || !same(adjust.Set(adjust.Set(c, 70, 1), c.X, c.Y), c) {
			t.Errorf("P9.1: the cell %d, that tiles, isn't set", number)
		}
	}
}

// Kids of what is neither a row nor a column begin where it does, those of a leaf, too.
func TestSetOddKinds(t *testing.T) {
	for kind := range 256 {
		c := api.Cell{Kind: uint8(kind), Rect: of(1, 2, 3, 4), ID: 6, Kids: []api.Cell{leaf(1, of(7, 7, 2, 3)), mixed(), leaf(2, of(8, 8, 5, 5))}}
		got := adjust.Set(c, 30, 40)
		x, y := 30, 40
		if kind == 2 {
			x = 30 + 3 + 18
		}
		if kind == 3 {
			y = 40 + 4 + 12
		}
		if got.Kind != c.Kind || got.Rect != of(30, 40, 3, 4) || got.ID != 6 || got.Kids[0].Rect != of(30, 40, 2, 3) || got.Kids[2].Rect != of(x, y, 5, 5) {
			t.Errorf("P9.1: Set of the kind %d = %v", kind, got)
		}
		sameSet(t, c, 30, 40)
	}
}

// Set asks nothing of a tree, nor of where it is to begin.
func TestSetOddTrees(t *testing.T) {
	numbers := []int{math.MinInt, -maxExtent, -1, 0, 1, maxExtent, math.MaxInt}
	trees := append(wrongCells(), mixed())
	for _, n := range numbers {
		r := of(n, n, n, n)
		trees = append(trees, row(r, leaf(n, r), leaf(n, r), mixed()), col(r, leaf(n, r), leaf(n, r), mixed()))
	}
	for _, c := range trees {
		for _, x := range numbers {
			for _, y := range numbers {
				sameSet(t, c, x, y)
			}
		}
	}
}

func TestSetDeep(t *testing.T) {
	c := leaf(7, of(0, 0, 1, 1))
	for range maxNested - 1 {
		c = row(of(9, 9, 3, 1), leaf(1, of(5, 5, 1, 1)), c)
	}
	c = adjust.Set(c, 100, 200)
	for range maxNested - 1 {
		if c.Y != 200 || c.Kids[0].Rect != of(c.X, 200, 1, 1) || c.Kids[1].X != c.X+2 {
			t.Fatalf("P9.1: a deep tree isn't set: %v", c.Rect)
		}
		c = c.Kids[1]
	}
	if !same(c, leaf(7, of(100+2*(maxNested-1), 200, 1, 1))) {
		t.Errorf("P9.1: a deep tree ends in %v", c)
	}
}

// rects are the rectangles of all cells of a tree.
func rects(c api.Cell) []api.Rect {
	var l []api.Rect
	for _, c := range cells(c) {
		l = append(l, c.Rect)
	}
	return l
}

func TestAdjust(t *testing.T) {
	for _, x := range []struct {
		axis uint8
		by   int
		want []api.Rect
	}{
		{across, 0, rects(mixed())}, {down, 0, rects(mixed())},
		{across, 1, []api.Rect{of(3, 2, 18, 11), of(3, 2, 6, 11), of(10, 2, 6, 11), of(10, 2, 6, 6), of(10, 9, 6, 4), of(10, 9, 3, 4), of(14, 9, 2, 4), of(17, 2, 4, 11)}},
		{across, 5, []api.Rect{of(3, 2, 22, 11), of(3, 2, 7, 11), of(11, 2, 8, 11), of(11, 2, 8, 6), of(11, 9, 8, 4), of(11, 9, 4, 4), of(16, 9, 3, 4), of(20, 2, 5, 11)}},
		{across, -7, []api.Rect{of(3, 2, 10, 11), of(3, 2, 2, 11), of(6, 2, 4, 11), of(6, 2, 4, 6), of(6, 9, 4, 4), of(6, 9, 2, 4), of(9, 9, 1, 4), of(11, 2, 2, 11)}},
		{across, -10, []api.Rect{of(3, 2, 7, 11), of(3, 2, 1, 11), of(5, 2, 3, 11), of(5, 2, 3, 6), of(5, 9, 3, 4), of(5, 9, 1, 4), of(7, 9, 1, 4), of(9, 2, 1, 11)}},
		{down, 3, []api.Rect{of(3, 2, 17, 14), of(3, 2, 5, 14), of(9, 2, 6, 14), of(9, 2, 6, 8), of(9, 11, 6, 5), of(9, 11, 3, 5), of(13, 11, 2, 5), of(16, 2, 4, 14)}},
		{down, -5, []api.Rect{of(3, 2, 17, 6), of(3, 2, 5, 6), of(9, 2, 6, 6), of(9, 2, 6, 3), of(9, 6, 6, 2), of(9, 6, 3, 2), of(13, 6, 2, 2), of(16, 2, 4, 6)}},
		{down, -8, []api.Rect{of(3, 2, 17, 3), of(3, 2, 5, 3), of(9, 2, 6, 3), of(9, 2, 6, 1), of(9, 4, 6, 1), of(9, 4, 3, 1), of(13, 4, 2, 1), of(16, 2, 4, 3)}},
	} {
		c, e := adjust.Adjust(mixed(), x.axis, x.by)
		if e != ok || !slices.Equal(rects(c), x.want) {
			t.Errorf("P9.1: Adjust(.., %d, %d) = %v, %d", x.axis, x.by, rects(c), e)
		}
	}
	for _, c := range cells(mixed()) {
		sameAnswers(t, c)
	}
}

// A kid gives what its own kids can, along either axis, not what it seems to have.
func TestKidsThatGiveLittle(t *testing.T) {
	tight := row(of(0, 0, 7, 3), leaf(1, of(0, 0, 1, 3)), leaf(2, of(2, 0, 1, 3)), leaf(3, of(4, 0, 3, 3)))
	stack := col(of(8, 0, 7, 3), row(of(8, 0, 7, 1), leaf(4, of(8, 0, 1, 1)), leaf(5, of(10, 0, 5, 1))), row(of(8, 2, 7, 1), leaf(6, of(8, 2, 1, 1)), leaf(7, of(10, 2, 1, 1)), leaf(8, of(12, 2, 3, 1))))
	c := row(of(0, 0, 20, 3), tight, stack, leaf(9, of(16, 0, 4, 3)))
	for by, want := range map[int][3]int{-1: {6, 7, 4}, -3: {6, 6, 3}, -5: {5, 5, 3}, -6: {5, 5, 2}, -7: {5, 5, 1}} {
		got, e := adjust.Adjust(c, across, by)
		if e != ok || [3]int{got.Kids[0].W, got.Kids[1].W, got.Kids[2].W} != want {
			t.Errorf("P9.1: Adjust by %d = %v, %d", by, got, e)
		}
	}
	for by := -10; by <= 10; by++ {
		sameAdjust(t, c, across, by)
		sameAdjust(t, c, down, by)
	}
}

func TestSpace(t *testing.T) {
	c := mixed() // at 3, 2: 17 by 11, at least 7 by 3, at most 9997 by 9998
	for _, x := range []struct {
		axis uint8
		by   int
		want api.Errno
	}{
		{across, -10, ok}, {across, -11, errSpace}, {across, -17, errSpace}, {across, -18, errSpace},
		{down, -8, ok}, {down, -9, errSpace}, {down, -11, errSpace}, {down, -12, errSpace},
		{across, 9980, ok}, {across, 9981, errSpace}, {across, 9983, errSpace}, {down, 9987, ok}, {down, 9988, errSpace}, {down, 9989, errSpace},
		{across, math.MaxInt, errSpace}, {across, math.MinInt, errSpace}, {down, math.MaxInt, errSpace}, {down, math.MinInt, errSpace},
		{across, math.MaxInt - 16, errSpace}, {down, math.MaxInt - 10, errSpace}, {across, maxExtent, errSpace}, {down, -maxExtent, errSpace},
	} {
		got, e := adjust.Adjust(c, x.axis, x.by)
		if e != x.want || e != ok && !same(got, api.Cell{}) {
			t.Errorf("P9.1: Adjust(.., %d, %d) = %v, %d, not %d", x.axis, x.by, got, e, x.want)
		}
	}
	for _, x := range []struct {
		w, h int
		want api.Errno
	}{
		{7, 3, ok}, {6, 3, errSpace}, {7, 2, errSpace}, {9997, 9998, ok}, {9998, 9998, errSpace}, {9997, 9999, errSpace},
		{17, 11, ok}, {9997, 3, ok}, {7, 9998, ok}, {0, 0, errSpace}, {-17, -11, errSpace}, {17, -1, errSpace}, {-1, 11, errSpace},
		{math.MaxInt, 11, errSpace}, {17, math.MaxInt, errSpace}, {math.MinInt, 11, errSpace}, {17, math.MinInt, errSpace},
	} {
		got, e := adjust.To(c, x.w, x.h)
		if e != x.want || e != ok && !same(got, api.Cell{}) {
			t.Errorf("P9.1: To(.., %d, %d) = %v, %d, not %d", x.w, x.h, got, e, x.want)
		}
	}
}

func TestTo(t *testing.T) {
	for _, x := range []struct {
		w, h int
		want []api.Rect
	}{
		{17, 11, rects(mixed())},
		{22, 6, []api.Rect{of(3, 2, 22, 6), of(3, 2, 7, 6), of(11, 2, 8, 6), of(11, 2, 8, 3), of(11, 6, 8, 2), of(11, 6, 4, 2), of(16, 6, 3, 2), of(20, 2, 5, 6)}},
		{10, 14, []api.Rect{of(3, 2, 10, 14), of(3, 2, 2, 14), of(6, 2, 4, 14), of(6, 2, 4, 8), of(6, 11, 4, 5), of(6, 11, 2, 5), of(9, 11, 1, 5), of(11, 2, 2, 14)}},
		{7, 3, []api.Rect{of(3, 2, 7, 3), of(3, 2, 1, 3), of(5, 2, 3, 3), of(5, 2, 3, 1), of(5, 4, 3, 1), of(5, 4, 1, 1), of(7, 4, 1, 1), of(9, 2, 1, 3)}},
	} {
		c, e := adjust.To(mixed(), x.w, x.h)
		if e != ok || !slices.Equal(rects(c), x.want) {
			t.Errorf("P9.1: To(.., %d, %d) = %v, %d", x.w, x.h, rects(c), e)
		}
	}
}

// wrongCells may not be, neither alone nor in others.
func wrongCells() []api.Cell {
	o := of(0, 0, 3, 1)
	two := []api.Cell{leaf(101, of(0, 0, 1, 1)), leaf(102, of(2, 0, 1, 1))}
	l := []api.Cell{
		{}, {Kind: 0, Rect: o}, {Kind: 0, Rect: o, Kids: two}, {Kind: 4, Rect: o, Kids: two}, {Kind: 255, Rect: o},
		leaf(-1, o), leaf(maxNum+1, o), leaf(math.MinInt, o), leaf(math.MaxInt, o),
		{Kind: leafKind, Rect: o, ID: 3, Kids: two}, row(o), col(o), row(o, leaf(101, o)), col(o, leaf(101, o)),
		row(o, two[0], leaf(101, of(2, 0, 1, 1))),
		{Kind: rowKind, Rect: o, ID: 1, Kids: two}, {Kind: colKind, Rect: o, ID: -1, Kids: two},
	}
	for _, r := range []api.Rect{
		{}, of(-1, 0, 3, 1), of(0, -1, 3, 1), of(0, 0, 0, 1), of(0, 0, 3, 0), of(0, 0, -3, 1), of(0, 0, 3, -1),
		of(0, 0, maxExtent+1, 1), of(0, 0, 1, maxExtent+1), of(maxExtent, 0, 1, 1), of(0, maxExtent, 1, 1),
		of(math.MaxInt, 0, 1, 1), of(math.MaxInt, 0, math.MaxInt, 1), of(0, math.MinInt, 1, math.MinInt), of(1, 1, math.MinInt, math.MinInt),
	} {
		l = append(l, leaf(3, r), row(r, two...), col(r, two...), row(o, two[0], leaf(3, r)))
	}
	return l
}

// refused asks that a tree is refused for itself, whatever else is asked of it.
func refused(t *testing.T, c api.Cell) {
	t.Helper()
	for _, by := range []int{math.MinInt, -1, 0, 1, maxExtent, math.MaxInt} {
		for _, axis := range []uint8{0, across, down, 3} {
			if got, e := adjust.Adjust(c, axis, by); e != errArg || !same(got, api.Cell{}) {
				t.Errorf("P9.1: Adjust(%v, %d, %d) = %v, %d", c, axis, by, got, e)
			}
		}
		if got, e := adjust.To(c, by, 1); e != errArg || !same(got, api.Cell{}) {
			t.Errorf("P9.1: To(%v, %d, 1) = %v, %d", c, by, got, e)
		}
		if got, e := adjust.To(c, 9, by); e != errArg || !same(got, api.Cell{}) {
			t.Errorf("P9.1: To(%v, 9, %d) = %v, %d", c, by, got, e)
		}
	}
}

func TestTreesThatMayNotBe(t *testing.T) {
	for _, wrong := range wrongCells() {
		refused(t, wrong)
		for number := 1; number < len(cells(mixed())); number++ {
			c := mixed()
			*place(&c, number) = wrong
			refused(t, c)
		}
	}
}

func TestTreesThatDontTile(t *testing.T) {
	for number := 1; number < len(cells(mixed())); number++ {
		for _, change := range []func(c *api.Cell){func(c *api.Cell) { c.X++ }, func(c *api.Cell) { c.Y-- }, func(c *api.Cell) { c.W-- }, func(c *api.Cell) { c.H++ }} {
			c := mixed()
			change(place(&c, number))
			refused(t, c)
		}
	}
}

// There are two axes; that there is none is told ahead of that there is no space.
func TestNoSuchAxis(t *testing.T) {
	for n := range 256 {
		if uint8(n) == across || uint8(n) == down {
			continue
		}
		for _, by := range []int{math.MinInt, -1, 0, 1, math.MaxInt} {
			if got, e := adjust.Adjust(mixed(), uint8(n), by); e != errArg || !same(got, api.Cell{}) {
				t.Errorf("P9.1: Adjust(.., %d, %d) = %v, %d", n, by, got, e)
			}
		}
	}
}

// tilings does something with all trees that tile a rectangle, at most so deep; IDs are all 0.
func tilings(r api.Rect, deep int, do func(c api.Cell)) {
	do(leaf(0, r))
	if deep == 1 {
		return
	}
	for _, kind := range []uint8{rowKind, colKind} {
		kidLists(r, kind, deep-1, nil, func(kids []api.Cell) {
			if len(kids) > 1 {
				do(clone(api.Cell{Kind: kind, Rect: r, Kids: kids}))
			}
		})
	}
}

// kidLists does something with all lists of kids that fill a rectangle, in a row or a column.
func kidLists(r api.Rect, kind uint8, deep int, kids []api.Cell, do func(kids []api.Cell)) {
	size := r.W
	if kind == colKind {
		size = r.H
	}
	for n := 1; n <= size; n++ {
		head, rest := of(r.X, r.Y, n, r.H), of(r.X+n+1, r.Y, r.W-n-1, r.H)
		if kind == colKind {
			head, rest = of(r.X, r.Y, r.W, n), of(r.X, r.Y+n+1, r.W, r.H-n-1)
		}
		tilings(head, deep, func(kid api.Cell) {
			if n == size {
				do(append(kids, kid))
			} else {
				kidLists(rest, kind, deep, append(kids, kid), do)
			}
		})
	}
}

// number gives the leaves of a tree IDs, one behind the other.
func number(c *api.Cell, from int) int {
	if c.Kind == leafKind {
		c.ID = from
		return from + 1
	}
	for k := range c.Kids {
		from = number(&c.Kids[k], from)
	}
	return from
}

func TestEverySmallTiling(t *testing.T) {
	trees := 0
	for _, r := range []api.Rect{of(2, 1, 1, 1), of(0, 0, 3, 1), of(1, 1, 3, 3), of(1, 2, 4, 3), of(1, 2, 3, 5), of(0, 1, 1, 7), of(3, 0, 9, 1), of(3, 0, 5, 3), of(1, 1, 5, 5), of(2, 0, 7, 4)} {
		tilings(r, 3, func(c api.Cell) {
			trees++
			number(&c, 0)
			for by := -8; by <= 4; by++ {
				sameAdjust(t, c, across, by)
				sameAdjust(t, c, down, by)
				sameTo(t, c, c.W+by, c.H-by)
			}
		})
	}
	if trees < 1000 {
		t.Errorf("only %d trees tiled", trees)
	}
}

// randomTree is a tree that tiles a rectangle.
func randomTree(g *rand.Rand, r api.Rect, deep int) api.Cell {
	kind, size := rowKind, r.W
	if g.Intn(2) > 0 {
		kind, size = colKind, r.H
	}
	if deep == 0 || size < 3 || g.Intn(6) == 0 {
		return leaf(0, r)
	}
	c := api.Cell{Kind: kind, Rect: r}
	from := 0
	for from < size {
		n := 1 + g.Intn(size-from)
		if from == 0 {
			n = 1 + g.Intn(size-2)
		}
		if n == size-from-1 {
			n++ // behind it there is space for a line, but for none of its kids
		}
		part := of(r.X+from, r.Y, n, r.H)
		if kind == colKind {
			part = of(r.X, r.Y+from, r.W, n)
		}
		c.Kids = append(c.Kids, randomTree(g, part, deep-1))
		from += n + 1
	}
	if len(c.Kids) < 2 {
		return leaf(0, r)
	}
	return c
}

// disturb changes one number of a tree.
func disturb(g *rand.Rand, c *api.Cell) {
	spot := place(c, g.Intn(len(cells(*c))))
	*[]*int{&spot.X, &spot.Y, &spot.W, &spot.H, &spot.ID}[g.Intn(5)] += g.Intn(7) - 3
}

func TestManyTrees(t *testing.T) {
	g := rand.New(rand.NewSource(99))
	most, shrunk := 0, 0
	for range 200 {
		c := randomTree(g, of(g.Intn(30), g.Intn(30), 1+g.Intn(60), 1+g.Intn(40)), 1+g.Intn(9))
		number(&c, g.Intn(1000))
		if !plainTiles(c) {
			t.Fatalf("%v doesn't tile", c)
		}
		sameAnswers(t, c)
		for range 10 {
			sameAdjust(t, c, across, g.Intn(2*c.W)-c.W)
			sameAdjust(t, c, down, g.Intn(2*c.H)-c.H)
			sameTo(t, c, g.Intn(2*c.W), g.Intn(2*c.H))
		}
		other := clone(c)
		disturb(g, &other)
		sameAdjust(t, other, across, g.Intn(20)-10)
		sameTo(t, other, g.Intn(70), g.Intn(50))
		sameSet(t, other, g.Intn(99)-50, g.Intn(99)-50)
		most = max(most, len(cells(c)))
		if len(c.Kids) > 0 && plainLeast(c, across) < c.W-1 && plainLeast(c, down) < c.H-1 {
			shrunk++
		}
	}
	if most < 50 || shrunk < 50 {
		t.Errorf("the greatest tree had %d cells, %d could shrink along both axes", most, shrunk)
	}
}

// What is adjusted again and again stays a tree that tiles, with the same leaves.
func TestAgainAndAgain(t *testing.T) {
	g := rand.New(rand.NewSource(9))
	for range 30 {
		c := randomTree(g, of(g.Intn(9), g.Intn(9), 40+g.Intn(40), 20+g.Intn(40)), 5)
		number(&c, 0)
		for range 60 {
			axis := 1 + uint8(g.Intn(2))
			by := g.Intn(21) - 10
			sameAdjust(t, c, axis, by)
			if next, e := adjust.Adjust(c, axis, by); e == ok {
				c = next
			}
		}
	}
}

// wide is a row of so many leaves, each 1 wide, in the first line.
func wide(n int) api.Cell {
	c := row(of(0, 0, 2*n-1, 1))
	for k := range n {
		c.Kids = append(c.Kids, leaf(k, of(2*k, 0, 1, 1)))
	}
	return c
}

func TestMostKids(t *testing.T) {
	c := wide(5000)
	for _, axis := range []uint8{across, down} {
		if _, e := adjust.Adjust(c, axis, -1); e != errSpace {
			t.Errorf("P9.1: there is nothing to give along %d: %d", axis, e)
		}
	}
	sameAdjust(t, c, across, 1)
	sameAdjust(t, c, across, 2)
	sameAdjust(t, c, down, maxExtent-1)
	sameAdjust(t, c, down, maxExtent)
	c = wide(2000)
	sameTo(t, c, maxExtent, maxExtent)
	great, _ := adjust.To(c, maxExtent, maxExtent)
	sameTo(t, great, 3999, 1)
	if back, e := adjust.To(great, 3999, 1); e != ok || !same(back, c) {
		t.Errorf("P9.1: there and back, to the least size, is another tree: %d", e)
	}
}

// stair is as deep as a tree that tiles can be: each row has a leaf 1 wide and a column, each column
// a leaf 1 high and a row.
func stair() api.Cell {
	c := leaf(0, of(maxExtent-2, maxExtent-2, 2, 2))
	for id := 1; c.X >= 2; id += 2 {
		x, y, size := c.X, c.Y, c.W
		c = row(of(x-2, y, size+2, size), leaf(id, of(x-2, y, 1, size)), c)
		c = col(of(x-2, y-2, size+2, size+2), leaf(id+1, of(x-2, y-2, size+2, 1)), c)
	}
	return c
}

func TestDeepestThatTiles(t *testing.T) {
	c := stair()
	small, e := adjust.To(c, maxExtent-1, maxExtent-1)
	if e != ok {
		t.Fatalf("P9.1: a stair can't shrink: %d", e)
	}
	keeps(t, c, small, of(0, 0, maxExtent-1, maxExtent-1))
	low, e := adjust.Adjust(c, down, -1)
	if e != ok {
		t.Fatalf("P9.1: a stair can't be lower: %d", e)
	}
	keeps(t, c, low, of(0, 0, maxExtent, maxExtent-1), across)
	for _, axis := range []uint8{across, down} {
		if _, e := adjust.Adjust(c, axis, -2); e != errSpace {
			t.Errorf("P9.1: a stair gives 2 along %d: %d", axis, e)
		}
		if _, e := adjust.Adjust(c, axis, 1); e != errSpace {
			t.Errorf("P9.1: a stair gets 1 along %d: %d", axis, e)
		}
	}
	// Who grows by 1 hands it to his first kid: the leaf 1 wide, in the outermost row.
	again, e := adjust.Adjust(small, across, 1)
	if e != ok || again.Kids[0].W != maxExtent || again.Kids[1].Kids[0].W != 2 {
		t.Errorf("P9.1: a stair grows: %d", e)
	}
	keeps(t, small, again, of(0, 0, maxExtent, maxExtent-1), down)
}

// As deep as the document bounds it, or beyond all counting: what may not be is refused in time.
func TestEnds(t *testing.T) {
	o := of(0, 0, 3, 1)
	deep := leaf(7, o)
	for range maxNested - 1 {
		deep = row(o, leaf(1, o), deep)
	}
	many := leaf(1, o)
	for range 200 {
		many = row(o, many, many)
	}
	round := make([]api.Cell, 2)
	round[0], round[1] = row(o, round...), row(o, round...)
	for _, c := range []api.Cell{deep, many, round[0]} {
		if got, e := adjust.Adjust(c, across, 1); e != errArg || !same(got, api.Cell{}) {
			t.Errorf("P9.1: what may not be is adjusted: %d", e)
		}
		if got, e := adjust.To(c, 9, 9); e != errArg || !same(got, api.Cell{}) {
			t.Errorf("P9.1: what may not be has a size: %d", e)
		}
	}
}

// What a leaf's kids are called plays no part: none are none.
func TestNilAndEmpty(t *testing.T) {
	c := mixed()
	for _, number := range []int{1, 3, 5, 6, 7} {
		place(&c, number).Kids = []api.Cell{}
	}
	sameAnswers(t, c)
	sameSet(t, c, 5, 5)
	if l, is := adjust.Shares(1, []int{}...); is || len(l) > 0 {
		t.Errorf("P0.5: no kids have shares: %v", l)
	}
}

// roomy is the tree with room behind each list of kids, filled with something that is none of them.
func roomy(c api.Cell) api.Cell {
	kids := make([]api.Cell, 0, len(c.Kids)+2)
	for _, kid := range c.Kids {
		kids = append(kids, roomy(kid))
	}
	copy(kids[len(kids):cap(kids)], []api.Cell{leaf(-77, c.Rect), leaf(-78, c.Rect)})
	c.Kids = kids
	return c
}

// untouched tells whether the room that roomy made is as it was, in the whole tree.
func untouched(c api.Cell) bool {
	room := c.Kids[len(c.Kids):cap(c.Kids)]
	return len(room) == 2 && same(room[0], leaf(-77, c.Rect)) && same(room[1], leaf(-78, c.Rect)) &&
		!slices.ContainsFunc(c.Kids, func(kid api.Cell) bool { return !untouched(kid) })
}

// overwrite writes into all memory that a tree has, the room behind its lists, too.
func overwrite(c api.Cell) {
	for _, kid := range c.Kids {
		overwrite(kid)
	}
	clear(c.Kids[:cap(c.Kids)])
}

// answers are trees that were made of one, each by another way; where nothing changes, too.
func answers(c api.Cell) []api.Cell {
	l := []api.Cell{adjust.Set(c, c.X, c.Y), adjust.Set(c, 50, 60)}
	for _, by := range []int{0, 3, -3} {
		a, _ := adjust.Adjust(c, across, by)
		b, _ := adjust.Adjust(c, down, by)
		d, _ := adjust.To(c, c.W+by, c.H+by)
		l = append(l, a, b, d)
	}
	return l
}

// What is handed in isn't changed, nor is the room behind its end, nor by who writes into an answer.
func TestNothingIsChanged(t *testing.T) {
	c := roomy(mixed())
	first, second := answers(c), answers(c)
	if !same(c, mixed()) || !untouched(c) {
		t.Errorf("P0.4: what was handed in is changed: %v", c)
	}
	var want []api.Cell
	for _, x := range second {
		want = append(want, clone(x))
	}
	for k, x := range first {
		overwrite(x)
		if !same(c, mixed()) || !untouched(c) {
			t.Fatalf("P0.4: who writes into the answer %d changes what was handed in: %v", k, c)
		}
		if !slices.EqualFunc(second, want, same) {
			t.Fatalf("P0.4: who writes into the answer %d changes another one", k)
		}
		for _, other := range first[k+1:] {
			if !slices.ContainsFunc(want, func(x api.Cell) bool { return same(x, other) }) {
				t.Fatalf("P0.4: who writes into the answer %d changes a later one", k)
			}
		}
	}
	for k, x := range answers(c) {
		if !same(x, want[k]) {
			t.Errorf("P0.6: the answer %d is another one later on: %v", k, x)
		}
	}
	overwrite(c)
	if !slices.EqualFunc(second, want, same) {
		t.Error("P0.4: an answer hangs on what was handed in")
	}
}

func TestSharesChangeNothing(t *testing.T) {
	all := []int{4, 0, 9, -5, -6}
	for _, by := range []int{-13, -6, 0, 7, 99, -99} {
		gives := all[:3]
		l, is := adjust.Shares(by, gives...)
		if !slices.Equal(all, []int{4, 0, 9, -5, -6}) {
			t.Fatalf("P0.4: Shares(%d, ..) changes what was handed in: %v", by, all)
		}
		again, _ := adjust.Shares(by, gives...)
		clear(l[:cap(l)])
		if want, should := plainShares(by, gives); is != should || !slices.Equal(again, want) || !slices.Equal(all, []int{4, 0, 9, -5, -6}) {
			t.Errorf("P0.4: who writes into what Shares(%d, ..) answers changes %v or %v", by, again, all)
		}
	}
}

func FuzzTrees(f *testing.F) {
	f.Add(int64(1), 80, 24, 4, uint8(1), 5)
	f.Add(int64(2), 5, 5, 3, uint8(2), -2)
	f.Add(int64(3), 40, 3, 6, uint8(9), math.MinInt)
	f.Fuzz(func(t *testing.T, seed int64, w, h, deep int, axis uint8, by int) {
		g := rand.New(rand.NewSource(seed))
		c := randomTree(g, of(g.Intn(9), g.Intn(9), 1+int(uint8(w)), 1+int(uint8(h))), int(uint8(deep)%8))
		number(&c, 0)
		for _, by := range []int{by, by % 300, by % 10} {
			sameAdjust(t, c, axis, by)
			sameAdjust(t, c, 1+axis%2, by)
		}
		sameTo(t, c, w, h)
		sameTo(t, c, w%300, h%300)
		disturb(g, &c)
		sameAdjust(t, c, 1+axis%2, by%10)
		sameTo(t, c, w%300, h%300)
		sameSet(t, c, w, h)
	})
}

func FuzzShares(f *testing.F) {
	f.Add(5, []byte{0, 0, 0})
	f.Add(-9, []byte{2, 5, 4})
	f.Fuzz(func(t *testing.T, by int, numbers []byte) {
		var gives []int
		for _, n := range numbers {
			gives = append(gives, int(n))
		}
		if by >= math.MinInt16 && by <= math.MaxInt16 || by > maxNum || by < -maxNum {
			sameShares(t, by, gives)
		}
		sameShares(t, by%1000, gives)
		if len(gives) > 0 {
			gives[0] -= 5
			sameShares(t, by%1000, gives)
		}
	})
}
