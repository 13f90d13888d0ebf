package preset_test

import (
	"fmt"
	"math"
	"math/rand"
	"slices"
	"strings"
	"testing"

	"sash/api"
	"sash/preset"
)

// What the document tells in numbers is written out here, not taken from api.
const (
	leafKind   = uint8(1)
	rowKind    = uint8(2)
	colKind    = uint8(3)
	evenAcross = uint8(1)
	evenDown   = uint8(2)
	mainAcross = uint8(3)
	mainDown   = uint8(4)
	tiled      = uint8(5)
	ok         = api.Errno(0)
	errArg     = api.Errno(1)
	errSpace   = api.Errno(7)
	maxNum     = 2147483647
	maxExtent  = 10000
	maxCells   = 20000
	maxPanes   = 4096
)

// kinds are the presets, and some that there aren't.
func kinds() []uint8 { return []uint8{0, 1, 2, 3, 4, 5, 6, 7, 128, 254, 255} }

func of(x, y, w, h int) api.Rect { return api.Rect{X: x, Y: y, W: w, H: h} }

func leaf(id int, r api.Rect) api.Cell { return api.Cell{Kind: leafKind, Rect: r, ID: id} }

func row(r api.Rect, kids ...api.Cell) api.Cell {
	return api.Cell{Kind: rowKind, Rect: r, Kids: kids}
}

func col(r api.Rect, kids ...api.Cell) api.Cell {
	return api.Cell{Kind: colKind, Rect: r, Kids: kids}
}

// turned is the same tree with columns for lines, and lines for columns.
func turned(c api.Cell) api.Cell {
	c.X, c.Y, c.W, c.H = c.Y, c.X, c.H, c.W
	if c.Kind == rowKind || c.Kind == colKind {
		c.Kind = rowKind + colKind - c.Kind
	}
	c.Kids = slices.Clone(c.Kids)
	for k := range c.Kids {
		c.Kids[k] = turned(c.Kids[k])
	}
	return c
}

// cells are all cells of a tree, each ahead of its kids: where one stands in the list is its number.
func cells(c api.Cell) []api.Cell {
	var l []api.Cell
	stack := []api.Cell{c}
	for len(stack) > 0 {
		c := stack[len(stack)-1]
		stack = stack[:len(stack)-1]
		l = append(l, c)
		for k := len(c.Kids) - 1; k >= 0; k-- {
			stack = append(stack, c.Kids[k])
		}
	}
	return l
}

// idsOf are the IDs of a tree's leaves, in order.
func idsOf(c api.Cell) []int {
	var ids []int
	for _, c := range cells(c) {
		if c.Kind == leafKind {
			ids = append(ids, c.ID)
		}
	}
	return ids
}

// clone is the same tree in memory of its own.
func clone(c api.Cell) api.Cell {
	c.Kids = slices.Clone(c.Kids)
	for k := range c.Kids {
		c.Kids[k] = clone(c.Kids[k])
	}
	return c
}

func same(a, b api.Cell) bool {
	return a.Kind == b.Kind && a.Rect == b.Rect && a.ID == b.ID && slices.EqualFunc(a.Kids, b.Kids, same)
}

func plainMay(c api.Cell) bool {
	far := func(from, size int) bool {
		return from >= 0 && from <= maxExtent && size >= 1 && size <= maxExtent && from+size <= maxExtent
	}
	met := map[int]bool{}
	l := cells(c)
	for _, c := range l {
		isLeaf := c.Kind == leafKind && len(c.Kids) == 0 && c.ID >= 0 && c.ID <= maxNum && !met[c.ID]
		isGroup := (c.Kind == rowKind || c.Kind == colKind) && c.ID == 0 && len(c.Kids) >= 2
		if !isLeaf && !isGroup || !far(c.X, c.W) || !far(c.Y, c.H) {
			return false
		}
		if isLeaf {
			met[c.ID] = true
		}
	}
	return len(l) <= maxCells
}

// plainFilled tells whether a cell that may be has kids that stand side by side, with one column
// (line) between them, from its beginning to its end.
func plainFilled(c api.Cell) bool {
	if c.Kind == leafKind {
		return true
	}
	x, y := c.X, c.Y
	for _, kid := range c.Kids {
		if kid.X != x || kid.Y != y {
			return false
		}
		if c.Kind == rowKind && kid.H == c.H {
			x += kid.W + 1
		} else if c.Kind == colKind && kid.W == c.W {
			y += kid.H + 1
		} else {
			return false
		}
	}
	if c.Kind == rowKind {
		return x == c.X+c.W+1
	}
	return y == c.Y+c.H+1
}

func plainTiles(c api.Cell) bool {
	return plainMay(c) && !slices.ContainsFunc(cells(c), func(c api.Cell) bool { return !plainFilled(c) })
}

// plainSizes are even sizes: the columns that are left besides the lines are dealt out, from the
// first kid on, round by round.
func plainSizes(s, n int) ([]int, bool) {
	if n < 1 || n > maxCells || s > maxNum || s < 0 || s < n+n-1 {
		return nil, false
	}
	var sizes []int
	for k := range n {
		sizes = append(sizes, (s-(n-1)-k+n-1)/n)
	}
	return sizes, true
}

// text is a tree as tmux writes it, without its sum: what is expected can so be written in a line.
func text(c api.Cell) string {
	s := fmt.Sprintf("%dx%d,%d,%d", c.W, c.H, c.X, c.Y)
	var kids []string
	for _, kid := range c.Kids {
		kids = append(kids, text(kid))
	}
	switch c.Kind {
	case leafKind:
		return fmt.Sprint(s, ",", c.ID)
	case rowKind:
		return s + "{" + strings.Join(kids, ",") + "}"
	case colKind:
		return s + "[" + strings.Join(kids, ",") + "]"
	}
	return fmt.Sprint(s, " of no kind, ", c.ID, kids)
}

// short is a tree for a message: a great one isn't told whole.
func short(c api.Cell) string {
	s := text(c)
	return s[:min(len(s), 300)]
}

// upTo are the IDs from 0 on, as many as are asked for.
func upTo(n int) []int {
	var ids []int
	for id := 0; id < n; id++ {
		ids = append(ids, id)
	}
	return ids
}

// plainRow is a row of even widths, or a leaf.
func plainRow(r api.Rect, ids []int) (api.Cell, bool) {
	if len(ids) == 1 {
		return leaf(ids[0], r), true
	}
	sizes, is := plainSizes(r.W, len(ids))
	c := row(r)
	x := r.X
	for k, w := range sizes {
		c.Kids = append(c.Kids, leaf(ids[k], of(x, r.Y, w, r.H)))
		x += w + 1
	}
	return c, is
}

// plainMain is the first pane above a row of the others.
func plainMain(r api.Rect, main int, ids []int) (api.Cell, bool) {
	if len(ids) == 1 {
		return leaf(ids[0], r), true
	}
	if r.H < 3 {
		return api.Cell{}, false
	}
	for main < 1 || main > r.H-2 {
		if main < 1 {
			main = 1
		} else {
			main = r.H - 2
		}
	}
	others, is := plainRow(of(r.X, r.Y+main+1, r.W, r.H-main-1), ids[1:])
	return col(r, leaf(ids[0], of(r.X, r.Y, r.W, main)), others), is
}

// plainGrid lets rows and columns become more, one by one, in turns.
func plainGrid(n int) (int, int) {
	if n < 1 || n > maxPanes {
		return 0, 0
	}
	rows, columns := 1, 1
	for more := 0; rows*columns < n; more++ {
		if more%2 == 0 {
			rows++
		} else {
			columns++
		}
	}
	return rows, columns
}

// plainTiled fills the places row by row.
func plainTiled(r api.Rect, ids []int) (api.Cell, bool) {
	_, columns := plainGrid(len(ids))
	var lists [][]int
	for place, id := range ids {
		if place%columns == 0 {
			lists = append(lists, nil)
		}
		lists[len(lists)-1] = append(lists[len(lists)-1], id)
	}
	if len(lists) == 1 {
		return plainRow(r, ids)
	}
	sizes, is := plainSizes(r.H, len(lists))
	if !is {
		return api.Cell{}, false
	}
	c := col(r)
	y := r.Y
	for k, h := range sizes {
		kid, is := plainRow(of(r.X, y, r.W, h), lists[k])
		if !is {
			return api.Cell{}, false
		}
		c.Kids = append(c.Kids, kid)
		y += h + 1
	}
	return c, true
}

// plainIDs tells whether these are as many as may be, each from 0 on, none twice.
func plainIDs(ids []int) bool {
	if len(ids) == 0 || len(ids) > maxPanes {
		return false
	}
	sorted := slices.Clone(ids)
	slices.Sort(sorted)
	for k, id := range sorted {
		if id < 0 || id > maxNum || k > 0 && sorted[k-1] == id {
			return false
		}
	}
	return true
}

func plainMake(kind uint8, w, h, main int, ids []int) (api.Cell, api.Errno) {
	if w < 1 || w > maxExtent || h < 1 || h > maxExtent || !plainIDs(ids) {
		return api.Cell{}, errArg
	}
	var c api.Cell
	is := false
	switch kind {
	case evenAcross:
		c, is = plainRow(of(0, 0, w, h), ids)
	case evenDown:
		c, is = plainRow(of(0, 0, h, w), ids)
		c = turned(c)
	case mainAcross:
		c, is = plainMain(of(0, 0, w, h), main, ids)
	case mainDown:
		c, is = plainMain(of(0, 0, h, w), main, ids)
		c = turned(c)
	case tiled:
		c, is = plainTiled(of(0, 0, w, h), ids)
	default:
		return api.Cell{}, errArg
	}
	if !is {
		return api.Cell{}, errSpace
	}
	return c, ok
}

// tells is what is asked for, for a message.
func tells(kind uint8, w, h, main int, ids []int) string {
	return fmt.Sprintf("Make(%d, %d, %d, %d, %d of %v)", kind, w, h, main, len(ids), ids[:min(len(ids), 20)])
}

// sameMake holds one layout against the plain reading, and against the second promise.
func sameMake(t *testing.T, kind uint8, w, h, main int, ids ...int) {
	t.Helper()
	got, e := preset.Make(kind, w, h, main, ids...)
	want, should := plainMake(kind, w, h, main, ids)
	if e != should || !same(got, want) {
		t.Fatalf("P17.1: %s = %s, %d, not %s, %d", tells(kind, w, h, main, ids), short(got), e, short(want), should)
	}
	if e != ok && !same(got, api.Cell{}) {
		t.Fatalf("P0.2: %s = %s, %d", tells(kind, w, h, main, ids), short(got), e)
	}
	if e == ok && (!plainTiles(got) || got.Rect != of(0, 0, w, h) || !slices.Equal(idsOf(got), ids)) {
		t.Fatalf("P17.2: %s = %s", tells(kind, w, h, main, ids), short(got))
	}
}

// sameFits holds what fits against what is made: whatever is asked for the main pane, it is the same.
func sameFits(t *testing.T, kind uint8, w, h, n int) {
	t.Helper()
	got := preset.Fits(kind, w, h, n)
	for _, main := range []int{0, 7, math.MaxInt} {
		want := false
		if n <= maxPanes+1 {
			_, e := plainMake(kind, w, h, main, upTo(n))
			want = e == ok
		}
		if got != want {
			t.Fatalf("P17.1: Fits(%d, %d, %d, %d) = %v", kind, w, h, n, got)
		}
	}
}

func makes(t *testing.T, kind uint8, w, h, main int, ids []int, want string) {
	t.Helper()
	if got, e := preset.Make(kind, w, h, main, ids...); e != ok || text(got) != want {
		t.Errorf("P17.1: %s = %s, %d, not %s", tells(kind, w, h, main, ids), short(got), e, want)
	}
	sameMake(t, kind, w, h, main, ids...)
}

func refuses(t *testing.T, want api.Errno, kind uint8, w, h, main int, ids ...int) {
	t.Helper()
	if got, e := preset.Make(kind, w, h, main, ids...); e != want || !same(got, api.Cell{}) {
		t.Errorf("P17.1: %s = %s, %d, not %d", tells(kind, w, h, main, ids), short(got), e, want)
	}
}

// Tiled for 5 panes: 3 rows and 2 columns; the last row has one pane.
func TestExample(t *testing.T) {
	if rows, columns := preset.Grid(5); rows != 3 || columns != 2 {
		t.Errorf("P17.1: Grid(5) = %d, %d", rows, columns)
	}
	makes(t, tiled, 80, 24, 0, upTo(5), "80x24,0,0[80x8,0,0{40x8,0,0,0,39x8,41,0,1},80x7,0,9{40x7,0,9,2,39x7,41,9,3},80x7,0,17,4]")
}

// What the first ones have more stands at the beginning; the order of the IDs is the panes' one.
func TestEven(t *testing.T) {
	for _, x := range []struct {
		kind uint8
		w, h int
		ids  []int
		want string
	}{
		{evenAcross, 80, 24, []int{4, 7}, "80x24,0,0{40x24,0,0,4,39x24,41,0,7}"}, {evenAcross, 80, 24, []int{7, 4}, "80x24,0,0{40x24,0,0,7,39x24,41,0,4}"},
		{evenAcross, 81, 24, []int{4, 7}, "81x24,0,0{40x24,0,0,4,40x24,41,0,7}"}, {evenAcross, 82, 3, []int{9, 0, 5}, "82x3,0,0{27x3,0,0,9,27x3,28,0,0,26x3,56,0,5}"},
		{evenAcross, 3, 1, []int{maxNum, 0}, "3x1,0,0{1x1,0,0,2147483647,1x1,2,0,0}"}, {evenAcross, 8, 2, []int{1, 2, 3, 4}, "8x2,0,0{2x2,0,0,1,1x2,3,0,2,1x2,5,0,3,1x2,7,0,4}"},
		{evenDown, 80, 24, []int{4, 7}, "80x24,0,0[80x12,0,0,4,80x11,0,13,7]"}, {evenDown, 80, 25, []int{4, 7}, "80x25,0,0[80x12,0,0,4,80x12,0,13,7]"},
		{evenDown, 3, 82, []int{9, 0, 5}, "3x82,0,0[3x27,0,0,9,3x27,0,28,0,3x26,0,56,5]"}, {evenDown, 1, 3, []int{1, 0}, "1x3,0,0[1x1,0,0,1,1x1,0,2,0]"},
	} {
		makes(t, x.kind, x.w, x.h, 0, x.ids, x.want)
		makes(t, x.kind, x.w, x.h, 99, x.ids, x.want)
		makes(t, x.kind, x.w, x.h, -99, x.ids, x.want)
	}
}

// The first pane is as great as main asks, but has 1 at least, and leaves 1, and the line, to the others.
func TestMain(t *testing.T) {
	for _, x := range []struct {
		kind       uint8
		w, h, main int
		ids        []int
		want       string
	}{
		{mainAcross, 80, 24, 15, []int{4, 7}, "80x24,0,0[80x15,0,0,4,80x8,0,16,7]"}, {mainAcross, 80, 24, 15, []int{7, 4, 0}, "80x24,0,0[80x15,0,0,7,80x8,0,16{40x8,0,16,4,39x8,41,16,0}]"},
		{mainAcross, 80, 24, 22, []int{4, 7}, "80x24,0,0[80x22,0,0,4,80x1,0,23,7]"}, {mainAcross, 80, 24, 21, []int{4, 7}, "80x24,0,0[80x21,0,0,4,80x2,0,22,7]"}, {mainAcross, 80, 24, 23, []int{4, 7}, "80x24,0,0[80x22,0,0,4,80x1,0,23,7]"},
		{mainAcross, 80, 24, math.MaxInt, []int{4, 7}, "80x24,0,0[80x22,0,0,4,80x1,0,23,7]"}, {mainAcross, 80, 24, 1, []int{4, 7}, "80x24,0,0[80x1,0,0,4,80x22,0,2,7]"}, {mainAcross, 80, 24, 0, []int{4, 7}, "80x24,0,0[80x1,0,0,4,80x22,0,2,7]"},
		{mainAcross, 80, 24, -1, []int{4, 7}, "80x24,0,0[80x1,0,0,4,80x22,0,2,7]"}, {mainAcross, 80, 24, math.MinInt, []int{4, 7}, "80x24,0,0[80x1,0,0,4,80x22,0,2,7]"}, {mainAcross, 80, 24, 2, []int{4, 7}, "80x24,0,0[80x2,0,0,4,80x21,0,3,7]"},
		{mainAcross, 1, 3, 9, []int{4, 7}, "1x3,0,0[1x1,0,0,4,1x1,0,2,7]"}, {mainAcross, 5, 3, 9, []int{3, 2, 1, 0}, "5x3,0,0[5x1,0,0,3,5x1,0,2{1x1,0,2,2,1x1,2,2,1,1x1,4,2,0}]"},
		{mainDown, 80, 24, 15, []int{4, 7}, "80x24,0,0{15x24,0,0,4,64x24,16,0,7}"}, {mainDown, 80, 24, 60, []int{7, 4, 0}, "80x24,0,0{60x24,0,0,7,19x24,61,0[19x12,61,0,4,19x11,61,13,0]}"},
		{mainDown, 80, 24, 78, []int{4, 7}, "80x24,0,0{78x24,0,0,4,1x24,79,0,7}"}, {mainDown, 80, 24, 79, []int{4, 7}, "80x24,0,0{78x24,0,0,4,1x24,79,0,7}"}, {mainDown, 80, 24, -3, []int{4, 7}, "80x24,0,0{1x24,0,0,4,78x24,2,0,7}"},
		{mainDown, 3, 1, 9, []int{4, 7}, "3x1,0,0{1x1,0,0,4,1x1,2,0,7}"}, {mainDown, 3, 5, 9, []int{3, 2, 1, 0}, "3x5,0,0{1x5,0,0,3,1x5,2,0[1x1,2,0,2,1x1,2,2,1,1x1,2,4,0]}"},
	} {
		makes(t, x.kind, x.w, x.h, x.main, x.ids, x.want)
	}
}

func TestTiled(t *testing.T) {
	for _, x := range []struct {
		w, h, n int
		want    string
	}{
		{80, 24, 2, "80x24,0,0[80x12,0,0,0,80x11,0,13,1]"}, {80, 24, 3, "80x24,0,0[80x12,0,0{40x12,0,0,0,39x12,41,0,1},80x11,0,13,2]"},
		{80, 24, 4, "80x24,0,0[80x12,0,0{40x12,0,0,0,39x12,41,0,1},80x11,0,13{40x11,0,13,2,39x11,41,13,3}]"},
		{80, 24, 6, "80x24,0,0[80x8,0,0{40x8,0,0,0,39x8,41,0,1},80x7,0,9{40x7,0,9,2,39x7,41,9,3},80x7,0,17{40x7,0,17,4,39x7,41,17,5}]"},
		{5, 5, 7, "5x5,0,0[5x1,0,0{1x1,0,0,0,1x1,2,0,1,1x1,4,0,2},5x1,0,2{1x1,0,2,3,1x1,2,2,4,1x1,4,2,5},5x1,0,4,6]"},
		{6, 5, 8, "6x5,0,0[6x1,0,0{2x1,0,0,0,1x1,3,0,1,1x1,5,0,2},6x1,0,2{2x1,0,2,3,1x1,3,2,4,1x1,5,2,5},6x1,0,4{3x1,0,4,6,2x1,4,4,7}]"},
		{5, 7, 10, "5x7,0,0[5x1,0,0{1x1,0,0,0,1x1,2,0,1,1x1,4,0,2},5x1,0,2{1x1,0,2,3,1x1,2,2,4,1x1,4,2,5},5x1,0,4{1x1,0,4,6,1x1,2,4,7,1x1,4,4,8},5x1,0,6,9]"},
		{1, 3, 2, "1x3,0,0[1x1,0,0,0,1x1,0,2,1]"},
	} {
		makes(t, tiled, x.w, x.h, 0, upTo(x.n), x.want)
		makes(t, tiled, x.w, x.h, -5, upTo(x.n), x.want)
		makes(t, tiled, x.w, x.h, math.MaxInt, upTo(x.n), x.want)
	}
	makes(t, tiled, 80, 24, 0, []int{9, 3, 7}, "80x24,0,0[80x12,0,0{40x12,0,0,9,39x12,41,0,3},80x11,0,13,7]")
}

// Of one pane each preset is a leaf: no size is needed for it but the window's own.
func TestOnePane(t *testing.T) {
	for kind := evenAcross; kind <= tiled; kind++ {
		for _, main := range []int{0, 1, 9, -9, math.MinInt, math.MaxInt} {
			makes(t, kind, 80, 24, main, []int{4}, "80x24,0,0,4")
			makes(t, kind, 1, 1, main, []int{0}, "1x1,0,0,0")
			makes(t, kind, 2, 1, main, []int{maxNum}, "2x1,0,0,2147483647")
			makes(t, kind, 1, maxExtent, main, []int{7}, "1x10000,0,0,7")
			makes(t, kind, maxExtent, 2, main, []int{7}, "10000x2,0,0,7")
		}
	}
}

func TestGrid(t *testing.T) {
	for _, x := range []struct{ n, rows, columns int }{
		{1, 1, 1}, {2, 2, 1}, {3, 2, 2}, {4, 2, 2}, {5, 3, 2}, {6, 3, 2}, {7, 3, 3}, {9, 3, 3}, {10, 4, 3}, {12, 4, 3}, {13, 4, 4}, {16, 4, 4}, {17, 5, 4}, {20, 5, 4}, {21, 5, 5},
		{3969, 63, 63}, {3970, 64, 63}, {4032, 64, 63}, {4033, 64, 64}, {4095, 64, 64}, {4096, 64, 64},
		{0, 0, 0}, {-1, 0, 0}, {-4096, 0, 0}, {4097, 0, 0}, {maxNum, 0, 0}, {math.MinInt, 0, 0}, {math.MaxInt, 0, 0}, {1 << 32, 0, 0},
	} {
		if rows, columns := preset.Grid(x.n); rows != x.rows || columns != x.columns {
			t.Errorf("P17.1: Grid(%d) = %d, %d, not %d, %d", x.n, rows, columns, x.rows, x.columns)
		}
	}
	for n := -5; n < maxPanes+5; n++ {
		rows, columns := preset.Grid(n)
		if r, c := plainGrid(n); rows != r || columns != c {
			t.Fatalf("P17.1: Grid(%d) = %d, %d, not %d, %d", n, rows, columns, r, c)
		}
	}
}

// Each name is that of the preset in its place, and no other text is one.
func TestNames(t *testing.T) {
	want := []string{"even-horizontal", "even-vertical", "main-horizontal", "main-vertical", "tiled"}
	if got := preset.Names(); !slices.Equal(got, want) {
		t.Errorf("P17.1: Names() = %v", got)
	}
	for k, name := range want {
		if got := preset.Named(name); got != uint8(k+1) {
			t.Errorf("P17.1: Named(%q) = %d", name, got)
		}
		for _, other := range []string{strings.ToUpper(name), strings.ToUpper(name[:1]) + name[1:], name + " ", " " + name, name + "\x00", name[1:], name[:len(name)-1], name + name, name + "\n", name + "é", name[:1]} {
			if got := preset.Named(other); got != 0 {
				t.Errorf("P17.1: Named(%q) = %d", other, got)
			}
		}
	}
	for _, other := range []string{"", " ", "0", "1", "5", "even", "main", "even-across", "main-down", "horizontal", "even_horizontal", "evenhorizontal", "main-horizontal-mirrored", "\xff", "tiled,tiled", strings.Repeat("tiled", 1000)} {
		if got := preset.Named(other); got != 0 {
			t.Errorf("P17.1: Named(%q) = %d", other[:min(len(other), 30)], got)
		}
	}
}

// Each list of names is new: who writes into one changes no other.
func TestNamesAreNew(t *testing.T) {
	first, second := preset.Names(), preset.Names()
	want := slices.Clone(second)
	for k := range first[:cap(first)] {
		first[:cap(first)][k] = "other"
	}
	if third := preset.Names(); !slices.Equal(second, want) || !slices.Equal(third, want) || preset.Named("other") != 0 || preset.Named("tiled") != tiled {
		t.Errorf("P0.4: Names are %v, %v", second, third)
	}
}

// What may not be is told ahead of what has no space.
func TestErrors(t *testing.T) {
	for kind := evenAcross; kind <= tiled; kind++ {
		for _, x := range []struct {
			w, h int
			ids  []int
		}{
			{0, 24, []int{1}}, {80, 0, []int{1}}, {-1, 24, []int{1}}, {80, -1, []int{1}}, {maxExtent + 1, 24, []int{1}}, {80, maxExtent + 1, []int{1}}, {math.MinInt, 24, []int{1}}, {80, math.MaxInt, []int{1}}, {math.MaxInt, math.MinInt, []int{1}},
			{0, 0, []int{1, 2, 3}}, {-5, 1, []int{1, 2, 3}}, {1, maxExtent + 1, []int{1, 2, 3}}, {1 << 32, 1, []int{1}}, {1, 1<<32 + 1, []int{1}},
			{80, 24, nil}, {80, 24, []int{}}, {1, 1, nil}, {80, 24, upTo(maxPanes + 1)}, {maxExtent, maxExtent, upTo(maxPanes + 1)}, {1, 1, upTo(maxPanes + 1)}, {80, 24, make([]int, maxPanes+1)},
			{80, 24, []int{-1}}, {80, 24, []int{maxNum + 1}}, {80, 24, []int{math.MinInt}}, {80, 24, []int{math.MaxInt}}, {80, 24, []int{1, 2, -1}}, {80, 24, []int{-1, 1, 2}}, {80, 24, []int{1, maxNum + 1, 2}}, {80, 24, []int{1, 1 << 32}},
			{80, 24, []int{1, 1}}, {80, 24, []int{0, 0}}, {80, 24, []int{0, 1, 2, 0}}, {80, 24, []int{0, 1, 2, 1}}, {80, 24, []int{1, 2, 3, 3}}, {80, 24, []int{maxNum, 5, maxNum}},
			{1, 1, []int{1, 1}}, {1, 1, []int{1, -1}}, {2, 2, []int{1, 2, maxNum + 1}}, {1, 1, []int{3, 4, 3}},
		} {
			refuses(t, errArg, kind, x.w, x.h, 5, x.ids...)
		}
	}
	for _, kind := range kinds() {
		if kind >= evenAcross && kind <= tiled {
			continue
		}
		refuses(t, errArg, kind, 80, 24, 5, 1)
		refuses(t, errArg, kind, 80, 24, 5, 1, 2, 3)
		refuses(t, errArg, kind, 1, 1, 5, 1, 2, 3)
		refuses(t, errArg, kind, 0, 0, 5)
	}
}

// Each size that is needed has an edge: there is space at it, but none ahead of it.
func TestNoSpace(t *testing.T) {
	for _, x := range []struct {
		kind    uint8
		n, w, h int
	}{
		{evenAcross, 2, 3, 1}, {evenAcross, 3, 5, 1}, {evenAcross, 10, 19, 1}, {evenAcross, maxPanes, 8191, 1},
		{evenDown, 2, 1, 3}, {evenDown, 3, 1, 5}, {evenDown, 10, 1, 19}, {evenDown, maxPanes, 1, 8191},
		{mainAcross, 2, 1, 3}, {mainAcross, 3, 3, 3}, {mainAcross, 4, 5, 3}, {mainAcross, maxPanes, 8189, 3},
		{mainDown, 2, 3, 1}, {mainDown, 3, 3, 3}, {mainDown, 4, 3, 5}, {mainDown, maxPanes, 3, 8189},
		{tiled, 2, 1, 3}, {tiled, 3, 3, 3}, {tiled, 4, 3, 3}, {tiled, 5, 3, 5}, {tiled, 6, 3, 5}, {tiled, 7, 5, 5}, {tiled, 9, 5, 5}, {tiled, 10, 5, 7}, {tiled, maxPanes, 127, 127},
	} {
		ids := upTo(x.n)
		for _, main := range []int{0, 1, 2, 50, math.MinInt, math.MaxInt} {
			if _, e := preset.Make(x.kind, x.w, x.h, main, ids...); e != ok {
				t.Errorf("P17.1: %s: %d", tells(x.kind, x.w, x.h, main, ids), e)
			}
			if x.w > 1 {
				refuses(t, errSpace, x.kind, x.w-1, x.h, main, ids...)
			}
			if x.h > 1 {
				refuses(t, errSpace, x.kind, x.w, x.h-1, main, ids...)
			}
		}
		sameMake(t, x.kind, x.w, x.h, 1, ids...)
		if !preset.Fits(x.kind, x.w, x.h, x.n) || preset.Fits(x.kind, x.w-1, x.h, x.n) || preset.Fits(x.kind, x.w, x.h-1, x.n) {
			t.Errorf("P17.1: Fits %v", x)
		}
	}
}

func TestEverySmallWindow(t *testing.T) {
	for _, kind := range kinds()[:7] {
		for w := -1; w <= 13; w++ {
			for h := -1; h <= 13; h++ {
				for n := 0; n <= 8; n++ {
					sameFits(t, kind, w, h, n)
					for main := -1; main <= 13; main++ {
						sameMake(t, kind, w, h, main, upTo(n)...)
					}
				}
			}
		}
	}
}

// mixedUp are so many IDs, none twice, in any order.
func mixedUp(g *rand.Rand, n int) []int {
	var ids []int
	from := 0
	for range n {
		from += 1 + g.Intn(9)
		ids = append(ids, from-1)
	}
	g.Shuffle(n, func(a, b int) { ids[a], ids[b] = ids[b], ids[a] })
	return ids
}

func TestManyWindows(t *testing.T) {
	g := rand.New(rand.NewSource(1717))
	full, wrong := 0, 0
	for range 6000 {
		kind := kinds()[g.Intn(7)]
		w, h, main, n := 1+g.Intn(200), 1+g.Intn(100), g.Intn(220)-10, 1+g.Intn(40)
		if g.Intn(10) == 0 {
			w, h, n = 1+g.Intn(maxExtent), 1+g.Intn(maxExtent), 1+g.Intn(400)
		}
		ids := mixedUp(g, n)
		sameMake(t, kind, w, h, main, ids...)
		sameFits(t, kind, w, h, n)
		if _, e := preset.Make(kind, w, h, main, ids...); e == errSpace {
			full++
		}
		ids[g.Intn(n)] = []int{ids[g.Intn(n)], -1, maxNum, maxNum + 1}[g.Intn(4)]
		sameMake(t, kind, w, h, main, ids...)
		if _, e := preset.Make(kind, w, h, main, ids...); e == errArg {
			wrong++
		}
	}
	if full < 100 || wrong < 1000 {
		t.Errorf("only %d times there was no space, %d times IDs were wrong", full, wrong)
	}
}

// Each number of panes is tiled, and each has the rows and columns that its grid tells.
func TestEveryNumberOfPanes(t *testing.T) {
	for n := 1; n <= maxPanes; n += 1 + n/300 {
		sameMake(t, tiled, 300, 200, 0, upTo(n)...)
		rows, columns := preset.Grid(n)
		c, e := preset.Make(tiled, 127, 127, 0, upTo(n)...)
		if e != ok {
			t.Fatalf("P17.1: %d panes are tiled: %d", n, e)
		}
		if n > 1 && (c.Kind != colKind || len(c.Kids) > rows) {
			t.Fatalf("P17.1: %d panes are tiled in %s", n, short(c))
		}
		for k, kid := range c.Kids {
			panes := len(idsOf(kid))
			if panes > columns || k < len(c.Kids)-1 && panes != columns {
				t.Fatalf("P17.1: %d panes are tiled with %d in the row %d", n, panes, k)
			}
		}
	}
}

func TestMostPanes(t *testing.T) {
	for _, kind := range kinds() {
		for _, n := range []int{maxPanes - 1, maxPanes, maxPanes + 1} {
			for _, size := range []int{1, 126, 127, 8190, 8191, maxExtent} {
				sameMake(t, kind, size, size, 40, upTo(n)...)
				sameFits(t, kind, size, size, n)
			}
		}
		for _, n := range []int{0, -1, math.MinInt, maxPanes + 2, maxNum, maxNum + 1, 1 << 40, math.MaxInt} {
			if preset.Fits(kind, maxExtent, maxExtent, n) {
				t.Errorf("P17.1: %d panes fit", n)
			}
		}
	}
	refuses(t, errArg, evenAcross, maxExtent, 1, 0, make([]int, 1<<20)...)
}

// The greatest windows end at MaxExtent.
func TestFarthest(t *testing.T) {
	for _, kind := range kinds() {
		for _, w := range []int{1, maxExtent - 1, maxExtent, maxExtent + 1} {
			for _, h := range []int{3, maxExtent - 1, maxExtent, maxExtent + 1} {
				for _, main := range []int{1, maxExtent - 3, maxExtent - 2, maxExtent - 1, maxExtent, math.MaxInt, math.MinInt} {
					sameMake(t, kind, w, h, main, 1, 2, 3, 4, 5)
					sameMake(t, kind, h, w, main, 1, 2)
				}
				sameFits(t, kind, w, h, 5)
			}
		}
	}
}

// No argument lets a call panic.
func TestAllArguments(t *testing.T) {
	far := []int{math.MinInt, math.MinInt + 1, -1 << 32, -maxNum - 1, -1, 0, 1, 2, 3, 80, maxExtent, maxExtent + 1, maxNum, maxNum + 1, 1 << 32, math.MaxInt - 1, math.MaxInt}
	for _, kind := range kinds() {
		for _, w := range far {
			for _, h := range far {
				sameFits(t, kind, w, h, 3)
				for _, main := range far {
					sameMake(t, kind, w, h, main)
					sameMake(t, kind, w, h, main, 7)
					sameMake(t, kind, w, h, main, 7, w, h)
				}
			}
		}
	}
}

// IDs that are handed in aren't changed, nor is the room behind their end; nor are they kept.
func TestIDsAreKept(t *testing.T) {
	for kind := evenAcross; kind <= tiled; kind++ {
		ids := []int{9, 3, 7, 0, 5, 77, 78}
		want, _ := plainMake(kind, 80, 24, 10, ids[:5])
		got, e := preset.Make(kind, 80, 24, 10, ids[:5]...)
		if e != ok || !same(got, want) || !slices.Equal(ids, []int{9, 3, 7, 0, 5, 77, 78}) {
			t.Errorf("P0.4: IDs that were handed in are changed: %v, %s, %d", ids, short(got), e)
		}
		clear(ids)
		if !same(got, want) {
			t.Errorf("P0.4: an answer hangs on what was handed in: %s", short(got))
		}
	}
}

// overwrite writes into all memory that a tree has, the room behind its lists, too.
func overwrite(c api.Cell) {
	for _, kid := range c.Kids {
		overwrite(kid)
	}
	room := c.Kids[:cap(c.Kids)]
	for k := range room {
		room[k] = leaf(-99, of(-9, -9, -9, -9))
	}
}

// What is answered is new each time: who writes into it changes no other answer, and no two of its
// lists share memory.
func TestAnswersAreNew(t *testing.T) {
	for kind := evenAcross; kind <= tiled; kind++ {
		for _, n := range []int{1, 2, 3, 5, 9} {
			want, _ := plainMake(kind, 80, 24, 10, upTo(n))
			first, _ := preset.Make(kind, 80, 24, 10, upTo(n)...)
			second, _ := preset.Make(kind, 80, 24, 10, upTo(n)...)
			overwrite(first)
			third, _ := preset.Make(kind, 80, 24, 10, upTo(n)...)
			if !same(second, want) || !same(third, want) {
				t.Errorf("P0.4: who writes into an answer changes another one: %s, %s", short(second), short(third))
			}
			for _, c := range cells(second) {
				_ = append(c.Kids, leaf(-77, of(0, 0, 1, 1)), leaf(-78, of(0, 0, 1, 1)))
			}
			if !same(second, want) {
				t.Errorf("P0.4: lists of an answer share memory: %s", short(second))
			}
		}
	}
}

func FuzzWindows(f *testing.F) {
	f.Add(uint8(1), 80, 24, 10, 3, int64(1))
	f.Add(uint8(4), 3, 5, -1, 4, int64(2))
	f.Add(uint8(5), 127, 127, 0, 4096, int64(3))
	f.Fuzz(func(t *testing.T, kind uint8, w, h, main, n int, seed int64) {
		g := rand.New(rand.NewSource(seed))
		ids := mixedUp(g, int(uint(n)%5000))
		sameMake(t, kind, w, h, main, ids...)
		sameMake(t, kind%8, int(uint(w)%300), int(uint(h)%300), main%300, ids...)
		sameFits(t, kind, w, h, n)
		sameFits(t, kind%8, int(uint(w)%300), int(uint(h)%300), n%200)
		if len(ids) > 0 {
			ids[g.Intn(len(ids))] = w
			sameMake(t, kind%8, int(uint(w)%300), int(uint(h)%300), main%300, ids...)
		}
	})
}
