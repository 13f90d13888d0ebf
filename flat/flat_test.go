package flat_test

import (
	"math"
	"math/big"
	"math/rand"
	"slices"
	"testing"

	"sash/api"
	"sash/flat"
)

// What the document tells in numbers is written out here, not taken from api.
const (
	leafKind  = uint8(1)
	rowKind   = uint8(2)
	colKind   = uint8(3)
	maxNum    = 2147483647
	maxCells  = 20000
	maxNested = 1 << 16
)

func of(x, y, w, h int) api.Rect { return api.Rect{X: x, Y: y, W: w, H: h} }

func leaf(id int, r api.Rect) api.Cell { return api.Cell{Kind: leafKind, Rect: r, ID: id} }

func row(r api.Rect, kids ...api.Cell) api.Cell {
	return api.Cell{Kind: rowKind, Rect: r, Kids: kids}
}

func col(r api.Rect, kids ...api.Cell) api.Cell {
	return api.Cell{Kind: colKind, Rect: r, Kids: kids}
}

func pane(id int, r api.Rect) api.Pane { return api.Pane{ID: id, Rect: r} }

// mixed is a tree that tiles, with all kinds of cells: the leaves 3, 1, 0, 5, 7.
func mixed() api.Cell {
	low := row(of(9, 9, 6, 4), leaf(0, of(9, 9, 3, 4)), leaf(5, of(13, 9, 2, 4)))
	mid := col(of(9, 2, 6, 11), leaf(1, of(9, 2, 6, 6)), low)
	return row(of(3, 2, 17, 11), leaf(3, of(3, 2, 5, 11)), mid, leaf(7, of(16, 2, 4, 11)))
}

// oddTrees may not be, but have panes all the same: a leaf stands ahead of its kids, a cell of no
// kind has kids, IDs come more than once, and rows have IDs that are no pane's.
func oddTrees() []api.Cell {
	fat := api.Cell{Kind: leafKind, Rect: of(1, 2, 3, 4), ID: 9, Kids: []api.Cell{leaf(2, of(5, 6, 7, 8)), leaf(9, of(0, 0, 1, 1)), leaf(4, of(2, 2, 2, 2))}}
	strange := api.Cell{Kind: 77, Rect: of(4, 3, 2, 1), ID: 2, Kids: []api.Cell{leaf(8, of(-1, 0, math.MinInt, math.MaxInt)), {Kind: 0, ID: 8, Kids: []api.Cell{leaf(-6, of(0, 0, 0, 0))}}}}
	return []api.Cell{
		{}, {Kind: 0, ID: 5, Rect: of(1, 1, 1, 1)}, {Kind: 4, ID: 5}, {Kind: 255, Kids: []api.Cell{{}, {}}},
		row(of(0, 0, 3, 3)), col(of(0, 0, 3, 3)), row(of(0, 0, 3, 3), leaf(1, of(0, 0, 3, 3))),
		leaf(-1, of(0, 0, 1, 1)), leaf(math.MinInt, of(-1, -1, -1, -1)), leaf(math.MaxInt, api.Rect{}), leaf(maxNum+1, of(0, 0, math.MaxInt, 1)),
		fat, strange, row(of(0, 0, 9, 9), strange, fat, strange),
		{Kind: leafKind, ID: 1, Rect: of(0, 0, 2, 2), Kids: []api.Cell{{Kind: leafKind, ID: 2, Kids: []api.Cell{leaf(3, of(1, 1, 1, 1))}}, leaf(4, of(4, 4, 4, 4))}},
		{Kind: rowKind, ID: 5, Rect: of(0, 0, 9, 1), Kids: []api.Cell{leaf(1, of(0, 0, 4, 1)), leaf(5, of(5, 0, 4, 1))}},
		row(of(0, 0, 9, 1), leaf(6, of(0, 0, 1, 1)), leaf(6, of(2, 0, 2, 1)), leaf(1, of(5, 0, 1, 1)), leaf(6, of(7, 0, 2, 1))),
		col(of(0, 0, 1, 1), mixed(), mixed()),
	}
}

// cells are all cells of a tree, each ahead of its kids.
func cells(c api.Cell) []api.Cell {
	var l []api.Cell
	stack := []api.Cell{c}
	for len(stack) > 0 {
		c := stack[len(stack)-1]
		stack = stack[:len(stack)-1]
		l = append(l, c)
		for k := len(c.Kids) - 1; k >= 0; k-- {
			stack = append(stack, c.Kids[k])
		}
	}
	return l
}

// same tells whether two trees are the same; how many kids each cell has tells where all stand.
func same(a, b api.Cell) bool {
	return slices.EqualFunc(cells(a), cells(b), func(a, b api.Cell) bool {
		return a.Kind == b.Kind && a.Rect == b.Rect && a.ID == b.ID && len(a.Kids) == len(b.Kids)
	})
}

func plainList(c api.Cell) []api.Pane {
	var l []api.Pane
	for _, c := range cells(c) {
		if c.Kind == leafKind {
			l = append(l, api.Pane{ID: c.ID, Rect: api.Rect{X: c.X, Y: c.Y, W: c.W, H: c.H}})
		}
	}
	return l
}

func plainFirst(l []api.Pane, id int) (int, bool) {
	for i, p := range l {
		if p.ID == id {
			return i, true
		}
	}
	return 0, false
}

// plainNext goes by numbers as long as they have to be.
func plainNext(l []api.Pane, id, by int) (int, bool) {
	at, ok := plainFirst(l, id)
	if !ok {
		return 0, false
	}
	sum := new(big.Int).Add(big.NewInt(int64(at)), big.NewInt(int64(by)))
	return l[sum.Mod(sum, big.NewInt(int64(len(l)))).Int64()].ID, true
}

func plainChanged(a, b []api.Pane) []api.Pane {
	var l []api.Pane
	for _, p := range b {
		if at, ok := plainFirst(a, p.ID); !ok || a[at].W != p.W || a[at].H != p.H {
			l = append(l, p)
		}
	}
	return l
}

// sameAnswers holds all that is asked of one tree against the plain reading.
func sameAnswers(t *testing.T, c api.Cell) {
	t.Helper()
	want := plainList(c)
	if got := flat.List(c); !slices.Equal(got, want) {
		t.Fatalf("P7.1: List(%v) = %v, not %v", c, got, want)
	}
	ids := []int{-1, math.MinInt, math.MaxInt}
	for _, c := range cells(c) {
		ids = append(ids, c.ID, c.ID+1)
	}
	for _, id := range ids {
		sameWith(t, c, id)
	}
	sameNames(t, c)
	if got := flat.Changed(flat.List(c), flat.List(c)); !slices.Equal(got, plainChanged(want, want)) {
		t.Fatalf("P7.1: Changed(%v, itself) = %v", want, got)
	}
}

// sameWith holds what is asked of the pane with an ID against the plain reading.
func sameWith(t *testing.T, c api.Cell, id int) {
	t.Helper()
	l := plainList(c)
	var want api.Pane
	at, wantOK := plainFirst(l, id)
	if wantOK {
		want = l[at]
	}
	if got, ok := flat.Pane(c, id); got != want || ok != wantOK {
		t.Fatalf("P7.1: Pane(%v, %d) = %v, %v, not %v, %v", c, id, got, ok, want, wantOK)
	}
	for _, by := range []int{0, 1, -1, 2, -2, 7, -7, len(l), -len(l), 2*len(l) + 1, -2*len(l) - 1, math.MaxInt, math.MinInt, math.MaxInt - 1, math.MinInt + 1} {
		sameNext(t, c, id, by)
	}
}

func sameNext(t *testing.T, c api.Cell, id, by int) {
	t.Helper()
	want, wantOK := plainNext(plainList(c), id, by)
	if got, ok := flat.Next(c, id, by); got != want || ok != wantOK {
		t.Fatalf("P7.1: Next(%v, %d, %d) = %d, %v, not %d, %v", c, id, by, got, ok, want, wantOK)
	}
}

// sameNames gives a tree's leaves other IDs, and some too many, and too few.
func sameNames(t *testing.T, c api.Cell) {
	t.Helper()
	old := plainList(c)
	for _, first := range []int{0, 70, -3, math.MaxInt} {
		var ids []int
		for k := range old {
			ids = append(ids, first-3*k)
		}
		sameName(t, c, ids)
	}
	sameName(t, c, make([]int, len(old)))
	for _, n := range []int{0, 1, len(old) - 1, len(old) + 1, 2*len(old) + 1} {
		if n < 0 || n == len(old) {
			continue
		}
		if got, ok := flat.Name(c, make([]int, n)...); ok || !same(got, api.Cell{}) {
			t.Fatalf("P7.1: Name(%v) with %d IDs = %v, %v", c, n, got, ok)
		}
	}
}

// sameName holds the tree with other IDs against the old one: nothing else is changed in it.
func sameName(t *testing.T, c api.Cell, ids []int) {
	t.Helper()
	got, ok := flat.Name(c, ids...)
	old, named := cells(c), cells(got)
	if !ok || len(named) != len(old) {
		t.Fatalf("P7.1: Name(%v, %v) = %v, %v", c, ids, got, ok)
	}
	leaves := 0
	for i, c := range old {
		want := c.ID
		if c.Kind == leafKind {
			want = ids[leaves]
			leaves++
		}
		if n := named[i]; n.Kind != c.Kind || n.Rect != c.Rect || len(n.Kids) != len(c.Kids) || n.ID != want {
			t.Fatalf("P7.1: Name(%v, %v): the cell %d is %v", c, ids, i, n)
		}
	}
}

func sameChanged(t *testing.T, a, b []api.Pane) {
	t.Helper()
	if got, want := flat.Changed(a, b), plainChanged(a, b); !slices.Equal(got, want) {
		t.Fatalf("P7.1: Changed(%v, %v) = %v, not %v", a, b, got, want)
	}
}

func TestExample(t *testing.T) {
	for _, id := range []int{0, 4, maxNum} {
		if got, ok := flat.Next(leaf(id, of(0, 0, 80, 24)), id, 1); !ok || got != id {
			t.Errorf("P7.1: behind the leaf %d comes %d, %v", id, got, ok)
		}
	}
}

func TestList(t *testing.T) {
	want := []api.Pane{pane(3, of(3, 2, 5, 11)), pane(1, of(9, 2, 6, 6)), pane(0, of(9, 9, 3, 4)), pane(5, of(13, 9, 2, 4)), pane(7, of(16, 2, 4, 11))}
	if got := flat.List(mixed()); !slices.Equal(got, want) {
		t.Errorf("P7.1: List = %v, not %v", got, want)
	}
	if got := flat.List(leaf(4, of(1, 2, 3, 4))); !slices.Equal(got, []api.Pane{pane(4, of(1, 2, 3, 4))}) {
		t.Errorf("P7.1: a leaf's panes are %v", got)
	}
	for _, c := range []api.Cell{{}, row(of(0, 0, 3, 3)), {Kind: 4, ID: 7, Rect: of(0, 0, 3, 3)}} {
		if got := flat.List(c); len(got) != 0 {
			t.Errorf("P7.1: List(%v) = %v", c, got)
		}
	}
	// A leaf that has kids stands ahead of theirs.
	fat := api.Cell{Kind: leafKind, Rect: of(1, 1, 1, 1), ID: 9, Kids: []api.Cell{leaf(2, of(2, 2, 2, 2)), leaf(9, of(3, 3, 3, 3))}}
	want = []api.Pane{pane(0, of(0, 0, 4, 4)), pane(9, of(1, 1, 1, 1)), pane(2, of(2, 2, 2, 2)), pane(9, of(3, 3, 3, 3)), pane(5, of(5, 5, 5, 5))}
	if got := flat.List(row(of(0, 0, 9, 9), leaf(0, of(0, 0, 4, 4)), fat, leaf(5, of(5, 5, 5, 5)))); !slices.Equal(got, want) {
		t.Errorf("P7.1: List = %v, not %v", got, want)
	}
}

func TestPane(t *testing.T) {
	twins := row(of(0, 0, 9, 1), leaf(6, of(0, 0, 1, 1)), col(of(2, 0, 7, 1), leaf(8, of(2, 0, 7, 1)), leaf(6, of(3, 0, 7, 1))), leaf(8, of(4, 0, 7, 1)))
	for _, c := range []struct {
		tree api.Cell
		id   int
		want api.Pane
		ok   bool
	}{
		{mixed(), 3, pane(3, of(3, 2, 5, 11)), true},
		{mixed(), 0, pane(0, of(9, 9, 3, 4)), true},
		{mixed(), 7, pane(7, of(16, 2, 4, 11)), true},
		{mixed(), 2, api.Pane{}, false},
		{mixed(), -1, api.Pane{}, false},
		{mixed(), math.MinInt, api.Pane{}, false},
		{mixed(), math.MaxInt, api.Pane{}, false},
		{twins, 6, pane(6, of(0, 0, 1, 1)), true},
		{twins, 8, pane(8, of(2, 0, 7, 1)), true},
		{twins, 0, api.Pane{}, false}, // the row's ID is no pane's
		{api.Cell{}, 0, api.Pane{}, false},
		{leaf(-5, of(-1, -1, -1, -1)), -5, pane(-5, of(-1, -1, -1, -1)), true},
	} {
		if got, ok := flat.Pane(c.tree, c.id); got != c.want || ok != c.ok {
			t.Errorf("P7.1: Pane(%v, %d) = %v, %v, not %v, %v", c.tree, c.id, got, ok, c.want, c.ok)
		}
	}
}

func TestName(t *testing.T) {
	low := row(of(9, 9, 6, 4), leaf(0, of(9, 9, 3, 4)), leaf(3, of(13, 9, 2, 4)))
	mid := col(of(9, 2, 6, 11), leaf(8, of(9, 2, 6, 6)), low)
	want := row(of(3, 2, 17, 11), leaf(7, of(3, 2, 5, 11)), mid, leaf(2, of(16, 2, 4, 11)))
	if got, ok := flat.Name(mixed(), 7, 8, 0, 3, 2); !ok || !same(got, want) {
		t.Errorf("P7.1: Name = %v, %v, not %v", got, ok, want)
	}
	if got, ok := flat.Name(mixed(), 3, 1, 0, 5, 7); !ok || !same(got, mixed()) {
		t.Errorf("P7.1: Name with the same IDs = %v, %v", got, ok)
	}
	if got, ok := flat.Name(leaf(4, of(1, 2, 3, 4)), 5); !ok || !same(got, leaf(5, of(1, 2, 3, 4))) {
		t.Errorf("P7.1: Name of a leaf = %v, %v", got, ok)
	}
	// Whether the tree may be then isn't asked.
	for _, ids := range [][]int{{1, 1, 1, 1, 1}, {-1, -2, math.MinInt, math.MaxInt, maxNum + 1}} {
		sameName(t, mixed(), ids)
	}
	for n := range 12 {
		got, ok := flat.Name(mixed(), slices.Repeat([]int{6}, n)...)
		if ok != (n == 5) || !ok && !same(got, api.Cell{}) {
			t.Errorf("P7.1: Name with %d IDs = %v, %v", n, got, ok)
		}
	}
}

// No IDs are as many as no leaves: nil or empty, that is the same.
func TestNameNone(t *testing.T) {
	for _, c := range []api.Cell{{}, {Kind: 9, ID: 4, Rect: of(1, 2, 3, 4)}, row(of(0, 0, 2, 2), api.Cell{}, col(of(1, 1, 1, 1)))} {
		for _, ids := range [][]int{nil, {}} {
			if got, ok := flat.Name(c, ids...); !ok || !same(got, c) {
				t.Errorf("P7.1: Name(%v) = %v, %v", c, got, ok)
			}
		}
		if got, ok := flat.Name(c, 1); ok || !same(got, api.Cell{}) {
			t.Errorf("P7.1: Name(%v, 1) = %v, %v", c, got, ok)
		}
	}
}

func TestNext(t *testing.T) {
	for _, c := range []struct {
		id, by, want int
		ok           bool
	}{
		{3, 0, 3, true}, {3, 1, 1, true}, {3, 2, 0, true}, {3, 3, 5, true}, {3, 4, 7, true}, {3, 5, 3, true}, {3, 6, 1, true},
		{3, -1, 7, true}, {3, -2, 5, true}, {3, -5, 3, true}, {3, -6, 7, true},
		{7, 1, 3, true}, {7, -1, 5, true}, {0, 1, 5, true}, {0, -1, 1, true}, {0, 103, 3, true}, {0, -103, 7, true},
		// 2^63 - 1 is 2 more than whole rounds of 5, -2^63 is 3 less than such.
		{3, math.MaxInt, 0, true}, {7, math.MaxInt, 1, true}, {3, math.MinInt, 0, true}, {7, math.MinInt, 1, true},
		{2, 0, 0, false}, {2, 1, 0, false}, {-1, 1, 0, false}, {math.MinInt, math.MinInt, 0, false}, {math.MaxInt, math.MaxInt, 0, false},
	} {
		if got, ok := flat.Next(mixed(), c.id, c.by); got != c.want || ok != c.ok {
			t.Errorf("P7.1: Next(.., %d, %d) = %d, %v, not %d, %v", c.id, c.by, got, ok, c.want, c.ok)
		}
	}
	for _, by := range []int{0, 1, -1, math.MaxInt, math.MinInt} {
		if got, ok := flat.Next(api.Cell{}, 0, by); got != 0 || ok {
			t.Errorf("P7.1: Next of no panes = %d, %v", got, ok)
		}
		if got, ok := flat.Next(row(of(0, 0, 3, 3)), 0, by); got != 0 || ok {
			t.Errorf("P7.1: Next of no panes = %d, %v", got, ok)
		}
		if got, ok := flat.Next(leaf(8, of(0, 0, 3, 3)), 8, by); got != 8 || !ok {
			t.Errorf("P7.1: Next of one pane by %d = %d, %v", by, got, ok)
		}
	}
}

// Place by place, round and round, both ways.
func TestNextStepByStep(t *testing.T) {
	l := []int{3, 1, 0, 5, 7}
	for start, id := range l {
		behind, ahead := start, start
		for by := range 40 {
			for _, x := range []struct{ by, want int }{{by, l[behind]}, {-by, l[ahead]}} {
				if got, ok := flat.Next(mixed(), id, x.by); got != x.want || !ok {
					t.Fatalf("P7.1: Next(.., %d, %d) = %d, %v, not %d", id, x.by, got, ok, x.want)
				}
			}
			if behind++; behind == len(l) {
				behind = 0
			}
			if ahead--; ahead < 0 {
				ahead = len(l) - 1
			}
		}
	}
}

// Of several panes with the same ID the first one is meant.
func TestNextOfTwins(t *testing.T) {
	c := row(of(0, 0, 9, 1), leaf(1, of(0, 0, 1, 1)), leaf(6, of(2, 0, 2, 1)), leaf(2, of(5, 0, 1, 1)), leaf(6, of(7, 0, 2, 1)), leaf(3, of(9, 0, 1, 1)))
	for _, x := range []struct{ by, want int }{{0, 6}, {1, 2}, {2, 6}, {3, 3}, {4, 1}, {5, 6}, {-1, 1}, {-2, 3}, {-3, 6}, {-4, 2}} {
		if got, ok := flat.Next(c, 6, x.by); got != x.want || !ok {
			t.Errorf("P7.1: Next(.., 6, %d) = %d, %v, not %d", x.by, got, ok, x.want)
		}
	}
}

func TestChanged(t *testing.T) {
	one, two, wider, higher := pane(1, of(0, 0, 3, 5)), pane(2, of(4, 0, 3, 5)), pane(1, of(0, 0, 4, 5)), pane(1, of(0, 0, 3, 6))
	narrower, lower, turned, moved := pane(1, of(0, 0, 2, 5)), pane(1, of(0, 0, 3, 4)), pane(1, of(0, 0, 5, 3)), pane(1, of(-7, 9, 3, 5))
	odd := pane(math.MinInt, of(math.MaxInt, math.MinInt, math.MinInt, math.MaxInt))
	type list = []api.Pane
	for _, c := range []struct{ a, b, want list }{
		{nil, nil, nil},
		{list{one}, nil, nil},
		{nil, list{one, two}, list{one, two}},
		{list{one, two}, list{one, two}, nil},
		{list{one, two}, list{two, one}, nil},
		{list{one, two}, list{two}, nil},
		{list{one}, list{two, one}, list{two}},
		{list{one}, list{moved}, nil}, // where it stands plays no part
		{list{one}, list{wider}, list{wider}},
		{list{one}, list{higher}, list{higher}},
		{list{one}, list{narrower}, list{narrower}},
		{list{one}, list{lower}, list{lower}},
		{list{one}, list{turned}, list{turned}},
		{list{wider}, list{higher}, list{higher}},
		{list{two, one}, list{wider, two}, list{wider}},
		{list{one, two}, list{two, higher}, list{higher}},
		// The first one of a counts, whatever stands behind it.
		{list{one, wider}, list{one}, nil},
		{list{one, wider}, list{wider}, list{wider}},
		{list{wider, one}, list{one}, list{one}},
		{list{two, moved, wider, one}, list{wider, one, higher}, list{wider, higher}},
		// All of b are told, those with the same ID, too, in order.
		{nil, list{two, one, two, wider, one}, list{two, one, two, wider, one}},
		{list{one}, list{wider, one, wider, moved, higher}, list{wider, wider, higher}},
		{list{one}, list{higher, two, wider}, list{higher, two, wider}},
		{list{{}}, list{{}, pane(0, of(0, 0, 0, 1)), pane(0, of(5, 5, 0, 0))}, list{pane(0, of(0, 0, 0, 1))}},
		{nil, list{{}}, list{{}}}, // none with the ID 0 isn't the zero pane
		{list{odd}, list{odd, pane(math.MinInt, api.Rect{}), pane(math.MaxInt, odd.Rect)}, list{pane(math.MinInt, api.Rect{}), pane(math.MaxInt, odd.Rect)}},
	} {
		if got := flat.Changed(c.a, c.b); !slices.Equal(got, c.want) {
			t.Errorf("P7.1: Changed(%v, %v) = %v, not %v", c.a, c.b, got, c.want)
		}
		sameChanged(t, c.a, c.b)
		sameChanged(t, append(list{}, c.a...), append(list{}, c.b...)) // P0.5: empty, where the other was nil
	}
}

func TestOddTrees(t *testing.T) {
	for _, c := range append(oddTrees(), mixed(), leaf(4, of(0, 0, 1, 1))) {
		sameAnswers(t, c)
		sameAnswers(t, col(of(0, 0, 9, 9), leaf(1, of(0, 0, 9, 4)), c))
		sameAnswers(t, row(of(0, 0, 9, 9), c, leaf(1, of(0, 0, 9, 4)), c))
		sameAnswers(t, api.Cell{Kind: leafKind, ID: 8, Kids: []api.Cell{c, c}})
	}
}

// smallTrees are all trees of at most so many cells, of a few kinds and IDs.
func smallTrees(most int) []api.Cell {
	bySize := make([][]api.Cell, most+1)
	var all []api.Cell
	for n := 1; n <= most; n++ {
		forests(bySize, n-1, nil, func(kids []api.Cell) {
			for kind := range uint8(4) {
				for id := range 2 {
					r := of(n, int(kind), id, len(kids))
					bySize[n] = append(bySize[n], api.Cell{Kind: kind, Rect: r, ID: id, Kids: slices.Clone(kids)})
				}
			}
		})
		all = append(all, bySize[n]...)
	}
	return all
}

// forests does something with all lists of trees that have so many cells in all.
func forests(bySize [][]api.Cell, left int, kids []api.Cell, do func(kids []api.Cell)) {
	if left == 0 {
		do(kids)
		return
	}
	for n := 1; n <= left; n++ {
		for _, c := range bySize[n] {
			forests(bySize, left-n, append(kids, c), do)
		}
	}
}

func TestEverySmallTree(t *testing.T) {
	for _, c := range smallTrees(3) {
		sameAnswers(t, c)
	}
	for _, c := range smallTrees(4) {
		if got, want := flat.List(c), plainList(c); !slices.Equal(got, want) {
			t.Fatalf("P7.1: List(%v) = %v, not %v", c, got, want)
		}
		sameNext(t, c, 1, 2)
		sameNext(t, c, 0, -1)
	}
}

// All lists of up to three panes, of two IDs and four sizes, against each other: each pane stands
// elsewhere.
func TestEverySmallChange(t *testing.T) {
	lists := [][]api.Pane{nil}
	for from := 0; from < len(lists) && len(lists[from]) < 3; from++ {
		for n := range 8 {
			lists = append(lists, append(slices.Clone(lists[from]), pane(n&1, of(len(lists), 3, 1+n>>1&1, 1+n>>2))))
		}
	}
	for _, a := range lists {
		for _, b := range lists {
			sameChanged(t, a, b)
		}
	}
	if len(lists) != 1+8+64+512 {
		t.Errorf("only %d lists were asked", len(lists))
	}
}

// randomTree is a tree with few IDs, so that some come again; now and then something in it is wrong.
func randomTree(g *rand.Rand, most int) api.Cell {
	c := leaf(g.Intn(60), of(g.Intn(99), g.Intn(99), 1+g.Intn(3), 1+g.Intn(3)))
	if most > 2 && g.Intn(4) > 0 {
		c.Kind, c.ID = rowKind+uint8(g.Intn(2)), 0
		for range 2 + g.Intn(3) {
			c.Kids = append(c.Kids, randomTree(g, most/2))
		}
	}
	switch g.Intn(60) {
	case 0:
		c.Kind = uint8(g.Intn(6))
	case 1:
		c.ID -= 30
	case 2:
		c.Kids = c.Kids[:len(c.Kids)/2]
	}
	return c
}

func TestManyTrees(t *testing.T) {
	g := rand.New(rand.NewSource(77))
	most, told, all := 0, 0, 0
	for range 400 {
		a, b := randomTree(g, 1+g.Intn(20)), randomTree(g, 1+g.Intn(20))
		sameAnswers(t, a)
		for range 20 {
			sameNext(t, a, g.Intn(60), g.Intn(2001)-1000)
			sameNext(t, a, g.Intn(60), int(g.Uint64()))
		}
		sameChanged(t, plainList(a), plainList(b))
		sameChanged(t, plainList(b), plainList(a))
		most = max(most, len(plainList(a)))
		told += len(flat.Changed(plainList(a), plainList(b)))
		all += len(plainList(b))
	}
	if most < 20 || told == 0 || told == all {
		t.Errorf("at most %d panes, of %d in all %d were told", most, all, told)
	}
}

// As deep as the document bounds it: every call ends, and in time.
func TestDeepest(t *testing.T) {
	c := leaf(-1, of(1, 2, 3, 4))
	for id := range maxNested - 1 {
		c = row(of(0, 0, 1, 1), leaf(id, of(id, 0, 1, 1)), c)
	}
	want := plainList(c)
	if got := flat.List(c); len(got) != maxNested || !slices.Equal(got, want) {
		t.Errorf("P7.1: List of a deep tree: %d panes", len(got))
	}
	if p, ok := flat.Pane(c, -1); !ok || p != pane(-1, of(1, 2, 3, 4)) {
		t.Errorf("P7.1: Pane of a deep tree = %v, %v", p, ok)
	}
	for _, x := range []struct{ id, by, want int }{{-1, 1, maxNested - 2}, {maxNested - 2, -1, -1}, {5, 3, 2}, {5, maxNested, 5}, {0, math.MinInt, 0}, {0, math.MaxInt, 1}} {
		if got, ok := flat.Next(c, x.id, x.by); !ok || got != x.want {
			t.Errorf("P7.1: Next of a deep tree by %d = %d, %v, not %d", x.by, got, ok, x.want)
		}
	}
	ids := make([]int, maxNested)
	for i := range ids {
		ids[i] = 7 * i
	}
	sameName(t, c, ids)
	if _, ok := flat.Name(c, ids[1:]...); ok {
		t.Error("P7.1: too few IDs for a deep tree")
	}
}

// As many cells as a tree that may be has, and more, side by side: and all of them panes that change.
func TestMostPanes(t *testing.T) {
	for _, n := range []int{maxCells - 1, maxCells, 10 * maxCells} {
		c, want := row(of(0, 0, 1, 1)), []api.Pane(nil)
		for id := range n {
			c.Kids = append(c.Kids, leaf(id, of(id, 0, 2, 2)))
			want = append(want, pane(id, of(id, 0, 2, 2)))
		}
		if got := flat.List(c); !slices.Equal(got, want) {
			t.Errorf("P7.1: List of %d leaves: %d panes", n, len(got))
		}
		if got, ok := flat.Next(c, n-1, 1); got != 0 || !ok {
			t.Errorf("P7.1: behind the last of %d comes %d, %v", n, got, ok)
		}
		ids := make([]int, n)
		for i := range ids {
			ids[i] = n - i
		}
		sameName(t, c, ids)
		if got := flat.Changed(want, want); len(got) != 0 {
			t.Errorf("P7.1: Changed of %d panes and the same: %d", n, len(got))
		}
		other := slices.Clone(want)
		slices.Reverse(other)
		other[0].W, other[n/2].H, other[n-1].ID = 3, 3, -3
		if got := flat.Changed(want, other); !slices.Equal(got, []api.Pane{other[0], other[n/2], other[n-1]}) {
			t.Errorf("P7.1: Changed of %d panes, three of them others: %v", n, got)
		}
	}
}

// roomy is the tree with room behind each list of kids, filled with something that is none of them.
func roomy(c api.Cell) api.Cell {
	kids := make([]api.Cell, 0, len(c.Kids)+2)
	for _, kid := range c.Kids {
		kids = append(kids, roomy(kid))
	}
	copy(kids[len(kids):cap(kids)], []api.Cell{leaf(-77, c.Rect), leaf(-78, c.Rect)})
	c.Kids = kids
	return c
}

// untouched tells whether the room that roomy made is as it was, in the whole tree.
func untouched(c api.Cell) bool {
	room := c.Kids[len(c.Kids):cap(c.Kids)]
	return len(room) == 2 && same(room[0], leaf(-77, c.Rect)) && same(room[1], leaf(-78, c.Rect)) &&
		!slices.ContainsFunc(c.Kids, func(kid api.Cell) bool { return !untouched(kid) })
}

// What is handed in isn't changed, nor is the room behind its end.
func TestNothingIsChanged(t *testing.T) {
	for k, tree := range append(oddTrees(), mixed()) {
		c := roomy(tree)
		ids := make([]int, len(plainList(c))+2)
		for i := range ids {
			ids[i] = 50 + i
		}
		kept := slices.Clone(ids)
		n := len(ids) - 2
		flat.List(c)
		flat.Pane(c, 9)
		flat.Name(c, ids[:n]...)
		flat.Name(c, ids[:n+1]...)
		flat.Next(c, 9, 3)
		if !same(c, tree) || !untouched(c) || !slices.Equal(ids, kept) {
			t.Errorf("P0.4: what was handed in is changed: the tree %d, %v, %v", k, c, ids)
		}
	}
	a := []api.Pane{pane(1, of(0, 0, 3, 5)), pane(1, of(0, 0, 4, 5)), pane(2, of(5, 5, 5, 5)), pane(9, of(9, 9, 9, 9))}
	b := []api.Pane{pane(2, of(0, 0, 1, 1)), pane(1, of(0, 0, 3, 5)), pane(3, of(5, 5, 5, 5)), pane(9, of(8, 8, 8, 8))}
	keptA, keptB := slices.Clone(a), slices.Clone(b)
	flat.Changed(a[:3], b[:3])
	flat.Changed(b[:3], a[:3])
	flat.Changed(nil, a[:2])
	if !slices.Equal(a, keptA) || !slices.Equal(b, keptB) {
		t.Errorf("P0.4: lists that were handed in are changed: %v, %v", a, b)
	}
}

// scribble writes all over a tree's lists of kids, and over the room behind their ends.
func scribble(c api.Cell) {
	l := c.Kids[:cap(c.Kids)]
	for i := range l {
		scribble(l[i])
		l[i] = leaf(-99, of(-9, -9, -9, -9))
	}
}

// scrawl writes all over a list of panes, and over the room behind its end.
func scrawl(l []api.Pane) {
	l = l[:cap(l)]
	for i := range l {
		l[i] = pane(-99, of(-9, -9, -9, -9))
	}
}

// Somebody who writes into an answer changes neither what was handed in nor a later answer, and
// the other way round.
func TestAnswersAreNewMemory(t *testing.T) {
	ids := []int{10, 11, 12, 13, 14}
	want, _ := flat.Name(mixed(), ids...)
	c := roomy(mixed())
	named, _ := flat.Name(c, ids...)
	kept, _ := flat.Name(c, ids...)
	scribble(named)
	if !same(c, mixed()) || !untouched(c) || !same(kept, want) {
		t.Errorf("P0.4: a named tree shares memory with another one: %v, %v", c, kept)
	}
	list, other := flat.List(c), flat.List(c)
	scrawl(list)
	if !same(c, mixed()) || !untouched(c) || !slices.Equal(other, plainList(mixed())) {
		t.Errorf("P0.4: a list shares memory with another one: %v, %v", c, other)
	}
	scribble(c)
	ids[0] = -99
	if !same(kept, want) || !slices.Equal(other, plainList(mixed())) {
		t.Errorf("P0.4: answers are changed from outside: %v, %v", kept, other)
	}

	a, b := []api.Pane{pane(1, of(0, 0, 3, 5))}, []api.Pane{pane(2, of(5, 0, 3, 5)), pane(1, of(0, 0, 4, 5)), pane(1, of(7, 7, 3, 5))}
	keptA, keptB := slices.Clone(a), slices.Clone(b)
	l, again := flat.Changed(a, b), flat.Changed(a, b)
	scrawl(l)
	if !slices.Equal(a, keptA) || !slices.Equal(b, keptB) {
		t.Errorf("P0.4: Changed shares memory with what was handed in: %v, %v", a, b)
	}
	all := flat.Changed(nil, b)
	scrawl(a)
	scrawl(b)
	if !slices.Equal(again, keptB[:2]) || !slices.Equal(all, keptB) {
		t.Errorf("P0.4: what Changed told is changed from outside: %v, %v", again, all)
	}
}

// Kids that stand in two places of the tree that is handed in stand in each of them on their own in
// the named one.
func TestListsOfOneAnswer(t *testing.T) {
	o := of(0, 0, 9, 9)
	pair := []api.Cell{leaf(1, o), leaf(2, o)}
	got, ok := flat.Name(row(o, row(o, pair...), col(o, pair...), leaf(3, o)), 4, 5, 6, 7, 8)
	if !ok || !same(got, row(o, row(o, leaf(4, o), leaf(5, o)), col(o, leaf(6, o), leaf(7, o)), leaf(8, o))) {
		t.Fatalf("P7.1: Name of kids that stand in two places = %v, %v", got, ok)
	}
	scribble(got.Kids[0])
	if !same(got.Kids[1], col(o, leaf(6, o), leaf(7, o))) || !same(row(o, pair...), row(o, leaf(1, o), leaf(2, o))) {
		t.Errorf("P0.4: two lists of one answer share memory: %v", got)
	}
}

func TestTheSameAgain(t *testing.T) {
	a, b := plainList(mixed()), plainList(oddTrees()[13])
	for range 3 {
		for _, c := range append(oddTrees(), mixed()) {
			sameAnswers(t, c)
		}
		sameChanged(t, a, b)
		sameChanged(t, b, a)
	}
}

// grow makes a tree of bytes, four for each cell.
func grow(b []byte) (api.Cell, []byte) {
	if len(b) < 4 {
		return leaf(len(b), of(0, 0, 1, 1)), nil
	}
	c := api.Cell{Kind: b[0] % 5, Rect: of(int(b[0]>>4), int(b[1]&3), int(b[1]>>2)&7, int(b[1]>>5)), ID: int(int8(b[2]))}
	kids := int(b[3] & 3)
	b = b[4:]
	for range kids {
		var kid api.Cell
		kid, b = grow(b)
		c.Kids = append(c.Kids, kid)
	}
	return c, b
}

func FuzzTrees(f *testing.F) {
	f.Add([]byte{}, []byte{1, 4, 7, 0}, 0, 0)
	f.Add([]byte{2, 4, 0, 2, 1, 4, 4, 0, 1, 4, 7, 0}, []byte{2, 4, 0, 2, 1, 5, 4, 0, 1, 36, 7, 0}, 7, -1)
	f.Add([]byte{3, 4, 0, 2, 2, 4, 0, 2, 1, 4, 1, 0, 1, 4, 2, 0, 1, 4, 3, 0}, []byte{1, 4, 2, 2}, 2, math.MinInt)
	f.Fuzz(func(t *testing.T, tree, other []byte, id, by int) {
		if len(tree) > 300 || len(other) > 300 {
			return
		}
		a, _ := grow(tree)
		b, _ := grow(other)
		sameAnswers(t, a)
		sameWith(t, a, id)
		sameNext(t, a, id, by)
		for _, p := range plainList(a) {
			sameNext(t, a, p.ID, by)
		}
		sameChanged(t, plainList(a), plainList(b))
	})
}
