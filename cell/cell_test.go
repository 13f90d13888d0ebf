package cell_test

import (
	"math"
	"math/rand"
	"slices"
	"testing"

	"sash/api"
	"sash/cell"
)

// What the document tells in numbers is written out here, not taken from api.
const (
	leafKind  = uint8(1)
	rowKind   = uint8(2)
	colKind   = uint8(3)
	maxNum    = 2147483647
	maxExtent = 10000
	maxCells  = 20000
	maxNested = 1 << 16
)

func box() api.Rect { return api.Rect{X: 1, Y: 2, W: 30, H: 40} }

func leaf(id int) api.Cell { return api.Cell{Kind: leafKind, Rect: box(), ID: id} }

func row(kids ...api.Cell) api.Cell { return api.Cell{Kind: rowKind, Rect: box(), Kids: kids} }

func col(kids ...api.Cell) api.Cell { return api.Cell{Kind: colKind, Rect: box(), Kids: kids} }

// mixed is a tree with all kinds of cells: the leaves 3, 1, 0, 5, 7.
func mixed() api.Cell {
	return row(leaf(3), col(leaf(1), row(leaf(0), leaf(5))), leaf(7))
}

// spot is a cell of a tree without its kids: where it stands, and what it is.
type spot struct {
	path []int
	kind uint8
	rect api.Rect
	id   int
	kids int
}

func sameSpot(a, b spot) bool {
	return slices.Equal(a.path, b.path) && a.kind == b.kind && a.rect == b.rect && a.id == b.id && a.kids == b.kids
}

// spots are all cells of a tree, each ahead of its kids: all that a plain reading asks of a tree.
func spots(c api.Cell) []spot {
	type open struct {
		path []int
		cell api.Cell
	}
	var l []spot
	stack := []open{{nil, c}}
	for len(stack) > 0 {
		o := stack[len(stack)-1]
		stack = stack[:len(stack)-1]
		l = append(l, spot{o.path, o.cell.Kind, o.cell.Rect, o.cell.ID, len(o.cell.Kids)})
		for k := len(o.cell.Kids) - 1; k >= 0; k-- {
			stack = append(stack, open{append(slices.Clone(o.path), k), o.cell.Kids[k]})
		}
	}
	return l
}

func plainSame(a, b api.Cell) bool { return slices.EqualFunc(spots(a), spots(b), sameSpot) }

func plainLeaves(l ...api.Cell) []int {
	var ids []int
	for _, c := range l {
		for _, s := range spots(c) {
			if s.kind == leafKind {
				ids = append(ids, s.id)
			}
		}
	}
	return ids
}

func plainDepth(c api.Cell) int {
	deep := 0
	for _, s := range spots(c) {
		deep = max(deep, len(s.path)+1)
	}
	return deep
}

func plainFind(c api.Cell, id int) ([]int, bool) {
	for _, s := range spots(c) {
		if s.kind == leafKind && s.id == id {
			return s.path, true
		}
	}
	return nil, false
}

func begins(path, with []int) bool {
	return len(path) >= len(with) && slices.Equal(path[:len(with)], with)
}

// plainAt are the cells at a path and below it, with their paths from there on.
func plainAt(c api.Cell, path []int) []spot {
	var l []spot
	for _, s := range spots(c) {
		if begins(s.path, path) {
			s.path = s.path[len(path):]
			l = append(l, s)
		}
	}
	return l
}

// plainPut are the cells of the tree in which a kid stands at a path; none, if there is no such path.
func plainPut(c, kid api.Cell, path []int) []spot {
	var l []spot
	met := false
	for _, s := range spots(c) {
		if slices.Equal(s.path, path) {
			met = true
			for _, k := range spots(kid) {
				k.path = slices.Concat(path, k.path)
				l = append(l, k)
			}
		} else if !begins(s.path, path) {
			l = append(l, s)
		}
	}
	if !met {
		return nil
	}
	return l
}

func plainMayRect(r api.Rect) bool {
	far := func(from, size int) bool {
		return from >= 0 && from <= maxExtent && size >= 1 && size <= maxExtent && from+size <= maxExtent
	}
	return far(r.X, r.W) && far(r.Y, r.H)
}

func plainMay(c api.Cell) bool {
	l := spots(c)
	ids := plainLeaves(c)
	slices.Sort(ids)
	if len(l) > maxCells || len(slices.Compact(slices.Clone(ids))) != len(ids) {
		return false
	}
	for _, s := range l {
		isLeaf := s.kind == leafKind && s.kids == 0 && s.id >= 0 && s.id <= maxNum
		isGroup := (s.kind == rowKind || s.kind == colKind) && s.id == 0 && s.kids >= 2
		if !isLeaf && !isGroup || !plainMayRect(s.rect) {
			return false
		}
	}
	return true
}

// paths are all paths of a tree, and some that it hasn't.
func paths(c api.Cell) [][]int {
	l := [][]int{{-1}, {math.MaxInt}, {math.MinInt}}
	for _, s := range spots(c) {
		step := func(k int) []int { return append(slices.Clone(s.path), k) }
		l = append(l, s.path, step(-1), step(s.kids), step(s.kids+1), append(step(s.kids), 0), append(step(-1), 0))
	}
	return l
}

// sameAnswers holds all that is asked of one tree against the plain reading.
func sameAnswers(t *testing.T, c api.Cell) {
	t.Helper()
	if got := cell.May(c); got != plainMay(c) {
		t.Fatalf("P5.1: May(%v) = %v", c, got)
	}
	if got := cell.Size(c); got != len(spots(c)) {
		t.Fatalf("P5.1: Size(%v) = %d", c, got)
	}
	if got := cell.Leaves(c); !slices.Equal(got, plainLeaves(c)) {
		t.Fatalf("P5.1: Leaves(%v) = %v", c, got)
	}
	if got := cell.Depth(c); got != plainDepth(c) {
		t.Fatalf("P5.1: Depth(%v) = %d", c, got)
	}
	for _, s := range spots(c) {
		sameFind(t, c, s.id)
		sameFind(t, c, s.id+1)
	}
	sameFind(t, c, -1)
	for _, path := range paths(c) {
		sameAt(t, c, path)
	}
	if !cell.Same(c, c) {
		t.Fatalf("P5.1: Same(%v, itself) is false", c)
	}
}

func sameFind(t *testing.T, c api.Cell, id int) {
	t.Helper()
	want, wantOK := plainFind(c, id)
	if got, ok := cell.Find(c, id); ok != wantOK || !slices.Equal(got, want) {
		t.Fatalf("P5.1: Find(%v, %d) = %v, %v", c, id, got, ok)
	}
}

func sameAt(t *testing.T, c api.Cell, path []int) {
	t.Helper()
	want := plainAt(c, path)
	got, ok := cell.At(c, path...)
	if ok != (want != nil) || ok && !slices.EqualFunc(spots(got), want, sameSpot) || !ok && !isZero(got) {
		t.Fatalf("P5.1: At(%v, %v) = %v, %v", c, path, got, ok)
	}
}

func samePut(t *testing.T, c, kid api.Cell, path []int) {
	t.Helper()
	want, elder := plainPut(c, kid, path), spots(c)
	got, ok := cell.Put(c, kid, path...)
	if !slices.EqualFunc(spots(c), elder, sameSpot) {
		t.Fatalf("P5.2: Put(.., %v, %v) changed the tree itself: %v", kid, path, c)
	}
	if ok != (want != nil) || ok && !slices.EqualFunc(spots(got), want, sameSpot) || !ok && !isZero(got) {
		t.Fatalf("P5.2: Put(%v, %v, %v) = %v, %v", c, kid, path, got, ok)
	}
	if there, found := cell.At(got, path...); ok && (!found || !plainSame(there, kid)) {
		t.Fatalf("P5.2: put at %v of %v is %v, not %v", path, c, there, kid)
	}
}

func isZero(c api.Cell) bool { return plainSame(c, api.Cell{}) }

func TestExample(t *testing.T) {
	c := row(leaf(4), leaf(7))
	if path, ok := cell.Find(c, 7); !ok || !slices.Equal(path, []int{1}) {
		t.Errorf("P5.1: the path of 7 is %v, %v", path, ok)
	}
}

func TestNoTrees(t *testing.T) {
	if !cell.May() || !cell.May([]api.Cell{}...) {
		t.Error("P5.1: none may not be")
	}
	if cell.Size() != 0 || len(cell.Leaves()) != 0 {
		t.Error("P5.1: none have cells")
	}
}

func TestLeaf(t *testing.T) {
	for _, r := range []api.Rect{box(), {}, {X: -1, Y: math.MaxInt, W: math.MinInt, H: 3}} {
		for _, id := range []int{0, 1, maxNum, maxNum + 1, -1, math.MinInt, math.MaxInt} {
			c := cell.Leaf(r, id)
			if c.Kind != leafKind || c.Rect != r || c.ID != id || len(c.Kids) != 0 {
				t.Errorf("P5.1: Leaf(%v, %d) = %v", r, id, c)
			}
		}
	}
}

func TestMay(t *testing.T) {
	for _, c := range []api.Cell{
		leaf(0), leaf(1), leaf(maxNum),
		row(leaf(0), leaf(1)), col(leaf(0), leaf(1)), row(leaf(2), leaf(1), leaf(0)),
		mixed(),
		row(row(leaf(0), leaf(1)), row(leaf(2), leaf(3))), // a row in a row: whether it fits isn't asked here
		{Kind: leafKind, Rect: box(), ID: 1, Kids: []api.Cell{}},
		{Kind: leafKind, Rect: api.Rect{W: 1, H: 1}},
		{Kind: leafKind, Rect: api.Rect{W: maxExtent, H: maxExtent}},
		{Kind: leafKind, Rect: api.Rect{X: maxExtent - 1, Y: maxExtent - 1, W: 1, H: 1}},
		{Kind: rowKind, Rect: api.Rect{W: 1, H: 1}, Kids: []api.Cell{leaf(1), leaf(2)}},
	} {
		if !cell.May(c) || !cell.May(c, c) || !cell.May(leaf(0), c, mixed()) {
			t.Errorf("P5.1: %v may be", c)
		}
	}
}

// wrongCells may not be, neither alone nor in others.
func wrongCells() []api.Cell {
	two := []api.Cell{leaf(101), leaf(102)}
	l := []api.Cell{
		{},
		{Kind: 0, Rect: box()}, {Kind: 0, Rect: box(), Kids: two},
		{Kind: 4, Rect: box()}, {Kind: 4, Rect: box(), Kids: two},
		{Kind: 255, Rect: box(), ID: 3}, {Kind: 255, Rect: box(), Kids: two},
		leaf(-1), leaf(maxNum + 1), leaf(math.MinInt), leaf(math.MaxInt),
		{Kind: leafKind, Rect: box(), ID: 3, Kids: two}, {Kind: leafKind, Rect: box(), ID: 3, Kids: two[:1]},
		row(), col(), row(leaf(101)), col(leaf(101)),
		{Kind: rowKind, Rect: box(), Kids: []api.Cell{}},
		row(leaf(101), leaf(101)), col(leaf(101), leaf(102), leaf(101)),
		row(leaf(101), col(leaf(102), leaf(101))), row(col(leaf(101), leaf(102)), col(leaf(103), leaf(102))),
		row(leaf(0), leaf(0)),
	}
	for _, id := range []int{1, -1, 101, maxNum, math.MinInt, math.MaxInt} {
		l = append(l, api.Cell{Kind: rowKind, Rect: box(), ID: id, Kids: two}, api.Cell{Kind: colKind, Rect: box(), ID: id, Kids: two})
	}
	for _, r := range []api.Rect{
		{}, {X: -1, W: 1, H: 1}, {Y: -1, W: 1, H: 1}, {W: 0, H: 1}, {W: 1, H: 0}, {W: -1, H: 1}, {W: 1, H: -1},
		{W: maxExtent + 1, H: 1}, {W: 1, H: maxExtent + 1}, {X: maxExtent, W: 1, H: 1}, {Y: maxExtent, W: 1, H: 1},
		{X: math.MaxInt, W: 1, H: 1}, {X: math.MaxInt, W: math.MaxInt, H: 1}, {Y: math.MinInt, W: 1, H: math.MinInt},
	} {
		l = append(l, api.Cell{Kind: leafKind, Rect: r, ID: 3}, api.Cell{Kind: rowKind, Rect: r, Kids: two}, api.Cell{Kind: colKind, Rect: r, Kids: two})
	}
	return l
}

func TestMayNot(t *testing.T) {
	for _, c := range wrongCells() {
		for _, l := range [][]api.Cell{
			{c}, {c, leaf(1)}, {leaf(1), c}, {leaf(1), c, leaf(1)},
			{row(c, leaf(1))}, {row(leaf(1), c)}, {col(leaf(1), row(leaf(2), c))}, {mixed(), col(leaf(8), row(c, leaf(9)), leaf(7))},
		} {
			if cell.May(l...) {
				t.Errorf("P5.1: May(%v)", l)
			}
		}
	}
}

// The same leaf may be in two trees, for each of them is asked alone; not twice in one.
func TestMayOfSeveral(t *testing.T) {
	if !cell.May(leaf(1), leaf(1), row(leaf(1), leaf(2)), col(leaf(2), leaf(1))) {
		t.Error("P5.1: trees with leaves of the same IDs may be")
	}
	// A row's ID of 0 is none that a leaf couldn't have.
	if !cell.May(row(leaf(1), leaf(0))) || !cell.May(row(leaf(0), col(leaf(1), leaf(2)))) {
		t.Error("P5.1: a leaf may have the ID 0 in a row")
	}
}

// wide is a row of so many leaves.
func wide(n int) api.Cell {
	c := row()
	for id := range n {
		c.Kids = append(c.Kids, leaf(id))
	}
	return c
}

func TestMostCells(t *testing.T) {
	most, more := wide(maxCells-1), wide(maxCells)
	if !cell.May(most) {
		t.Error("P5.1: a tree of MaxCells cells may be")
	}
	if !cell.May(most, most, leaf(1)) {
		t.Error("P5.1: each tree has its cells for itself")
	}
	if cell.May(more) || cell.May(leaf(1), more) || cell.May(row(most, leaf(maxNum))) {
		t.Error("P5.1: a tree of more than MaxCells cells may not be")
	}
	// Rows in rows: n of them have n leaves and one more.
	stair := leaf(0)
	for id := range (maxCells - 2) / 2 {
		stair = row(stair, leaf(id+1))
	}
	if n := cell.Size(stair); n != maxCells-1 || !cell.May(stair) {
		t.Errorf("P5.1: a stair of %d cells may be", n)
	}
	stair = row(stair, leaf(maxNum))
	if n := cell.Size(stair); n != maxCells+1 || cell.May(stair) {
		t.Errorf("P5.1: a stair of %d cells may not be", n)
	}
}

// A tree whose kids are few lists, but beyond all counting, may not be, and that is told at once.
func TestMayEnds(t *testing.T) {
	c := leaf(1)
	for range 200 {
		c = row(c, c)
	}
	if cell.May(c) {
		t.Error("P5.1: 2^200 leaves")
	}
	round := make([]api.Cell, 2)
	round[0], round[1] = row(round...), col(round...)
	if cell.May(round[0]) || cell.May(leaf(1), round[1]) {
		t.Error("P5.1: a tree that has itself among its kids")
	}
}

func TestSizeAndDepth(t *testing.T) {
	for _, c := range []struct {
		tree        api.Cell
		size, depth int
	}{
		{leaf(1), 1, 1},
		{api.Cell{}, 1, 1},
		{row(), 1, 1},
		{row(leaf(1)), 2, 2},
		{row(leaf(1), leaf(1), leaf(1)), 4, 2},
		{mixed(), 8, 4},
		{row(row(row(row())), leaf(1)), 5, 4},
		{row(leaf(1), row(row(row()))), 5, 4},
		{row(leaf(1), row(row()), leaf(2)), 5, 3},
		{api.Cell{Kind: leafKind, Kids: []api.Cell{leaf(1), {Kind: 9, Kids: []api.Cell{{}}}}}, 4, 3},
	} {
		if got := cell.Size(c.tree); got != c.size {
			t.Errorf("P5.1: Size(%v) = %d, not %d", c.tree, got, c.size)
		}
		if got := cell.Depth(c.tree); got != c.depth {
			t.Errorf("P5.1: Depth(%v) = %d, not %d", c.tree, got, c.depth)
		}
		if got := cell.Size(c.tree, mixed(), c.tree); got != 2*c.size+8 {
			t.Errorf("P5.1: Size(%v, .., itself) = %d", c.tree, got)
		}
	}
}

func TestLeaves(t *testing.T) {
	// A leaf with kids may not be, but stands ahead of theirs; a cell of no kind is no leaf.
	odd := api.Cell{Kind: leafKind, ID: 9, Kids: []api.Cell{leaf(2), {Kind: 0, ID: 4, Kids: []api.Cell{leaf(-8)}}, leaf(2)}}
	for _, c := range []struct {
		trees []api.Cell
		want  []int
	}{
		{[]api.Cell{leaf(4)}, []int{4}},
		{[]api.Cell{{}}, nil},
		{[]api.Cell{row()}, nil},
		{[]api.Cell{{Kind: 4, ID: 7}}, nil},
		{[]api.Cell{mixed()}, []int{3, 1, 0, 5, 7}},
		{[]api.Cell{odd}, []int{9, 2, -8, 2}},
		{[]api.Cell{mixed(), leaf(1), odd, col(leaf(8), leaf(6))}, []int{3, 1, 0, 5, 7, 1, 9, 2, -8, 2, 8, 6}},
	} {
		if got := cell.Leaves(c.trees...); !slices.Equal(got, c.want) {
			t.Errorf("P5.1: Leaves(%v) = %v, not %v", c.trees, got, c.want)
		}
	}
}

func TestFind(t *testing.T) {
	odd := api.Cell{Kind: leafKind, ID: 9, Kids: []api.Cell{leaf(2), leaf(9)}}
	group := api.Cell{Kind: rowKind, ID: 5, Kids: []api.Cell{leaf(1), leaf(5)}}
	for _, c := range []struct {
		tree api.Cell
		id   int
		want []int
		ok   bool
	}{
		{leaf(4), 4, nil, true},
		{leaf(4), 3, nil, false},
		{leaf(-4), -4, nil, true},
		{api.Cell{}, 0, nil, false},
		{row(), 0, nil, false},
		{mixed(), 3, []int{0}, true},
		{mixed(), 1, []int{1, 0}, true},
		{mixed(), 0, []int{1, 1, 0}, true},
		{mixed(), 5, []int{1, 1, 1}, true},
		{mixed(), 7, []int{2}, true},
		{mixed(), 2, nil, false},
		{mixed(), -1, nil, false},
		{mixed(), math.MinInt, nil, false},
		{row(leaf(1), leaf(2), leaf(2)), 2, []int{1}, true},
		{row(col(leaf(1), leaf(2)), leaf(2)), 2, []int{0, 1}, true},
		{odd, 9, nil, true},
		{odd, 2, []int{0}, true},
		{row(leaf(0), odd), 9, []int{1}, true},
		{group, 5, []int{1}, true}, // the row that has this ID is no leaf
	} {
		if got, ok := cell.Find(c.tree, c.id); ok != c.ok || !slices.Equal(got, c.want) {
			t.Errorf("P5.1: Find(%v, %d) = %v, %v", c.tree, c.id, got, ok)
		}
	}
}

func TestAtAndPut(t *testing.T) {
	odd := func() api.Cell { return api.Cell{Kind: 77, ID: -3, Kids: []api.Cell{row()}} }
	kids := []api.Cell{leaf(9), {}, col(leaf(1), leaf(1)), mixed(), odd()}
	for _, c := range []api.Cell{leaf(1), {}, row(), row(leaf(1)), mixed(), odd(), {Kind: leafKind, ID: 3, Kids: []api.Cell{leaf(1), leaf(2)}}} {
		for _, path := range paths(c) {
			sameAt(t, c, path)
			for _, kid := range kids {
				samePut(t, c, kid, path)
			}
		}
	}
	if got, ok := cell.Put(mixed(), leaf(9), 1, 1); !ok || !cell.Same(got, row(leaf(3), col(leaf(1), leaf(9)), leaf(7))) {
		t.Errorf("P5.2: Put = %v, %v", got, ok)
	}
	if got, ok := cell.Put(mixed(), leaf(9)); !ok || !cell.Same(got, leaf(9)) {
		t.Errorf("P5.2: Put at the empty path = %v, %v", got, ok)
	}
	if got, ok := cell.At(mixed()); !ok || !cell.Same(got, mixed()) {
		t.Errorf("P5.1: At the empty path = %v, %v", got, ok)
	}
}

func TestSame(t *testing.T) {
	base := mixed()
	for _, s := range spots(base) {
		for _, change := range []func(c *api.Cell){
			func(c *api.Cell) { c.Kind++ },
			func(c *api.Cell) { c.X++ },
			func(c *api.Cell) { c.Y++ },
			func(c *api.Cell) { c.W++ },
			func(c *api.Cell) { c.H++ },
			func(c *api.Cell) { c.ID++ },
			func(c *api.Cell) { c.Kids = append(slices.Clone(c.Kids), leaf(1)) },
			func(c *api.Cell) { c.Kids = append([]api.Cell{{}}, c.Kids...) },
			func(c *api.Cell) { c.Kids = c.Kids[:max(len(c.Kids)-1, 0)]; c.Kind += uint8(1 - min(s.kids, 1)) },
		} {
			other := mixed()
			place := &other
			for _, k := range s.path {
				place = &place.Kids[k]
			}
			change(place)
			if cell.Same(base, other) || cell.Same(other, base) {
				t.Errorf("P5.1: changed at %v, %v is the same", s.path, other)
			}
			if !cell.Same(other, other) {
				t.Errorf("P5.1: %v isn't itself", other)
			}
		}
	}
	if !cell.Same(base, mixed()) || !cell.Same(api.Cell{}, api.Cell{}) {
		t.Error("P5.1: the same in other memory")
	}
	if !cell.Same(api.Cell{Kind: leafKind}, api.Cell{Kind: leafKind, Kids: []api.Cell{}}) {
		t.Error("P0.5: no kids are no kids")
	}
	if cell.Same(row(leaf(1), leaf(2)), row(leaf(2), leaf(1))) || cell.Same(row(leaf(1), leaf(2)), col(leaf(1), leaf(2))) {
		t.Error("P5.1: Same in another order, or of another kind")
	}
}

// smallTrees are all trees of at most so many cells, of a few kinds and IDs.
func smallTrees(cells int) []api.Cell {
	var heads []api.Cell
	for kind := range uint8(4) {
		for id := range 2 {
			heads = append(heads, api.Cell{Kind: kind, Rect: box(), ID: id})
		}
	}
	bySize := make([][]api.Cell, cells+1)
	var all []api.Cell
	for n := 1; n <= cells; n++ {
		forests(bySize, n-1, nil, func(kids []api.Cell) {
			for _, c := range heads {
				c.Kids = slices.Clone(kids)
				bySize[n] = append(bySize[n], c)
			}
		})
		all = append(all, bySize[n]...)
	}
	return all
}

// forests does something with all lists of trees that have so many cells in all.
func forests(bySize [][]api.Cell, cells int, kids []api.Cell, do func(kids []api.Cell)) {
	if cells == 0 {
		do(kids)
		return
	}
	for n := 1; n <= cells; n++ {
		for _, c := range bySize[n] {
			forests(bySize, cells-n, append(kids, c), do)
		}
	}
}

func TestEverySmallTree(t *testing.T) {
	all := smallTrees(4)
	may := 0
	for _, c := range all {
		sameAnswers(t, c)
		if cell.May(c) {
			may++
		}
	}
	// Two leaves; a row or a column of both, in either order: with two IDs there are no more.
	if may != 2+2*2 {
		t.Errorf("P5.1: %d of the small trees may be", may)
	}
}

func TestEverySmallPair(t *testing.T) {
	few := smallTrees(3)
	for _, a := range smallTrees(2) {
		for _, b := range few {
			if got := cell.Same(a, b); got != plainSame(a, b) {
				t.Fatalf("P5.1: Same(%v, %v) = %v", a, b, got)
			}
		}
	}
	for _, b := range few {
		for _, path := range paths(b) {
			samePut(t, b, row(leaf(7), leaf(8)), path)
		}
	}
}

// randomTree is a tree that may be, or nearly so: now and then something in it is wrong.
func randomTree(g *rand.Rand, cells int) api.Cell {
	c := leaf(g.Intn(500))
	c.Rect = api.Rect{X: g.Intn(3), Y: g.Intn(3), W: 1 + g.Intn(5), H: 1 + g.Intn(5)}
	if cells > 2 && g.Intn(4) > 0 {
		c.Kind, c.ID = rowKind+uint8(g.Intn(2)), 0
		for range 2 + g.Intn(3) {
			c.Kids = append(c.Kids, randomTree(g, cells/3))
		}
	}
	switch g.Intn(150) {
	case 0:
		c.Kind = uint8(g.Intn(6))
	case 1:
		c.ID -= 500
	case 2:
		c.W = 0
	case 3:
		c.Kids = append(c.Kids, leaf(1))
	case 4:
		c.Kids = c.Kids[:len(c.Kids)/2]
	}
	return c
}

func TestManyTrees(t *testing.T) {
	g := rand.New(rand.NewSource(55))
	may, deep := 0, 0
	for range 1000 {
		c, kid := randomTree(g, 1+g.Intn(60)), randomTree(g, 1+g.Intn(9))
		sameAnswers(t, c)
		ways := paths(c)
		for range 5 {
			samePut(t, c, kid, ways[g.Intn(len(ways))])
		}
		if got := cell.Leaves(kid, c); !slices.Equal(got, plainLeaves(kid, c)) {
			t.Fatalf("P5.1: Leaves(%v, %v) = %v", kid, c, got)
		}
		if got := cell.May(kid, c); got != (plainMay(kid) && plainMay(c)) {
			t.Fatalf("P5.1: May(%v, %v) = %v", kid, c, got)
		}
		if cell.May(c) && len(c.Kids) > 0 {
			may++
		}
		deep = max(deep, cell.Depth(c))
	}
	if may < 100 || deep < 4 {
		t.Errorf("only %d trees with kids might be, the deepest one %d deep", may, deep)
	}
}

// As deep as the document bounds it: every call ends, and in time.
func TestDeepest(t *testing.T) {
	c := leaf(7)
	for range maxNested - 1 {
		c = api.Cell{Kind: rowKind, Rect: box(), Kids: []api.Cell{{Kind: 9}, c}}
	}
	if cell.Size(c) != 2*maxNested-1 || cell.Depth(c) != maxNested || cell.May(c) || !slices.Equal(cell.Leaves(c), []int{7}) {
		t.Error("P5.1: counts of a deep tree")
	}
	path, ok := cell.Find(c, 7)
	if !ok || !slices.Equal(path, slices.Repeat([]int{1}, maxNested-1)) {
		t.Error("P5.1: Find in a deep tree")
	}
	if there, ok := cell.At(c, path...); !ok || !cell.Same(there, leaf(7)) {
		t.Error("P5.1: At of a deep tree")
	}
	if _, ok := cell.At(c, append(path, 0)...); ok {
		t.Error("P5.1: At below a leaf")
	}
	d, ok := cell.Put(c, leaf(8), path...)
	if !ok || !slices.Equal(cell.Leaves(d), []int{8}) || !slices.Equal(cell.Leaves(c), []int{7}) || cell.Same(c, d) {
		t.Error("P5.2: Put into a deep tree")
	}
	if d, ok = cell.Put(d, leaf(7), path...); !ok || !cell.Same(c, d) {
		t.Error("P5.2: Put back into a deep tree")
	}
}

// roomy is the tree with room behind each list of kids, filled with something that is none of them.
func roomy(c api.Cell) api.Cell {
	kids := make([]api.Cell, 0, len(c.Kids)+2)
	for _, kid := range c.Kids {
		kids = append(kids, roomy(kid))
	}
	copy(kids[len(kids):cap(kids)], []api.Cell{leaf(-77), leaf(-78)})
	c.Kids = kids
	return c
}

// untouched tells whether the room that roomy made is as it was, in the whole tree.
func untouched(c api.Cell) bool {
	room := c.Kids[len(c.Kids):cap(c.Kids)]
	return len(room) == 2 && plainSame(room[0], leaf(-77)) && plainSame(room[1], leaf(-78)) &&
		!slices.ContainsFunc(c.Kids, func(kid api.Cell) bool { return !untouched(kid) })
}

// What is handed in isn't changed, nor is the room behind its end.
func TestNothingIsChanged(t *testing.T) {
	c, kid := roomy(mixed()), roomy(row(leaf(11), leaf(12)))
	room := []int{1, 1, 0, 5}
	path := room[:2]
	cell.May(c, kid)
	cell.Size(c, kid)
	cell.Leaves(c, kid)
	cell.Depth(c)
	cell.Find(c, 5)
	cell.At(c, path...)
	cell.Put(c, kid, path...)
	cell.Put(c, kid)
	cell.Put(c, kid, append(slices.Clone(path), 9)...)
	cell.Same(c, kid)
	if !plainSame(c, mixed()) || !untouched(c) || !plainSame(kid, row(leaf(11), leaf(12))) || !untouched(kid) {
		t.Errorf("P0.4: trees that were handed in are changed: %v, %v", c, kid)
	}
	if !slices.Equal(room, []int{1, 1, 0, 5}) {
		t.Errorf("P0.4: a path that was handed in is changed: %v", room)
	}
	trees := []api.Cell{mixed(), leaf(1), leaf(2)}
	cell.May(trees[:2]...)
	cell.Size(trees[:2]...)
	cell.Leaves(trees[:2]...)
	if !plainSame(trees[0], mixed()) || !plainSame(trees[1], leaf(1)) || !plainSame(trees[2], leaf(2)) {
		t.Errorf("P0.4: a list that was handed in is changed: %v", trees)
	}
}

// scribble writes all over a tree's lists of kids, and over the room behind their ends.
func scribble(c api.Cell) {
	l := c.Kids[:cap(c.Kids)]
	for i := range l {
		scribble(l[i])
		l[i] = leaf(-99)
	}
}

// Somebody who writes into an answer changes neither what was handed in nor a later answer, and
// the other way round.
func TestAnswersAreNewMemory(t *testing.T) {
	kid := func() api.Cell { return row(leaf(11), col(leaf(12), leaf(13))) }
	for _, path := range [][]int{{}, {0}, {1}, {1, 0}, {1, 1}, {1, 1, 1}, {2}} {
		want := plainPut(mixed(), kid(), path)
		c, k := roomy(mixed()), roomy(kid())
		put, _ := cell.Put(c, k, path...)
		again, _ := cell.Put(c, k, path...)
		scribble(put)
		if !plainSame(c, mixed()) || !untouched(c) || !plainSame(k, kid()) || !untouched(k) {
			t.Errorf("P0.4: what was put at %v shares memory with what was handed in", path)
		}
		scribble(c)
		scribble(k)
		if !slices.EqualFunc(spots(again), want, sameSpot) {
			t.Errorf("P0.4: what was put at %v is changed from outside: %v", path, again)
		}

		c = roomy(mixed())
		at, _ := cell.At(c, path...)
		again, _ = cell.At(c, path...)
		scribble(at)
		if !plainSame(c, mixed()) || !untouched(c) {
			t.Errorf("P0.4: the cell at %v shares memory with the tree", path)
		}
		scribble(c)
		if !slices.EqualFunc(spots(again), plainAt(mixed(), path), sameSpot) {
			t.Errorf("P0.4: the cell at %v is changed from outside: %v", path, again)
		}
	}
	c := mixed()
	ids := cell.Leaves(c)
	path, _ := cell.Find(c, 5)
	for _, l := range [][]int{ids[:cap(ids)], path[:cap(path)]} {
		for i := range l {
			l[i] = -99
		}
	}
	sameAnswers(t, c)
}

// No two lists of one answer share memory, whatever those that were handed in share.
func TestListsOfOneAnswer(t *testing.T) {
	pair := []api.Cell{leaf(1), leaf(2)}
	shared := func() api.Cell { return row(row(pair...), row(pair...), leaf(3)) }
	at, _ := cell.At(shared())
	scribble(at.Kids[0])
	if !plainSame(at.Kids[1], row(leaf(1), leaf(2))) {
		t.Errorf("P0.4: two lists of one tree share memory: %v", at)
	}
	put, _ := cell.Put(shared(), row(pair...), 2)
	scribble(put.Kids[2])
	if !plainSame(put.Kids[0], row(leaf(1), leaf(2))) || !plainSame(put.Kids[1], row(leaf(1), leaf(2))) {
		t.Errorf("P0.4: what was put shares memory with its tree: %v", put)
	}
	whole := mixed()
	put, _ = cell.Put(whole, whole, 2)
	scribble(put.Kids[2])
	if !plainSame(put.Kids[1], mixed().Kids[1]) || !plainSame(whole, mixed()) {
		t.Errorf("P0.4: a tree that was put into itself shares memory: %v", put)
	}
}

func TestTheSameAgain(t *testing.T) {
	c := mixed()
	for range 3 {
		sameAnswers(t, c)
		samePut(t, c, leaf(9), []int{1, 1, 0})
		if cell.May(row(c, c)) || cell.Size(c, c) != 16 {
			t.Error("P0.6: May, Size")
		}
	}
}

// grow makes a tree of bytes, four for each cell.
func grow(b []byte) (api.Cell, []byte) {
	if len(b) < 4 {
		return leaf(len(b)), nil
	}
	c := api.Cell{Kind: b[0] % 5, Rect: api.Rect{X: int(b[1] & 3), Y: 0, W: int(b[1]>>2) & 7, H: 1}, ID: int(int8(b[2]))}
	kids := int(b[3] & 3)
	b = b[4:]
	for range kids {
		var kid api.Cell
		kid, b = grow(b)
		c.Kids = append(c.Kids, kid)
	}
	return c, b
}

func FuzzTrees(f *testing.F) {
	f.Add([]byte{}, []byte{1, 4, 7, 0}, 0, 0)
	f.Add([]byte{2, 4, 0, 2, 1, 4, 4, 0, 1, 4, 7, 0}, []byte{1, 4, 9, 0}, 1, -1)
	f.Add([]byte{3, 4, 0, 2, 2, 4, 0, 2, 1, 4, 1, 0, 1, 4, 2, 0, 1, 4, 3, 0}, []byte{1, 4, 9, 2}, 0, 1)
	f.Fuzz(func(t *testing.T, tree, other []byte, i, j int) {
		if len(tree) > 400 || len(other) > 400 {
			return
		}
		a, _ := grow(tree)
		b, _ := grow(other)
		sameAnswers(t, a)
		for _, path := range [][]int{{}, {i}, {i, j}, {i, j, 0}} {
			sameAt(t, a, path)
			samePut(t, a, b, path)
		}
		if got := cell.Same(a, b); got != plainSame(a, b) {
			t.Errorf("P5.1: Same(%v, %v) = %v", a, b, got)
		}
	})
}
