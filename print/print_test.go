package print_test

import (
	"fmt"
	"math"
	"math/rand"
	"slices"
	"strconv"
	"strings"
	"testing"

	"sash/api"
	"sash/print"
)

// What the document tells in numbers is written out here, not taken from api.
const (
	leafKind  = uint8(1)
	rowKind   = uint8(2)
	colKind   = uint8(3)
	ok        = api.Errno(0)
	errArg    = api.Errno(1)
	errLong   = api.Errno(3)
	maxNum    = 2147483647
	maxExtent = 10000
	maxCells  = 20000
	maxLayout = 65535
	maxDeep   = 1000
	maxNested = 1 << 16
)

func of(x, y, w, h int) api.Rect { return api.Rect{X: x, Y: y, W: w, H: h} }

func leaf(id int, r api.Rect) api.Cell { return api.Cell{Kind: leafKind, Rect: r, ID: id} }

func row(r api.Rect, kids ...api.Cell) api.Cell {
	return api.Cell{Kind: rowKind, Rect: r, Kids: kids}
}

func col(r api.Rect, kids ...api.Cell) api.Cell {
	return api.Cell{Kind: colKind, Rect: r, Kids: kids}
}

// mixed is a tree that tiles, with all kinds of cells. Their numbers are: 0 the row, 1 the leaf 3,
// 2 a column, 3 the leaf 1, 4 a row, 5 the leaf 0, 6 the leaf 5, 7 the leaf 7.
func mixed() api.Cell {
	low := row(of(9, 9, 6, 4), leaf(0, of(9, 9, 3, 4)), leaf(5, of(13, 9, 2, 4)))
	mid := col(of(9, 2, 6, 11), leaf(1, of(9, 2, 6, 6)), low)
	return row(of(3, 2, 17, 11), leaf(3, of(3, 2, 5, 11)), mid, leaf(7, of(16, 2, 4, 11)))
}

// cells are all cells of a tree, each ahead of its kids: where one stands in the list is its number.
func cells(c api.Cell) []api.Cell {
	var l []api.Cell
	stack := []api.Cell{c}
	for len(stack) > 0 {
		c := stack[len(stack)-1]
		stack = stack[:len(stack)-1]
		l = append(l, c)
		for k := len(c.Kids) - 1; k >= 0; k-- {
			stack = append(stack, c.Kids[k])
		}
	}
	return l
}

// place is where the cell with a number stands in a tree, to be written at.
func place(c *api.Cell, number int) *api.Cell {
	for number > 0 {
		number--
		for k := range c.Kids {
			n := len(cells(c.Kids[k]))
			if number < n {
				c = &c.Kids[k]
				break
			}
			number -= n
		}
	}
	return c
}

// clone is the same tree in memory of its own.
func clone(c api.Cell) api.Cell {
	c.Kids = slices.Clone(c.Kids)
	for k := range c.Kids {
		c.Kids[k] = clone(c.Kids[k])
	}
	return c
}

func same(a, b api.Cell) bool {
	return a.Kind == b.Kind && a.Rect == b.Rect && a.ID == b.ID && slices.EqualFunc(a.Kids, b.Kids, same)
}

func plainMay(c api.Cell) bool {
	far := func(from, size int) bool {
		return from >= 0 && from <= maxExtent && size >= 1 && size <= maxExtent && from+size <= maxExtent
	}
	met := map[int]bool{}
	l := cells(c)
	for _, c := range l {
		isLeaf := c.Kind == leafKind && len(c.Kids) == 0 && c.ID >= 0 && c.ID <= maxNum && !met[c.ID]
		isGroup := (c.Kind == rowKind || c.Kind == colKind) && c.ID == 0 && len(c.Kids) >= 2
		if !isLeaf && !isGroup || !far(c.X, c.W) || !far(c.Y, c.H) {
			return false
		}
		if isLeaf {
			met[c.ID] = true
		}
	}
	return len(l) <= maxCells
}

// plainFilled tells whether a cell that may be has kids that stand side by side, with one column
// (line) between them, from its beginning to its end.
func plainFilled(c api.Cell) bool {
	if c.Kind == leafKind {
		return true
	}
	x, y := c.X, c.Y
	for _, kid := range c.Kids {
		if kid.X != x || kid.Y != y {
			return false
		}
		if c.Kind == rowKind && kid.H == c.H {
			x += kid.W + 1
		} else if c.Kind == colKind && kid.W == c.W {
			y += kid.H + 1
		} else {
			return false
		}
	}
	if c.Kind == rowKind {
		return x == c.X+c.W+1
	}
	return y == c.Y+c.H+1
}

func plainTiles(c api.Cell) bool {
	return plainMay(c) && !slices.ContainsFunc(cells(c), func(c api.Cell) bool { return !plainFilled(c) })
}

// plainDepth is how deep a tree is, gone through layer by layer.
func plainDepth(c api.Cell) int {
	n := 0
	for l := []api.Cell{c}; len(l) > 0; n++ {
		var below []api.Cell
		for _, c := range l {
			below = append(below, c.Kids...)
		}
		l = below
	}
	return n
}

func plainHead(r api.Rect) string {
	of := func(n int) string {
		if n < 0 || n > maxNum {
			return ""
		}
		return strconv.Itoa(n)
	}
	return of(r.W) + "x" + of(r.H) + "," + of(r.X) + "," + of(r.Y)
}

// plainTell is the body of a tree that tiles. What is still to be told stands on a stack: a cell, or
// a text.
func plainTell(c api.Cell) string {
	var b strings.Builder
	stack := []any{c}
	for len(stack) > 0 {
		top := stack[len(stack)-1]
		stack = stack[:len(stack)-1]
		c, isCell := top.(api.Cell)
		if !isCell {
			fmt.Fprint(&b, top)
			continue
		}
		fmt.Fprintf(&b, "%dx%d,%d,%d", c.W, c.H, c.X, c.Y)
		if c.Kind == leafKind {
			fmt.Fprintf(&b, ",%d", c.ID)
			continue
		}
		brackets := map[uint8]string{rowKind: "{}", colKind: "[]"}[c.Kind]
		b.WriteByte(brackets[0])
		stack = append(stack, brackets[1:])
		for k := len(c.Kids) - 1; k >= 0; k-- {
			stack = append(stack, c.Kids[k])
			if k > 0 {
				stack = append(stack, ",")
			}
		}
	}
	return b.String()
}

func plainSum(s string) int {
	c := 0
	for _, b := range []byte(s) {
		c = c/2 + c%2*32768
		c = (c + int(b)) % 65536
	}
	return c
}

func plainBody(c api.Cell) (string, api.Errno) {
	if !plainTiles(c) {
		return "", errArg
	}
	return plainTell(c), ok
}

func plainText(c api.Cell) (string, api.Errno) {
	body, e := plainBody(c)
	if e != ok {
		return "", e
	}
	text := fmt.Sprintf("%04x,%s", plainSum(body), body)
	if len(text) > maxLayout || plainDepth(c) > maxDeep {
		return "", errLong
	}
	return text, ok
}

// reader takes a body from its beginning on, and is wrong from the first byte on that isn't as said.
type reader struct {
	rest  string
	wrong bool
}

func (r *reader) number() int {
	k := 0
	for k < len(r.rest) && '0' <= r.rest[k] && r.rest[k] <= '9' {
		k++
	}
	n, err := strconv.Atoi(r.rest[:k])
	r.wrong = r.wrong || err != nil || strconv.Itoa(n) != r.rest[:k]
	r.rest = r.rest[k:]
	return n
}

// take takes the next byte; it must be one of these.
func (r *reader) take(signs string) byte {
	if r.wrong || r.rest == "" || !strings.Contains(signs, r.rest[:1]) {
		r.wrong = true
		return 0
	}
	sign := r.rest[0]
	r.rest = r.rest[1:]
	return sign
}

func (r *reader) cell() api.Cell {
	var c api.Cell
	for _, step := range []struct {
		n    *int
		sign string
	}{{&c.W, "x"}, {&c.H, ","}, {&c.X, ","}, {&c.Y, ",{["}} {
		*step.n = r.number()
		sign := r.take(step.sign)
		c.Kind = map[byte]uint8{'{': rowKind, '[': colKind, ',': leafKind}[sign]
	}
	if c.Kind == leafKind {
		c.ID = r.number()
	}
	closing := map[uint8]string{rowKind: "}", colKind: "]"}[c.Kind]
	for !r.wrong && c.Kind != leafKind {
		c.Kids = append(c.Kids, r.cell())
		if r.take(","+closing) != ',' {
			break
		}
	}
	return c
}

// readBack is the tree of a body.
func readBack(body string) (api.Cell, bool) {
	r := reader{rest: body}
	c := r.cell()
	return c, !r.wrong && r.rest == ""
}

// short is a tree for a message: a great one isn't told whole.
func short(c api.Cell) string {
	s := fmt.Sprint(c)
	return s[:min(len(s), 300)]
}

// sameAnswers holds all that is asked of one tree against the plain reading.
func sameAnswers(t *testing.T, c api.Cell) {
	t.Helper()
	want, wantErr := plainBody(c)
	if got, e := print.Body(c); got != want || e != wantErr {
		t.Fatalf("P10.1: Body(%s) = %.300q, %v, not %.300q, %v", short(c), got, e, want, wantErr)
	}
	if wantErr == ok {
		if back, whole := readBack(want); !whole || !same(back, c) {
			t.Fatalf("P10.2: the body %.300q is read as %s", want, short(back))
		}
	}
	want, wantErr = plainText(c)
	if got, e := print.Text(c); got != want || e != wantErr {
		t.Fatalf("P10.1: Text(%s) = %.300q, %v, not %.300q, %v", short(c), got, e, want, wantErr)
	}
	if got := print.Fits(c); got != (wantErr == ok) {
		t.Fatalf("P10.1: Fits(%s) = %v", short(c), got)
	}
	sameHead(t, c.Rect)
}

func sameHead(t *testing.T, r api.Rect) {
	t.Helper()
	if got, want := print.Head(r), plainHead(r); got != want {
		t.Fatalf("P10.1: Head(%v) = %q, not %q", r, got, want)
	}
}

func TestExamples(t *testing.T) {
	for id, want := range []string{"b25d,80x24,0,0,0", "b25e,80x24,0,0,1"} {
		if s, e := print.Text(leaf(id, of(0, 0, 80, 24))); s != want || e != ok {
			t.Errorf("P10.1: Text = %q, %v, not %q", s, e, want)
		}
	}
}

func TestHead(t *testing.T) {
	for want, r := range map[string]api.Rect{
		"80x24,0,0":                           of(0, 0, 80, 24),
		"3x4,1,2":                             of(1, 2, 3, 4),
		"0x0,0,0":                             {},
		"10000x10000,10000,10000":             of(maxExtent, maxExtent, maxExtent, maxExtent),
		"2147483647x2147483647,2147483647,10": of(maxNum, 10, maxNum, maxNum),
		"x,,":                                 of(-1, -1, -1, -1),
		"x4,1,2":                              of(1, 2, -3, 4),
		"3x,1,2":                              of(1, 2, 3, maxNum+1),
		"3x4,,2":                              of(math.MinInt, 2, 3, 4),
		"3x4,1,":                              of(1, math.MaxInt, 3, 4),
		"x2147483647,,2147483646":             of(-maxNum, maxNum-1, maxNum+1, maxNum),
		"1000000000x1000000001,100000000,9999999": of(100000000, 9999999, 1000000000, 1000000001),
	} {
		if got := print.Head(r); got != want {
			t.Errorf("P10.1: Head(%v) = %q, not %q", r, got, want)
		}
	}
	numbers := []int{math.MinInt, -maxNum - 1, -1, 0, 1, 9, 10, 99, maxExtent, maxExtent + 1, maxNum, maxNum + 1, 1 << 32, math.MaxInt}
	for _, x := range numbers {
		for _, y := range numbers {
			for _, w := range numbers {
				for _, h := range numbers {
					sameHead(t, of(x, y, w, h))
				}
			}
		}
	}
}

func TestMixed(t *testing.T) {
	c := mixed()
	const want = "17x11,3,2{5x11,3,2,3,6x11,9,2[6x6,9,2,1,6x4,9,9{3x4,9,9,0,2x4,13,9,5}],4x11,16,2,7}"
	if s, e := print.Body(c); s != want || e != ok {
		t.Errorf("P10.1: Body = %q, %v, not %q", s, e, want)
	}
	text := fmt.Sprintf("%04x,", plainSum(want)) + want
	if s, e := print.Text(c); s != text || e != ok {
		t.Errorf("P10.1: Text = %q, %v, not %q", s, e, text)
	}
	if !print.Fits(c) || !print.Fits(c, c, leaf(0, of(0, 0, 1, 1))) {
		t.Error("P10.1: it has a text, but doesn't fit")
	}
	sameAnswers(t, c)
}

func TestTexts(t *testing.T) {
	pair := func(kind uint8, x, y, w, h, id int) api.Cell {
		if kind == rowKind {
			return row(of(x, y, w, h), leaf(id, of(x, y, 1, h)), leaf(id+1, of(x+2, y, w-2, h)))
		}
		return col(of(x, y, w, h), leaf(id, of(x, y, w, 1)), leaf(id+1, of(x, y+2, w, h-2)))
	}
	for body, c := range map[string]api.Cell{
		"1x1,0,0,0":                                                          leaf(0, of(0, 0, 1, 1)),
		"1x1,5,6,2147483647":                                                 leaf(maxNum, of(5, 6, 1, 1)),
		"10000x10000,0,0,10":                                                 leaf(10, of(0, 0, maxExtent, maxExtent)),
		"1x1,9999,9999,1":                                                    leaf(1, of(maxExtent-1, maxExtent-1, 1, 1)),
		"3x1,0,0{1x1,0,0,1,1x1,2,0,0}":                                       row(of(0, 0, 3, 1), leaf(1, of(0, 0, 1, 1)), leaf(0, of(2, 0, 1, 1))),
		"1x3,0,0[1x1,0,0,1,1x1,0,2,0]":                                       col(of(0, 0, 1, 3), leaf(1, of(0, 0, 1, 1)), leaf(0, of(0, 2, 1, 1))),
		"5x3,1,2{1x3,1,2,7,3x3,3,2,8}":                                       pair(rowKind, 1, 2, 5, 3, 7),
		"5x3,1,2[5x1,1,2,7,5x1,1,4,8]":                                       pair(colKind, 1, 2, 5, 3, 7),
		"5x2,0,0{3x2,0,0{1x2,0,0,1,1x2,2,0,2},1x2,4,0,3}":                    row(of(0, 0, 5, 2), pair(rowKind, 0, 0, 3, 2, 1), leaf(3, of(4, 0, 1, 2))),
		"2x5,0,0[2x1,0,0,3,2x3,0,2[2x1,0,2,1,2x1,0,4,2]]":                    col(of(0, 0, 2, 5), leaf(3, of(0, 0, 2, 1)), pair(colKind, 0, 2, 2, 3, 1)),
		"5x3,0,0{1x3,0,0,3,3x3,2,0[3x1,2,0,1,3x1,2,2,2]}":                    row(of(0, 0, 5, 3), leaf(3, of(0, 0, 1, 3)), pair(colKind, 2, 0, 3, 3, 1)),
		"3x5,0,0[3x3,0,0{1x3,0,0,1,1x3,2,0,2},3x1,0,4,3]":                    col(of(0, 0, 3, 5), pair(rowKind, 0, 0, 3, 3, 1), leaf(3, of(0, 4, 3, 1))),
		"7x3,0,0{3x3,0,0[3x1,0,0,1,3x1,0,2,2],3x3,4,0[3x1,4,0,3,3x1,4,2,4]}": row(of(0, 0, 7, 3), pair(colKind, 0, 0, 3, 3, 1), pair(colKind, 4, 0, 3, 3, 3)),
	} {
		if s, e := print.Body(c); s != body || e != ok {
			t.Errorf("P10.1: Body(%v) = %q, %v, not %q", c, s, e, body)
		}
		text := fmt.Sprintf("%04x,", plainSum(body)) + body
		if s, e := print.Text(c); s != text || e != ok {
			t.Errorf("P10.1: Text(%v) = %q, %v, not %q", c, s, e, text)
		}
		sameAnswers(t, c)
	}
}

// A sum may have noughts ahead: they are written, for it has four digits.
func TestSmallSums(t *testing.T) {
	ahead := map[int]int{}
	for x := range 9000 {
		for id := range 100 {
			sum := plainSum(fmt.Sprintf("1x1,%d,0,%d", x, id))
			if sum >= 1<<12 {
				continue
			}
			ahead[len(fmt.Sprintf("%x", sum))]++
			c := leaf(id, of(x, 0, 1, 1))
			if s, e := print.Text(c); s != fmt.Sprintf("%04x,1x1,%d,0,%d", sum, x, id) || e != ok {
				t.Fatalf("P10.1: Text(%v) = %q, %v", c, s, e)
			}
		}
	}
	if ahead[3] == 0 || ahead[2] == 0 {
		t.Errorf("so many sums of so many digits: %v", ahead)
	}
}

// refused holds a tree that has no text, for a reason, against what is to be answered.
func refused(t *testing.T, c api.Cell, e api.Errno) {
	t.Helper()
	if s, got := print.Text(c); s != "" || got != e {
		t.Errorf("P10.1: Text(%s) = %.300q, %v, not %v", short(c), s, got, e)
	}
	fine := mixed()
	if print.Fits(c) || print.Fits(c, fine) || print.Fits(fine, c) || print.Fits(fine, c, fine) {
		t.Errorf("P10.1: %s fits", short(c))
	}
	if e != errArg {
		return
	}
	if s, got := print.Body(c); s != "" || got != e {
		t.Errorf("P10.1: Body(%s) = %.300q, %v, not %v", short(c), s, got, e)
	}
}

// Trees that may be, but don't tile.
func TestTreesThatDontTile(t *testing.T) {
	o := of(0, 0, 7, 7)
	two := func(a, b api.Rect) []api.Cell { return []api.Cell{leaf(1, a), leaf(2, b)} }
	l := []api.Cell{
		row(o, two(of(0, 0, 3, 7), of(3, 0, 4, 7))...), // nothing between
		row(o, two(of(0, 0, 3, 7), of(5, 0, 2, 7))...), // two between
		row(o, two(of(0, 0, 3, 7), of(4, 0, 2, 7))...), // ends early
		row(o, two(of(0, 0, 3, 7), of(4, 0, 4, 7))...), // ends late
		row(o, two(of(1, 0, 2, 7), of(4, 0, 3, 7))...), // begins late
		row(o, two(of(4, 0, 3, 7), of(0, 0, 3, 7))...), // the other way round
		row(o, two(of(0, 0, 3, 6), of(4, 0, 3, 7))...), // not so high
		row(o, two(of(0, 0, 7, 3), of(0, 4, 7, 3))...), // a column's kids
		col(o, two(of(0, 0, 3, 7), of(4, 0, 3, 7))...), // a row's kids
		col(o, two(of(0, 0, 7, 3), of(0, 3, 7, 4))...),
		col(o, two(of(0, 4, 7, 3), of(0, 0, 7, 3))...),
	}
	for number := range cells(mixed()) {
		c := mixed()
		place(&c, number).H++
		l = append(l, c)
	}
	for _, c := range l {
		refused(t, c, errArg)
		sameAnswers(t, c)
	}
}

// wrongCells may not be, neither alone nor in others.
func wrongCells() []api.Cell {
	o := of(0, 0, 3, 1)
	two := []api.Cell{leaf(101, of(0, 0, 1, 1)), leaf(102, of(2, 0, 1, 1))}
	l := []api.Cell{
		{}, {Kind: 0, Rect: o}, {Kind: 0, Rect: o, Kids: two}, {Kind: 4, Rect: o, Kids: two}, {Kind: 255, Rect: o},
		leaf(-1, o), leaf(maxNum+1, o), leaf(math.MinInt, o), leaf(math.MaxInt, o),
		{Kind: leafKind, Rect: o, ID: 3, Kids: two}, row(o), col(o), row(o, leaf(101, o)), col(o, leaf(101, o)),
		row(o, two[0], leaf(101, of(2, 0, 1, 1))),
		{Kind: rowKind, Rect: o, ID: 1, Kids: two}, {Kind: rowKind, Rect: o, ID: -1, Kids: two},
	}
	for _, r := range []api.Rect{
		{}, of(-1, 0, 3, 1), of(0, -1, 3, 1), of(0, 0, 0, 1), of(0, 0, 3, 0), of(0, 0, -3, 1), of(0, 0, 3, -1),
		of(0, 0, maxExtent+1, 1), of(0, 0, 1, maxExtent+1), of(maxExtent, 0, 1, 1), of(0, maxExtent, 1, 1),
		of(math.MaxInt, 0, 1, 1), of(math.MaxInt, 0, math.MaxInt, 1), of(0, math.MinInt, 1, math.MinInt), of(1, 1, math.MinInt, math.MinInt),
	} {
		l = append(l, leaf(3, r), row(r, two...), col(r, two...), row(o, two[0], leaf(3, r)))
	}
	return l
}

func TestTreesThatMayNotBe(t *testing.T) {
	for _, wrong := range wrongCells() {
		trees := []api.Cell{wrong, row(of(0, 0, 7, 1), wrong, leaf(1, of(4, 0, 3, 1))), col(of(0, 0, 3, 3), leaf(1, of(0, 2, 3, 1)), wrong)}
		for number := range cells(mixed()) {
			c := mixed()
			if number > 0 {
				*place(&c, number) = wrong
				trees = append(trees, c)
			}
		}
		for _, c := range trees {
			refused(t, c, errArg)
			sameAnswers(t, c)
		}
	}
}

// ofBytes is a row of leaves whose text has just so many bytes: its IDs are as long as it takes.
func ofBytes(n int) api.Cell {
	const kids = 3500
	c := row(of(0, 0, 2*kids-1, 1))
	for k := range kids {
		c.Kids = append(c.Kids, leaf(10000+k, of(2*k, 0, 1, 1)))
	}
	missing := n - 5 - len(plainTell(c))
	for k := range c.Kids {
		more := min(missing, 4)
		missing -= more
		for range more {
			c.Kids[k].ID *= 10
		}
	}
	return c
}

func TestLongestText(t *testing.T) {
	for _, n := range []int{maxLayout - 6, maxLayout - 1, maxLayout, maxLayout + 1, maxLayout + 5, maxLayout + 6, maxLayout + 900} {
		c := ofBytes(n)
		body, e := print.Body(c)
		if len(body) != n-5 || e != ok {
			t.Fatalf("P10.1: a body of %d bytes has %d, %v", n-5, len(body), e)
		}
		if n > maxLayout {
			refused(t, c, errLong)
		} else if s, e := print.Text(c); len(s) != n || e != ok || !print.Fits(mixed(), c, mixed()) {
			t.Errorf("P10.1: a text of %d bytes has %d, %v", n, len(s), e)
		}
		sameAnswers(t, c)
		// That it doesn't tile is said ahead of how long it is.
		c.Kids[len(c.Kids)-1].W++
		refused(t, c, errArg)
		sameAnswers(t, c)
	}
}

// deepTree is so deep, of rows, or columns, or both in turn; the deeper kid is the first or the last.
func deepTree(deep int, kinds []uint8, first bool) api.Cell {
	c := leaf(0, of(0, 0, 1, 1))
	for n := 1; n < deep; n++ {
		whole := api.Cell{Kind: kinds[n%len(kinds)], Rect: c.Rect}
		other := leaf(n, c.Rect)
		if whole.Kind == rowKind {
			whole.W += 2
			other.W = 1
		} else {
			whole.H += 2
			other.H = 1
		}
		whole.Kids = []api.Cell{other, c}
		if first {
			slices.Reverse(whole.Kids)
		}
		c = whole
	}
	set(&c, 0, 0)
	return c
}

// set lets all cells of a tree begin where they should.
func set(c *api.Cell, x, y int) {
	c.X, c.Y = x, y
	for k := range c.Kids {
		set(&c.Kids[k], x, y)
		if c.Kind == rowKind {
			x += c.Kids[k].W + 1
		} else {
			y += c.Kids[k].H + 1
		}
	}
}

func TestDeepestText(t *testing.T) {
	for _, kinds := range [][]uint8{{rowKind}, {colKind}, {rowKind, colKind}, {colKind, rowKind, colKind}} {
		for _, first := range []bool{false, true} {
			for _, deep := range []int{2, maxDeep - 1, maxDeep, maxDeep + 1, maxDeep + 2, 1300} {
				c := deepTree(deep, kinds, first)
				body, e := print.Body(c)
				if e != ok || len(body)+5 > maxLayout || plainDepth(c) != deep {
					t.Fatalf("P10.1: a body %d deep has %d bytes, %v", deep, len(body), e)
				}
				if deep > maxDeep {
					refused(t, c, errLong)
				} else if s, e := print.Text(c); len(s) != len(body)+5 || e != ok || !print.Fits(mixed(), c, mixed()) {
					t.Errorf("P10.1: a text %d deep has %d bytes, %v", deep, len(s), e)
				}
				sameAnswers(t, c)
				// That it doesn't tile is said ahead of how deep it is.
				c.W++
				refused(t, c, errArg)
				sameAnswers(t, c)
			}
		}
	}
}

// As deep as a tree that tiles can be: it has a body, but, too deep and too long, no text.
func TestDeepestThatTiles(t *testing.T) {
	c := deepTree(9999, []uint8{rowKind, colKind}, false)
	sameAnswers(t, c)
	body, e := print.Body(c)
	if e != ok || strings.Count(body, "{")+strings.Count(body, "[") != 9998 {
		t.Errorf("P10.1: a body 9999 deep has %d bytes, %v", len(body), e)
	}
	refused(t, c, errLong)
}

// wide is a row of so many leaves, each 1 wide, in a line; the last one is as wide as it takes.
func wide(n, id, y int) api.Cell {
	c := row(of(0, y, 9999, 1))
	for k := range n {
		c.Kids = append(c.Kids, leaf(id+k, of(2*k, y, 1, 1)))
	}
	c.Kids[n-1].W = 9999 - 2*(n-1)
	return c
}

// As many cells as there can be, and more.
func TestMostCells(t *testing.T) {
	for _, last := range []int{4994, 4995, 4996} {
		c := col(of(0, 0, 9999, 7), wide(5000, 0, 0), wide(5000, 5000, 2), wide(5000, 10000, 4), wide(last, 15000, 6))
		e := errLong
		if len(cells(c)) > maxCells {
			e = errArg
		}
		refused(t, c, e)
		sameAnswers(t, c)
	}
}

// As deep as the document bounds it, or beyond all counting: every call ends, and in time.
func TestEnds(t *testing.T) {
	o := of(0, 0, 3, 1)
	deep := leaf(7, o)
	for range maxNested - 1 {
		deep = row(o, leaf(1, o), deep)
	}
	many := leaf(1, o)
	for range 200 {
		many = row(o, many, many)
	}
	round := make([]api.Cell, 2)
	round[0], round[1] = row(o, round...), col(o, round...)
	for n, c := range []api.Cell{deep, many, round[0], round[1]} {
		if s, e := print.Body(c); s != "" || e != errArg {
			t.Errorf("P10.1: Body of the tree %d = %.300q, %v", n, s, e)
		}
		if s, e := print.Text(c); s != "" || e != errArg {
			t.Errorf("P10.1: Text of the tree %d = %.300q, %v", n, s, e)
		}
		if print.Fits(c) || print.Fits(mixed(), c) {
			t.Errorf("P10.1: the tree %d fits", n)
		}
	}
}

// Each tree is asked alone: two may have leaves with the same IDs, and one on the other, and be too
// long, too deep, or have too many cells, together.
func TestFitsOfSeveral(t *testing.T) {
	if !print.Fits() || !print.Fits([]api.Cell{}...) {
		t.Error("P10.1: none don't fit")
	}
	long, deep := ofBytes(maxLayout), deepTree(maxDeep, []uint8{rowKind, colKind}, true)
	trees := []api.Cell{mixed(), long, mixed(), deep, long, deep, long, leaf(3, of(0, 0, 9, 9)), long, long}
	if !print.Fits(trees...) {
		t.Error("P10.1: trees with texts, each of them")
	}
	for k := range trees {
		for _, wrong := range []api.Cell{{}, leaf(-1, of(0, 0, 1, 1)), ofBytes(maxLayout + 1), deepTree(maxDeep+1, []uint8{colKind}, false)} {
			l := slices.Clone(trees)
			l[k] = wrong
			if print.Fits(l...) {
				t.Errorf("P10.1: the tree %d has no text", k)
			}
		}
	}
}

// tilings does something with all trees that tile a rectangle, at most so deep; IDs are all 0.
func tilings(r api.Rect, deep int, do func(c api.Cell)) {
	do(leaf(0, r))
	if deep == 1 {
		return
	}
	for _, kind := range []uint8{rowKind, colKind} {
		kidLists(r, kind, deep-1, nil, func(kids []api.Cell) {
			if len(kids) > 1 {
				do(clone(api.Cell{Kind: kind, Rect: r, Kids: kids}))
			}
		})
	}
}

// kidLists does something with all lists of kids that fill a rectangle, in a row or a column.
func kidLists(r api.Rect, kind uint8, deep int, kids []api.Cell, do func(kids []api.Cell)) {
	size := r.W
	if kind == colKind {
		size = r.H
	}
	for n := 1; n <= size; n++ {
		head, rest := of(r.X, r.Y, n, r.H), of(r.X+n+1, r.Y, r.W-n-1, r.H)
		if kind == colKind {
			head, rest = of(r.X, r.Y, r.W, n), of(r.X, r.Y+n+1, r.W, r.H-n-1)
		}
		tilings(head, deep, func(kid api.Cell) {
			if n == size {
				do(append(kids, kid))
			} else {
				kidLists(rest, kind, deep, append(kids, kid), do)
			}
		})
	}
}

// number gives the leaves of a tree IDs, one behind the other.
func number(c *api.Cell, from int) int {
	if c.Kind == leafKind {
		c.ID = from
		return from + 1
	}
	for k := range c.Kids {
		from = number(&c.Kids[k], from)
	}
	return from
}

// changes are what is done to a cell of a tree that tiles; most trees don't, then.
func changes() []func(c *api.Cell) {
	return []func(c *api.Cell){
		func(c *api.Cell) { c.X++ }, func(c *api.Cell) { c.X-- },
		func(c *api.Cell) { c.Y++ }, func(c *api.Cell) { c.Y-- },
		func(c *api.Cell) { c.W++ }, func(c *api.Cell) { c.W-- },
		func(c *api.Cell) { c.H++ }, func(c *api.Cell) { c.H-- },
		func(c *api.Cell) { c.X, c.Y, c.W, c.H = c.Y, c.X, c.H, c.W },
		func(c *api.Cell) { c.Kind = rowKind }, func(c *api.Cell) { c.Kind = colKind },
		func(c *api.Cell) { c.Kind = leafKind }, func(c *api.Cell) { c.ID++ },
		func(c *api.Cell) { c.ID += 100 }, func(c *api.Cell) { c.ID = maxNum },
		func(c *api.Cell) { slices.Reverse(c.Kids) },
		func(c *api.Cell) { c.Kids = c.Kids[:max(len(c.Kids)-1, 0)] },
		func(c *api.Cell) { c.Kids = c.Kids[min(len(c.Kids), 1):] },
		func(c *api.Cell) { c.Kids = append(slices.Clone(c.Kids), leaf(77, c.Rect)) },
	}
}

// texts are those that were told, each with its tree.
type texts map[string]api.Cell

// told holds a tree's text against those that were told so far: another tree has another one.
func (m texts) told(t *testing.T, c api.Cell) {
	t.Helper()
	s, e := print.Text(c)
	if e != ok {
		return
	}
	if other, again := m[s]; again && !same(other, c) {
		t.Fatalf("P10.2: %v and %v have the text %q", other, c, s)
	}
	m[s] = clone(c)
}

func TestEverySmallTiling(t *testing.T) {
	trees, all := 0, texts{}
	for _, r := range []api.Rect{of(2, 1, 1, 1), of(0, 0, 3, 1), of(1, 1, 3, 3), of(1, 2, 5, 3), of(1, 2, 4, 5), of(0, 1, 1, 7), of(0, 11, 1, 7)} {
		tilings(r, 3, func(c api.Cell) {
			trees++
			number(&c, 0)
			if _, e := print.Text(c); e != ok {
				t.Fatalf("P10.1: Text(%v): %v", c, e)
			}
			sameAnswers(t, c)
			all.told(t, c)
			for at := range cells(c) {
				for _, change := range changes() {
					other := clone(c)
					change(place(&other, at))
					sameAnswers(t, other)
					all.told(t, other)
				}
			}
		})
	}
	if trees < 200 || len(all) < 2*trees {
		t.Errorf("only %d trees tiled, and %d had texts", trees, len(all))
	}
}

// Each number, kind and order is to be told from the text: of these no two are the same.
func TestUnlikeTexts(t *testing.T) {
	all, trees := texts{}, 0
	tell := func(c api.Cell) {
		trees++
		all.told(t, c)
	}
	numbers := []int{0, 1, 2, 10, 11, 12, 101, 110, 111, 112, 120, 121}
	for _, x := range numbers {
		for _, y := range numbers {
			for _, n := range numbers[1:] {
				for _, id := range numbers {
					tell(leaf(id, of(x, y, n, 1)))
					if n > 1 {
						tell(leaf(id, of(x, y, 1, n)))
					}
				}
			}
		}
	}
	for _, a := range numbers {
		for _, b := range numbers {
			if a == b {
				continue
			}
			tell(row(of(0, 0, 3, 3), leaf(a, of(0, 0, 1, 3)), leaf(b, of(2, 0, 1, 3))))
			tell(col(of(0, 0, 3, 3), leaf(a, of(0, 0, 3, 1)), leaf(b, of(0, 2, 3, 1))))
		}
	}
	// Three side by side: one row, or two of them in a row of their own.
	l := []api.Cell{leaf(1, of(0, 0, 1, 1)), leaf(2, of(2, 0, 1, 1)), leaf(3, of(4, 0, 1, 1))}
	tell(row(of(0, 0, 5, 1), l...))
	tell(row(of(0, 0, 5, 1), row(of(0, 0, 3, 1), l[:2]...), l[2]))
	tell(row(of(0, 0, 5, 1), l[0], row(of(2, 0, 3, 1), l[1:]...)))
	if len(all) != trees {
		t.Errorf("P10.2: %d trees have %d texts", trees, len(all))
	}
}

// randomTree is a tree that tiles a rectangle.
func randomTree(g *rand.Rand, r api.Rect, deep int) api.Cell {
	kind, size := rowKind, r.W
	if g.Intn(2) > 0 {
		kind, size = colKind, r.H
	}
	if deep == 0 || size < 3 || g.Intn(6) == 0 {
		return leaf(0, r)
	}
	c := api.Cell{Kind: kind, Rect: r}
	from := 0
	for from < size {
		n := 1 + g.Intn(size-from)
		if from == 0 {
			n = 1 + g.Intn(size-2)
		}
		if n == size-from-1 {
			n++ // behind it there is space for a line, but for none of its kids
		}
		part := of(r.X+from, r.Y, n, r.H)
		if kind == colKind {
			part = of(r.X, r.Y+from, r.W, n)
		}
		c.Kids = append(c.Kids, randomTree(g, part, deep-1))
		from += n + 1
	}
	if len(c.Kids) < 2 {
		return leaf(0, r)
	}
	return c
}

func TestManyTrees(t *testing.T) {
	g := rand.New(rand.NewSource(1010))
	most, deep, all := 0, 0, texts{}
	for range 300 {
		r := of(g.Intn(3000), g.Intn(3000), 1+g.Intn(120), 1+g.Intn(90))
		c := randomTree(g, r, 1+g.Intn(9))
		number(&c, g.Intn(1000000))
		if _, e := print.Text(c); e != ok {
			t.Fatalf("P10.1: Text(%v): %v", c, e)
		}
		sameAnswers(t, c)
		all.told(t, c)
		for range 30 {
			other := clone(c)
			for range 1 + g.Intn(2) {
				l := changes()
				l[g.Intn(len(l))](place(&other, g.Intn(len(cells(other)))))
			}
			sameAnswers(t, other)
			all.told(t, other)
		}
		most, deep = max(most, len(cells(c))), max(deep, plainDepth(c))
	}
	if most < 100 || deep < 6 {
		t.Errorf("the greatest tree had %d cells, the deepest one was %d deep", most, deep)
	}
}

// What a leaf's kids are called plays no part: none are none.
func TestNilAndEmpty(t *testing.T) {
	c := mixed()
	for _, number := range []int{1, 3, 5, 6, 7} {
		place(&c, number).Kids = []api.Cell{}
	}
	want, _ := print.Text(mixed())
	if s, e := print.Text(c); s != want || e != ok || !print.Fits(c) {
		t.Errorf("P0.5: no kids are no kids: %q, %v", s, e)
	}
	sameAnswers(t, c)
}

// roomy is the tree with room behind each list of kids, filled with something that is none of them.
func roomy(c api.Cell) api.Cell {
	kids := make([]api.Cell, 0, len(c.Kids)+2)
	for _, kid := range c.Kids {
		kids = append(kids, roomy(kid))
	}
	copy(kids[len(kids):cap(kids)], []api.Cell{leaf(-77, c.Rect), leaf(-78, c.Rect)})
	c.Kids = kids
	return c
}

// untouched tells whether the room that roomy made is as it was, in the whole tree.
func untouched(c api.Cell) bool {
	room := c.Kids[len(c.Kids):cap(c.Kids)]
	return len(room) == 2 && same(room[0], leaf(-77, c.Rect)) && same(room[1], leaf(-78, c.Rect)) &&
		!slices.ContainsFunc(c.Kids, func(kid api.Cell) bool { return !untouched(kid) })
}

// What is handed in isn't changed, nor is the room behind its end; and what was answered stays,
// whatever becomes of the tree.
func TestNothingIsChanged(t *testing.T) {
	wrong := func() api.Cell {
		c := mixed()
		place(&c, 6).W++
		return c
	}
	for _, tree := range []func() api.Cell{mixed, wrong} {
		c := roomy(tree())
		trees := []api.Cell{c, c, leaf(8, c.Rect)}
		body, _ := print.Body(c)
		text, _ := print.Text(c)
		print.Fits(trees[:2]...)
		if !same(c, tree()) || !untouched(c) || !same(trees[0], tree()) || !same(trees[1], tree()) || !same(trees[2], leaf(8, c.Rect)) {
			t.Errorf("P0.4: what was handed in is changed: %v, %v", c, trees)
		}
		sameAnswers(t, c)
		c.Kids[1] = leaf(99, c.Kids[1].Rect)
		wantBody, _ := plainBody(tree())
		wantText, _ := plainText(tree())
		if body != wantBody || text != wantText {
			t.Errorf("P0.4: what was answered is changed: %q, %q", body, text)
		}
		sameAnswers(t, c)
	}
}

func TestTheSameAgain(t *testing.T) {
	for range 3 {
		sameAnswers(t, mixed())
		sameAnswers(t, ofBytes(maxLayout+1))
		for _, c := range wrongCells() {
			sameAnswers(t, c)
		}
	}
}

func FuzzTrees(f *testing.F) {
	f.Add(int64(1), 80, 24, 4, uint8(0), 0, 0)
	f.Add(int64(2), 5, 5, 3, uint8(4), 1, -1)
	f.Add(int64(3), 40, 3, 6, uint8(13), 2, math.MaxInt)
	f.Fuzz(func(t *testing.T, seed int64, w, h, deep int, change uint8, at, by int) {
		sameHead(t, of(w, h, at, by))
		r := of(0, 0, 1+int(uint8(w)), 1+int(uint8(h)))
		c := randomTree(rand.New(rand.NewSource(seed)), r, int(uint8(deep)%8))
		number(&c, 0)
		all := texts{}
		sameAnswers(t, c)
		all.told(t, c)
		c = clone(c)
		spot := place(&c, int(uint(at)%uint(len(cells(c)))))
		if int(change) < len(changes()) {
			changes()[change](spot)
		} else {
			*[]*int{&spot.X, &spot.Y, &spot.W, &spot.H, &spot.ID}[change%5] += by
		}
		sameAnswers(t, c)
		all.told(t, c)
	})
}
