package parse_test

import (
	"fmt"
	"math/rand"
	"slices"
	"strconv"
	"strings"
	"testing"

	"sash/api"
	"sash/fault"
	"sash/parse"
	"sash/print"
)

// What the document tells in numbers is written out here, not taken from api.
const (
	leafKind  = uint8(1)
	rowKind   = uint8(2)
	colKind   = uint8(3)
	ok        = api.Errno(0)
	errArg    = api.Errno(1)
	errForm   = api.Errno(2)
	errLong   = api.Errno(3)
	errSum    = api.Errno(4)
	errTile   = api.Errno(5)
	maxNum    = 2147483647
	maxExtent = 10000
	maxCells  = 20000
	maxLayout = 65535
	maxDeep   = 1000
)

func of(x, y, w, h int) api.Rect { return api.Rect{X: x, Y: y, W: w, H: h} }

func leaf(id int, r api.Rect) api.Cell { return api.Cell{Kind: leafKind, Rect: r, ID: id} }

func row(r api.Rect, kids ...api.Cell) api.Cell {
	return api.Cell{Kind: rowKind, Rect: r, Kids: kids}
}

func col(r api.Rect, kids ...api.Cell) api.Cell {
	return api.Cell{Kind: colKind, Rect: r, Kids: kids}
}

// mixed is a tree that tiles, with all kinds of cells, and mixedBody its body.
func mixed() api.Cell {
	low := row(of(9, 9, 6, 4), leaf(0, of(9, 9, 3, 4)), leaf(5, of(13, 9, 2, 4)))
	mid := col(of(9, 2, 6, 11), leaf(1, of(9, 2, 6, 6)), low)
	return row(of(3, 2, 17, 11), leaf(3, of(3, 2, 5, 11)), mid, leaf(7, of(16, 2, 4, 11)))
}

const mixedBody = "17x11,3,2{5x11,3,2,3,6x11,9,2[6x6,9,2,1,6x4,9,9{3x4,9,9,0,2x4,13,9,5}],4x11,16,2,7}"

// cells are all cells of a tree, each ahead of its kids.
func cells(c api.Cell) []api.Cell {
	var l []api.Cell
	stack := []api.Cell{c}
	for len(stack) > 0 {
		c := stack[len(stack)-1]
		stack = stack[:len(stack)-1]
		l = append(l, c)
		for k := len(c.Kids) - 1; k >= 0; k-- {
			stack = append(stack, c.Kids[k])
		}
	}
	return l
}

// clone is the same tree in memory of its own.
func clone(c api.Cell) api.Cell {
	c.Kids = slices.Clone(c.Kids)
	for k := range c.Kids {
		c.Kids[k] = clone(c.Kids[k])
	}
	return c
}

func same(a, b api.Cell) bool {
	return a.Kind == b.Kind && a.Rect == b.Rect && a.ID == b.ID && slices.EqualFunc(a.Kids, b.Kids, same)
}

func plainMay(c api.Cell) bool {
	far := func(from, size int) bool {
		return from >= 0 && from <= maxExtent && size >= 1 && size <= maxExtent && from+size <= maxExtent
	}
	met := map[int]bool{}
	l := cells(c)
	for _, c := range l {
		isLeaf := c.Kind == leafKind && len(c.Kids) == 0 && c.ID >= 0 && c.ID <= maxNum && !met[c.ID]
		isGroup := (c.Kind == rowKind || c.Kind == colKind) && c.ID == 0 && len(c.Kids) >= 2
		if !isLeaf && !isGroup || !far(c.X, c.W) || !far(c.Y, c.H) {
			return false
		}
		if isLeaf {
			met[c.ID] = true
		}
	}
	return len(l) <= maxCells
}

// plainFilled tells whether a cell that may be has kids that stand side by side, with one column
// (line) between them, from its beginning to its end.
func plainFilled(c api.Cell) bool {
	if c.Kind == leafKind {
		return true
	}
	x, y := c.X, c.Y
	for _, kid := range c.Kids {
		if kid.X != x || kid.Y != y {
			return false
		}
		if c.Kind == rowKind && kid.H == c.H {
			x += kid.W + 1
		} else if c.Kind == colKind && kid.W == c.W {
			y += kid.H + 1
		} else {
			return false
		}
	}
	if c.Kind == rowKind {
		return x == c.X+c.W+1
	}
	return y == c.Y+c.H+1
}

// plainDigits are the digits at a place of a text, and the error that they make as a number.
func plainDigits(s string, at int) (string, api.Errno) {
	k := at
	for k < len(s) && '0' <= s[k] && s[k] <= '9' {
		k++
	}
	digits := s[at:k]
	if digits == "" || digits[0] == '0' && digits != "0" {
		return "", errForm
	}
	if len(digits) > 10 || len(digits) == 10 && digits > strconv.Itoa(maxNum) {
		return "", errLong
	}
	return digits, ok
}

// plainHead is the cell without kids at a place of a text, and what is behind its bracket or its ID;
// or an error, and its place. The opening bracket stays to be asked.
func plainHead(s string, at int) (api.Cell, int, api.Errno) {
	var c api.Cell
	for k, n := range []*int{&c.W, &c.H, &c.X, &c.Y, &c.ID} {
		if k > 0 {
			sign := "\000x,,,"[k]
			if k == 4 && at < len(s) && (s[at] == '{' || s[at] == '[') {
				c.Kind = rowKind
				if s[at] == '[' {
					c.Kind = colKind
				}
				return c, at, ok
			}
			if at >= len(s) || s[at] != sign {
				return api.Cell{}, at, errForm
			}
			at++
		}
		digits, e := plainDigits(s, at)
		if e != ok {
			return api.Cell{}, at, e
		}
		*n, _ = strconv.Atoi(digits)
		at += len(digits)
	}
	c.Kind = leafKind
	return c, at, ok
}

// plainRead reads the body that stands in a text from a place on: cells whose brackets are still
// open stand on a stack.
func plainRead(s string, at int) (api.Cell, int, api.Errno) {
	var open []api.Cell
	for {
		c, behind, e := plainHead(s, at)
		at = behind
		if e != ok {
			return api.Cell{}, at, e
		}
		if c.Kind != leafKind {
			if len(open) >= maxDeep-1 {
				return api.Cell{}, at, errLong
			}
			open = append(open, c)
			at++
			continue
		}
		for len(open) > 0 {
			last := &open[len(open)-1]
			last.Kids = append(last.Kids, c)
			closing := map[uint8]byte{rowKind: '}', colKind: ']'}[last.Kind]
			if at < len(s) && s[at] == ',' {
				break
			}
			if at >= len(s) || s[at] != closing || len(last.Kids) < 2 {
				return api.Cell{}, at, errForm
			}
			c = *last
			open = open[:len(open)-1]
			at++
		}
		if len(open) == 0 {
			if at < len(s) {
				return api.Cell{}, at, errForm
			}
			return c, 0, ok
		}
		at++
	}
}

// plainTree is the tree that stands in a text from a place on, if it tiles.
func plainTree(s string, from int) (api.Cell, int, api.Errno) {
	c, at, e := plainRead(s, from)
	switch {
	case e != ok:
		return api.Cell{}, at, e
	case !plainMay(c):
		return api.Cell{}, 0, errArg
	case slices.ContainsFunc(cells(c), func(c api.Cell) bool { return !plainFilled(c) }):
		return api.Cell{}, 0, errTile
	}
	return c, 0, ok
}

func plainBody(s string) (api.Cell, int, api.Errno) {
	if len(s) > maxLayout-5 {
		return api.Cell{}, 0, errLong
	}
	return plainTree(s, 0)
}

func plainSum(s string) int {
	c := 0
	for _, b := range []byte(s) {
		c = c/2 + c%2*32768
		c = (c + int(b)) % 65536
	}
	return c
}

// summed is a body with its sum.
func summed(s string) string { return fmt.Sprintf("%04x,%s", plainSum(s), s) }

func plainText(s string) (api.Cell, int, api.Errno) {
	if len(s) > maxLayout {
		return api.Cell{}, 0, errLong
	}
	if len(s) < 5 || s[4] != ',' || strings.Trim(s[:4], "0123456789abcdef") != "" {
		return api.Cell{}, 0, errForm
	}
	if s != summed(s[5:]) {
		return api.Cell{}, 0, errSum
	}
	return plainTree(s, 5)
}

// short is a tree or a text for a message: a great one isn't told whole.
func short(x any) string {
	s := fmt.Sprintf("%+v", x)
	return fmt.Sprintf("%q", s[:min(len(s), 300)])
}

// told holds what was answered of a text against what is to be answered.
func told(t *testing.T, call, s string, got api.Cell, err error, want api.Cell, at int, e api.Errno) {
	t.Helper()
	if e == ok {
		if err != nil || !same(got, want) {
			t.Fatalf("P11.1: %s(%s) = %s, %v, not %s", call, short(s), short(got), err, short(want))
		}
		return
	}
	place, placed := fault.At(err)
	if fault.Code(err) != e || place != at || !placed {
		t.Fatalf("P11.1: %s(%s): %v, not %v at %d", call, short(s), err, e, at)
	}
	if !same(got, api.Cell{}) {
		t.Fatalf("P0.2: %s(%s) = %s, %v", call, short(s), short(got), err)
	}
}

// sameText holds all that is asked of one text against the plain reading.
func sameText(t *testing.T, s string) {
	t.Helper()
	want, at, e := plainText(s)
	got, err := parse.Text(s)
	told(t, "Text", s, got, err, want, at, e)
	leaves := 0
	for _, c := range cells(want) {
		if c.Kind == leafKind {
			leaves++
		}
	}
	if n, number := parse.Panes(s); n != leaves || number != e {
		t.Fatalf("P11.1: Panes(%s) = %d, %v, not %d, %v", short(s), n, number, leaves, e)
	}
	if parse.Round(s) != (e == ok) {
		t.Fatalf("P11.1: Round(%s), but %v", short(s), e)
	}
	if e == ok {
		if again, e := print.Text(got); again != s || e != ok {
			t.Fatalf("P11.2: %s is printed as %s, %v", short(s), short(again), e)
		}
	}
}

// sameBody holds all that is asked of one body, with and without its sum.
func sameBody(t *testing.T, s string) {
	t.Helper()
	want, at, e := plainBody(s)
	got, err := parse.Body(s)
	told(t, "Body", s, got, err, want, at, e)
	if e == ok {
		if again, e := print.Body(got); again != s || e != ok {
			t.Fatalf("P11.2: %s is printed as %s, %v", short(s), short(again), e)
		}
	}
	sameText(t, summed(s))
}

// sameTree holds what is printed of a tree that tiles against what is read.
func sameTree(t *testing.T, c api.Cell) {
	t.Helper()
	body, e := print.Body(c)
	if e != ok {
		t.Fatalf("the tree %s doesn't tile", short(c))
	}
	sameBody(t, body)
	text, e := print.Text(c)
	if e != ok {
		return
	}
	if got, err := parse.Text(text); err != nil || !same(got, c) {
		t.Fatalf("P11.2: Text(%s) = %s, %v, not %s", short(text), short(got), err, short(c))
	}
	if got, err := parse.Body(body); err != nil || !same(got, c) {
		t.Fatalf("P11.2: Body(%s) = %s, %v, not %s", short(body), short(got), err, short(c))
	}
	if !parse.Round(text) {
		t.Fatalf("P11.2: %s isn't printed again the same", short(text))
	}
}

// refused holds a body, with and without its sum, against the error that is written out for it. In a
// text the five bytes of the sum are ahead, but of what is told of the whole the place is still 0.
func refused(t *testing.T, body string, e api.Errno, at int) {
	t.Helper()
	got, err := parse.Body(body)
	told(t, "Body", body, got, err, api.Cell{}, at, e)
	if e == errForm || e == errLong {
		at += 5
	}
	text := summed(body)
	got, err = parse.Text(text)
	told(t, "Text", text, got, err, api.Cell{}, at, e)
	if n, number := parse.Panes(text); n != 0 || number != e {
		t.Errorf("P11.1: Panes(%s) = %d, %v, not %v", short(text), n, number, e)
	}
	fine := summed(mixedBody)
	if parse.Round(text) || parse.Round(fine, text) || parse.Round(text, fine) || parse.Round(fine, text, fine) {
		t.Errorf("P11.1: Round of %s", short(text))
	}
	sameBody(t, body)
}

func TestExamples(t *testing.T) {
	for s, want := range map[string]api.Cell{
		"b25d,80x24,0,0,0": leaf(0, of(0, 0, 80, 24)),
		"b25e,80x24,0,0,1": leaf(1, of(0, 0, 80, 24)),
	} {
		if c, err := parse.Text(s); err != nil || !same(c, want) || !parse.Round(s) {
			t.Errorf("P11.1: Text(%q) = %v, %v", s, c, err)
		}
		if n, e := parse.Panes(s); n != 1 || e != ok {
			t.Errorf("P11.1: Panes(%q) = %d, %v", s, n, e)
		}
	}
	for _, s := range []string{"b25d,80x24,0,0,1", "b25d,80x24,0,0,00"} {
		c, err := parse.Text(s)
		told(t, "Text", s, c, err, api.Cell{}, 0, errSum)
		if n, e := parse.Panes(s); n != 0 || e != errSum || parse.Round(s) {
			t.Errorf("P11.1: Panes(%q) = %d, %v", s, n, e)
		}
	}
}

func TestBodies(t *testing.T) {
	pair := func(kind uint8, x, y, w, h, id int) api.Cell {
		if kind == rowKind {
			return row(of(x, y, w, h), leaf(id, of(x, y, 1, h)), leaf(id+1, of(x+2, y, w-2, h)))
		}
		return col(of(x, y, w, h), leaf(id, of(x, y, w, 1)), leaf(id+1, of(x, y+2, w, h-2)))
	}
	for body, want := range map[string]api.Cell{
		mixedBody:                      mixed(),
		"1x1,0,0,0":                    leaf(0, of(0, 0, 1, 1)),
		"1x2,3,4,5":                    leaf(5, of(3, 4, 1, 2)),
		"1x1,5,6,2147483647":           leaf(maxNum, of(5, 6, 1, 1)),
		"10000x10000,0,0,10":           leaf(10, of(0, 0, maxExtent, maxExtent)),
		"1x1,9999,9999,1":              leaf(1, of(maxExtent-1, maxExtent-1, 1, 1)),
		"3x1,0,0{1x1,0,0,1,1x1,2,0,0}": row(of(0, 0, 3, 1), leaf(1, of(0, 0, 1, 1)), leaf(0, of(2, 0, 1, 1))),
		"1x3,0,0[1x1,0,0,1,1x1,0,2,0]": col(of(0, 0, 1, 3), leaf(1, of(0, 0, 1, 1)), leaf(0, of(0, 2, 1, 1))),
		"5x3,1,2{1x3,1,2,7,3x3,3,2,8}": pair(rowKind, 1, 2, 5, 3, 7),
		"5x3,1,2[5x1,1,2,7,5x1,1,4,8]": pair(colKind, 1, 2, 5, 3, 7),
		"5x2,0,0{3x2,0,0{1x2,0,0,1,1x2,2,0,2},1x2,4,0,3}":                    row(of(0, 0, 5, 2), pair(rowKind, 0, 0, 3, 2, 1), leaf(3, of(4, 0, 1, 2))),
		"2x5,0,0[2x1,0,0,3,2x3,0,2[2x1,0,2,1,2x1,0,4,2]]":                    col(of(0, 0, 2, 5), leaf(3, of(0, 0, 2, 1)), pair(colKind, 0, 2, 2, 3, 1)),
		"5x3,0,0{1x3,0,0,3,3x3,2,0[3x1,2,0,1,3x1,2,2,2]}":                    row(of(0, 0, 5, 3), leaf(3, of(0, 0, 1, 3)), pair(colKind, 2, 0, 3, 3, 1)),
		"3x5,0,0[3x3,0,0{1x3,0,0,1,1x3,2,0,2},3x1,0,4,3]":                    col(of(0, 0, 3, 5), pair(rowKind, 0, 0, 3, 3, 1), leaf(3, of(0, 4, 3, 1))),
		"7x3,0,0{3x3,0,0[3x1,0,0,1,3x1,0,2,2],3x3,4,0[3x1,4,0,3,3x1,4,2,4]}": row(of(0, 0, 7, 3), pair(colKind, 0, 0, 3, 3, 1), pair(colKind, 4, 0, 3, 3, 3)),
	} {
		if c, err := parse.Body(body); err != nil || !same(c, want) {
			t.Errorf("P11.1: Body(%q) = %v, %v, not %v", body, c, err, want)
		}
		if c, err := parse.Text(summed(body)); err != nil || !same(c, want) {
			t.Errorf("P11.1: Text(%q) = %v, %v, not %v", summed(body), c, err, want)
		}
		leaves := strings.Count(body, "x") - strings.Count(body, "{") - strings.Count(body, "[")
		if n, e := parse.Panes(summed(body)); n != leaves || e != ok {
			t.Errorf("P11.1: Panes(%q) = %d, %v, not %d", summed(body), n, e, leaves)
		}
		sameBody(t, body)
		sameTree(t, want)
	}
}

// Where a sign, a bracket or a number should stand, and none that may stand there does.
func TestWrongForms(t *testing.T) {
	for _, c := range []struct {
		body string
		at   int
	}{
		{"", 0}, {"x", 0}, {"8", 1}, {"80", 2}, {"80x", 3}, {"80x24", 5}, {"80x24,", 6}, {"80x24,0", 7},
		{"80x24,0,", 8}, {"80x24,0,0", 9}, {"80x24,0,0,", 10}, {"80x24,0,0{", 10}, {"80x24,0,0[", 10},
		{"80X24,0,0,1", 2}, {"80 x24,0,0,1", 2}, {" 80x24,0,0,1", 0}, {"-80x24,0,0,1", 0}, {"+80x24,0,0,1", 0},
		{"80,24,0,0,1", 2}, {"80x24x0,0,1", 5}, {"80x24.0,0,1", 5}, {"80x24,0x0,1", 7}, {"80x24,0,0x1", 9},
		{"80x24,0,0;1", 9}, {"80x24,0,0}", 9}, {"80x24,0,0]", 9}, {"80x24,0,0(", 9}, {"80x24,0,0<", 9},
		{"80x24,0,0,{", 10}, {"80x24,0,0,x", 10}, {"80x24,0,0,-1", 10}, {"80x24,,0,1", 6}, {"80x24,0,,1", 8},
		// Numbers with noughts ahead begin at the first of them.
		{"080x24,0,0,1", 0}, {"00x24,0,0,1", 0}, {"80x024,0,0,1", 3}, {"80x24,00,0,1", 6}, {"80x24,0,01,1", 8}, {"80x24,0,0,01", 10},
		// More behind the whole cell.
		{"80x24,0,0,1,", 11}, {"80x24,0,0,1 ", 11}, {"80x24,0,0,1\n", 11}, {"80x24,0,0,1\x00", 11}, {"80x24,0,0,1}", 11},
		{"80x24,0,0,1{", 11}, {"80x24,0,0,1x", 11}, {"80x24,0,0,1.0", 11}, {"80x24,0,0,1,2", 11}, {"80x24,0,0,1,80x24,0,0,2", 11},
		{mixedBody + ",", len(mixedBody)}, {mixedBody + "}", len(mixedBody)}, {mixedBody + mixedBody, len(mixedBody)},
		{mixedBody + "\n", len(mixedBody)}, {mixedBody + ",1x1,0,0,9", len(mixedBody)},
		// Brackets: two kids or more, each behind a comma, and the closing one of that kind.
		{"80x24,0,0{}", 10}, {"80x24,0,0[]", 10}, {"80x24,0,0{]", 10}, {"80x24,0,0{,", 10}, {"80x24,0,0{{", 10}, {"80x24,0,0{[", 10},
		{"80x24,0,0{40x24,0,0,1}", 21}, {"80x24,0,0[80x24,0,0,1]", 21}, {"80x24,0,0{40x24,0,0,1]", 21}, {"80x24,0,0{40x24,0,0,1", 21},
		{"80x24,0,0{40x24,0,0,1,}", 22}, {"80x24,0,0{40x24,0,0,1,", 22}, {"80x24,0,0{40x24,0,0,1,,", 22}, {"80x24,0,0{40x24,0,0,1;39x24,41,0,2}", 21},
		{"80x24,0,0{40x24,0,0,139x24,41,0,2}", 23}, {"80x24,0,0{40x24,0,0,1{", 21},
		{"80x24,0,0{40x24,0,0,1,39x24,41,0,2", 34}, {"80x24,0,0{40x24,0,0,1,39x24,41,0,2]", 34}, {"80x24,0,0{40x24,0,0,1,39x24,41,0,2)", 34},
		{"80x24,0,0{40x24,0,0,1,39x24,41,0,2{", 34}, {"80x24,0,0{40x24,0,0,1,39x24,41,0,2,", 35}, {"80x24,0,0{40x24,0,0,1,39x24,41,0,2,}", 35},
		{"80x24,0,0[80x12,0,0,1,80x11,0,13,2}", 34}, {"80x24,0,0[80x12,0,0,1,80x11,0,13,2", 34}, {"80x24,0,0[80x12,0,0,1,80x11,0,13,2,]", 35},
		// A cell whose own closing bracket is of the wrong kind, in another one of that kind.
		{"5x3,0,0{1x3,0,0,3,3x3,2,0[3x1,2,0,1,3x1,2,2,2}}", 45}, {"5x3,0,0{1x3,0,0,3,3x3,2,0[3x1,2,0,1,3x1,2,2,2]]", 46},
		{"5x3,0,0{1x3,0,0,3,3x3,2,0[3x1,2,0,1,3x1,2,2,2]", 46}, {"5x3,0,0{1x3,0,0,3,3x3,2,0[3x1,2,0,1]}", 35},
		// A row or a column has no ID.
		{"80x24,0,0,1{40x24,0,0,1,39x24,41,0,2}", 11}, {"80x24,0,0{40x24,0,0,1,39x24,41,0,2},3", 35},
		// Its sum is not a body's.
		{"b25e,80x24,0,0,1", 0}, {"1234,80x24,0,0,1", 4},
		// Other bytes, and signs of more than one.
		{"\x00", 0}, {"\xff80x24,0,0,1", 0}, {"80\xd7" + "24,0,0,1", 2}, {"80×24,0,0,1", 2}, {"80x２4,0,0,1", 3}, {"８0x24,0,0,1", 0}, {"80x24,0,0,１", 10},
	} {
		refused(t, c.body, errForm, c.at)
	}
}

// Each of a cell's five numbers, in the tree and in kids, and in place of it what is none, or is one.
func TestNumbers(t *testing.T) {
	long := strings.Repeat("9", 40000)
	for number, e := range map[string]api.Errno{
		"": errForm, "00": errForm, "01": errForm, "007": errForm, "0" + long: errForm, "00000000000": errForm, "02147483648": errForm,
		"-1": errForm, "-0": errForm, "+1": errForm, " 1": errForm, "a": errForm, "x": errForm, ",": errForm, "}": errForm, "_1": errForm, "\xff": errForm, "１": errForm,
		"2147483648": errLong, "2147483650": errLong, "3000000000": errLong, "4294967296": errLong, "4294967297": errLong, "9999999999": errLong,
		"10000000000": errLong, "18446744073709551616": errLong, "18446744073709551617": errLong, long: errLong,
	} {
		for k := range 5 {
			for _, around := range []string{"@", "9x9,0,0{@,4x9,5,0,2}", "9x9,0,0{4x9,5,0,2,@}", "9x9,0,0[9x9,0,0{1x1,1,1,1,@"} {
				numbers := []string{"1", "2", "3", "4", "5"}
				numbers[k] = number
				head, tail := numbers[0]+"x", strings.Join(numbers[1:], ",")
				at := strings.Index(around, "@")
				for _, before := range numbers[:k] {
					at += len(before) + 1
				}
				refused(t, strings.Replace(around, "@", head+tail, 1), e, at)
			}
		}
	}
	// These are numbers: what is wrong is that the tree may not be, or nothing.
	for _, number := range []string{"0", "1", "9", "10", "9999", "10000", "10001", "99999", "100000", "1000000000", "2147483646", "2147483647"} {
		for k := range 5 {
			numbers := []string{"1", "1", "0", "0", "0"}
			numbers[k] = number
			body := numbers[0] + "x" + strings.Join(numbers[1:], ",")
			n, _ := strconv.Atoi(number)
			if k == 4 || k < 2 && 1 <= n && n <= maxExtent || k > 1 && n < maxExtent {
				if _, err := parse.Body(body); err != nil {
					t.Errorf("P11.1: Body(%q): %v", body, err)
				}
				sameBody(t, body)
			} else {
				refused(t, body, errArg, 0)
			}
		}
	}
}

// Of a form that is right the tree may not be.
func TestTreesThatMayNotBe(t *testing.T) {
	for _, body := range []string{
		"0x0,0,0,0", "80x0,0,0,1", "0x24,0,0,1", "10001x3,0,0,1", "3x10001,0,0,1", "80x24,9921,0,1", "80x24,0,9977,1",
		"1x1,10000,0,1", "1x1,0,10000,1", "2147483647x1,0,0,1", "1x1,2147483647,2147483647,1",
		"80x24,0,0{40x24,0,0,1,39x24,41,0,1}",                                                  // the same ID again
		"80x24,0,0{40x24,0,0,0,39x24,41,0,0}",                                                  // that of 0, too
		"80x24,0,0{40x24,0,0,1,39x24,41,0[39x12,41,0,2,39x11,41,13,1]}",                        // elsewhere in the tree
		"80x24,0,0{40x24,0,0,2147483647,20x24,41,0,5,18x24,62,0,2147483647}",                   // the greatest one
		"80x24,0,0{80x24,0,0,1,0x24,81,0,2}",                                                   // a kid without cells
		"2x24,0,0{1x24,0,0,1,0x24,2,0,2}",                                                      // one that would fit
		"10001x1,0,0{5000x1,0,0,1,5000x1,5001,0,2}",                                            // too wide, and its kids are not
		"1x10001,0,0[1x5000,0,0,1,1x5000,0,5001,2]",                                            // too high
		"80x24,0,0{40x24,0,0,1,39x24,41,0,2,1x1,10000,0,3}",                                    // too far
		"80x24,0,0{40x24,0,0,1,38x24,41,0,1}",                                                  // it doesn't tile either
		"0x24,0,0{40x24,0,0,1,39x24,41,0,2}",                                                   // the cell itself has none
		"80x24,0,0{40x24,0,0,1,39x24,41,0[39x24,41,0,2,39x24,41,0,3,39x24,41,0,99,0x0,0,0,4]}", // the last of all
	} {
		refused(t, body, errArg, 0)
	}
}

// Of a form that is right, and of cells that may be: they don't fit.
func TestTreesThatDontTile(t *testing.T) {
	for _, body := range []string{
		"80x24,0,0{40x24,0,0,1,39x24,40,0,2}",                                     // nothing between
		"80x24,0,0{40x24,0,0,1,39x24,42,0,2}",                                     // two between
		"80x24,0,0{40x24,0,0,1,38x24,41,0,2}",                                     // ends early
		"80x24,0,0{40x24,0,0,1,40x24,41,0,2}",                                     // ends late
		"80x24,0,0{40x24,1,0,1,38x24,42,0,2}",                                     // begins late
		"80x24,0,0{39x24,41,0,2,40x24,0,0,1}",                                     // the other way round
		"80x24,0,0{40x23,0,0,1,39x24,41,0,2}",                                     // not so high
		"80x24,0,0{40x24,0,1,1,39x24,41,0,2}",                                     // too far down
		"80x24,0,0{80x12,0,0,1,80x11,0,13,2}",                                     // a column's kids in a row
		"80x24,0,0[40x24,0,0,1,39x24,41,0,2]",                                     // a row's kids in a column
		"80x24,0,0[80x12,0,0,1,80x12,0,13,2]",                                     // too high together
		"80x24,0,0[80x12,0,0,1,80x11,0,12,2]",                                     // nothing between
		"80x24,5,5{40x24,0,0,1,39x24,41,0,2}",                                     // the kids begin elsewhere
		"80x24,0,0{40x24,0,0,1,39x24,41,0[39x12,41,0,2,39x10,41,13,3]}",           // further in
		"80x24,0,0{40x24,0,0[40x12,0,0,4,40x12,0,13,5],39x24,41,0,3}",             // in the first kid
		"80x24,0,0{40x24,0,0,1,19x24,41,0,2,19x24,61,0{9x24,61,0,3,9x24,70,0,4}}", // in the last one
		"1x1,0,0{1x1,0,0,1,1x1,0,0,2}",
	} {
		refused(t, body, errTile, 0)
	}
}

// The first error that is met from left to right is told, then what is said of the whole tree.
func TestFirstErrors(t *testing.T) {
	for _, c := range []struct {
		body string
		e    api.Errno
		at   int
	}{
		{"2147483648x024,0,0,1,", errLong, 0}, {"080x2147483648,0,0,1", errForm, 0}, {"80x2147483648;0,0,1", errLong, 3},
		{"80x24;2147483648", errForm, 5}, {"80x24,0,0,2147483648,", errLong, 10}, {"80x24,0,0,01,", errForm, 10},
		{"80x24,0,0{40x24,0,0,2147483648]", errLong, 20}, {"80x24,0,0{40x24,0,0,1]2147483648", errForm, 21},
		// Ahead of that a tree may not be, or doesn't tile.
		{"0x0,0,0,1,", errForm, 9}, {"0x0,0,0,2147483648", errLong, 8}, {"80x24,0,0{40x24,0,0,1,39x24,41,0,1}}", errForm, 35},
		{"80x24,0,0{40x24,0,0,1,38x24,41,0,2},", errForm, 35}, {"80x24,0,0{40x24,0,0,1,38x24,41,0,1}", errArg, 0},
		{"80x24,0,0{0x24,0,0,1,38x24,41,0,2]", errForm, 33},
	} {
		refused(t, c.body, c.e, c.at)
	}
}

// What is said of the sum is asked ahead of all else.
func TestSums(t *testing.T) {
	body := "80x24,0,0,1"
	check := func(s string, e api.Errno) {
		t.Helper()
		c, err := parse.Text(s)
		told(t, "Text", s, c, err, api.Cell{}, 0, e)
		sameText(t, s)
	}
	for _, s := range []string{
		"", ",", "b", "b25", "b25e", "b25e ", "b25e;80x24,0,0,1", "b25e80x24,0,0,1", "b25,80x24,0,0,1", "0b25e,80x24,0,0,1", body,
		"B25E,80x24,0,0,1", "b25E,80x24,0,0,1", "b25g,80x24,0,0,1", "b25-,80x24,0,0,1", " b25e,80x24,0,0,1", "0x25,80x24,0,0,1",
		",b25e,80x24,0,0,1", "\xff\xff\xff\xff,80x24,0,0,1", "b2é,80x24,0,0,1",
	} {
		check(s, errForm)
	}
	for n := range 1 << 16 {
		s := fmt.Sprintf("%04x,%s", n, body)
		if c, err := parse.Text(s); n == 0xb25e && (err != nil || c.ID != 1) || n != 0xb25e && fault.Code(err) != errSum {
			t.Fatalf("P11.1: Text(%q) = %v, %v", s, c, err)
		}
	}
	// Of another sum nothing else is told, whatever stands behind it.
	for _, wrong := range []string{"080x24,0,0,1", "80x24,0,0", "", "0x0,0,0,0", "80x24,0,0{40x24,0,0,1,38x24,41,0,2}", strings.Repeat("1x1,0,0{", 1000)} {
		check(fmt.Sprintf("%04x,%s", plainSum(wrong)^1, wrong), errSum)
	}
	// Of an empty body the first number is missing, behind the sum.
	c, err := parse.Text("0000,")
	told(t, "Text", "0000,", c, err, api.Cell{}, 5, errForm)
	// The sum of a text with its sum: that of the inner one is no number.
	c, err = parse.Text(summed(summed(body)))
	told(t, "Text", "twice", c, err, api.Cell{}, 5, errForm)
}

// Noughts ahead in a sum are digits of it.
func TestSmallSums(t *testing.T) {
	ahead := 0
	for x := range 9000 {
		body := fmt.Sprintf("1x1,%d,0,%d", x, x%10)
		if plainSum(body) >= 1<<12 {
			continue
		}
		ahead++
		if c, err := parse.Text(summed(body)); err != nil || c.X != x {
			t.Fatalf("P11.1: Text(%q) = %v, %v", summed(body), c, err)
		}
		// As many digits as there are, and not four: not of the form.
		sameText(t, strings.TrimLeft(summed(body), "0"))
	}
	if ahead < 10 {
		t.Errorf("only %d sums had noughts ahead", ahead)
	}
}

// ofBytes is a row of leaves whose body has just so many bytes: its IDs are as long as it takes.
func ofBytes(n int) api.Cell {
	const kids = 3500
	c := row(of(0, 0, 2*kids-1, 1))
	for k := range kids {
		c.Kids = append(c.Kids, leaf(10000+k, of(2*k, 0, 1, 1)))
	}
	body, _ := print.Body(c)
	missing := n - len(body)
	for k := range c.Kids {
		more := min(missing, 4)
		missing -= more
		for range more {
			c.Kids[k].ID *= 10
		}
	}
	return c
}

func TestLongest(t *testing.T) {
	for _, n := range []int{maxLayout - 10, maxLayout - 6, maxLayout - 5, maxLayout - 4, maxLayout, maxLayout + 1, maxLayout + 900} {
		tree := ofBytes(n)
		body, _ := print.Body(tree)
		if len(body) != n {
			t.Fatalf("a body of %d bytes has %d", n, len(body))
		}
		c, err := parse.Body(body)
		x, textErr := parse.Text(summed(body))
		if n <= maxLayout-5 {
			told(t, "Body", body, c, err, tree, 0, ok)
			told(t, "Text", summed(body), x, textErr, tree, 0, ok)
			if leaves, e := parse.Panes(summed(body)); leaves != len(tree.Kids) || e != ok || !parse.Round(summed(body), summed(body)) {
				t.Errorf("P11.1: Panes = %d, %v", leaves, e)
			}
		} else {
			told(t, "Body", body, c, err, api.Cell{}, 0, errLong)
			told(t, "Text", summed(body), x, textErr, api.Cell{}, 0, errLong)
			if leaves, e := parse.Panes(summed(body)); leaves != 0 || e != errLong || parse.Round(summed(body)) {
				t.Errorf("P11.1: Panes = %d, %v", leaves, e)
			}
		}
		sameBody(t, body)
		sameText(t, body)
		// That it is too long is said ahead of all else.
		for _, wrong := range []string{strings.Repeat("1", n), strings.Repeat("x", n), strings.Repeat("1x1,0,0{", n/8+1)[:n], body[:n-1] + "]", " " + body[1:]} {
			sameBody(t, wrong)
			sameText(t, wrong)
			sameText(t, "0000,"+wrong[5:])
		}
	}
	for _, n := range []int{1 << 17, 1 << 24} {
		sameBody(t, strings.Repeat("1", n))
		sameBody(t, strings.Repeat("[", n))
	}
}

// deepTree is so deep, of rows, or columns, or both in turn; the deeper kid is the first or the last.
func deepTree(deep int, kinds []uint8, first bool) api.Cell {
	c := leaf(0, of(0, 0, 1, 1))
	for n := 1; n < deep; n++ {
		whole := api.Cell{Kind: kinds[n%len(kinds)], Rect: c.Rect}
		other := leaf(n, c.Rect)
		if whole.Kind == rowKind {
			whole.W += 2
			other.W = 1
		} else {
			whole.H += 2
			other.H = 1
		}
		whole.Kids = []api.Cell{other, c}
		if first {
			slices.Reverse(whole.Kids)
		}
		c = whole
	}
	set(&c, 0, 0)
	return c
}

// set lets all cells of a tree begin where they should.
func set(c *api.Cell, x, y int) {
	c.X, c.Y = x, y
	for k := range c.Kids {
		set(&c.Kids[k], x, y)
		if c.Kind == rowKind {
			x += c.Kids[k].W + 1
		} else {
			y += c.Kids[k].H + 1
		}
	}
}

// opening is the place of a text's opening bracket that is the n-th one, from 1 on.
func opening(s string, n int) int {
	at := -1
	for range n {
		at += 1 + strings.IndexAny(s[at+1:], "{[")
	}
	return at
}

func TestDeepest(t *testing.T) {
	for _, kinds := range [][]uint8{{rowKind}, {colKind}, {rowKind, colKind}, {colKind, rowKind, colKind}} {
		for _, first := range []bool{false, true} {
			for _, deep := range []int{2, maxDeep - 1, maxDeep, maxDeep + 1, maxDeep + 2, 1300} {
				tree := deepTree(deep, kinds, first)
				body, _ := print.Body(tree)
				if len(body) > maxLayout-5 {
					t.Fatalf("a body %d deep has %d bytes", deep, len(body))
				}
				if deep > maxDeep {
					// The tree is 1 deep: of the 1000th bracket's cell the kids are 1001 deep.
					refused(t, body, errLong, opening(body, maxDeep))
				} else {
					c, err := parse.Body(body)
					told(t, "Body", body, c, err, tree, 0, ok)
					if n, e := parse.Panes(summed(body)); n != deep || e != ok {
						t.Errorf("P11.1: Panes = %d, %v, not %d", n, e, deep)
					}
				}
				sameTree(t, tree)
			}
		}
	}
}

// Brackets without end: the reader isn't nested deeper than it may, and the bracket's error stands
// ahead of what is wrong, or missing, behind it.
func TestBracketsOnly(t *testing.T) {
	for _, head := range []string{"1x1,0,0{", "1x1,0,0["} {
		for _, n := range []int{1, 2, maxDeep - 2, maxDeep - 1} {
			body := strings.Repeat(head, n)
			refused(t, body, errForm, len(body))
			refused(t, body+"]", errForm, len(body))
			refused(t, body+"1x1,0,0,1,", errForm, len(body)+10)
		}
		at := maxDeep*len(head) - 1
		for _, n := range []int{maxDeep, maxDeep + 1, 2000, 8000} {
			body := strings.Repeat(head, n)
			refused(t, body, errLong, at)
			refused(t, body+"}", errLong, at)
			refused(t, body+"01", errLong, at)
			refused(t, body+"2147483648", errLong, at)
		}
		// An error that is met ahead of the bracket is told.
		body := strings.Repeat(head, maxDeep-1)
		refused(t, body+"01x1,0,0{", errForm, len(body))
		refused(t, body+"1x1,0,2147483648{", errLong, len(body)+6)
		refused(t, body+"1x1,0,0(", errForm, len(body)+7)
		refused(t, body+"1x1,0,0{", errLong, len(body)+7)
	}
}

// How deep a cell is hangs on the brackets that are open, not on how many there were.
func TestDeepSiblings(t *testing.T) {
	// flat is a column of so many rows of two leaves each: 3 deep, whatever there is in all.
	flat := func(n int) api.Cell {
		c := col(of(0, 0, 3, 2*n-1))
		for k := range n {
			c.Kids = append(c.Kids, row(of(0, 2*k, 3, 1), leaf(2*k, of(0, 2*k, 1, 1)), leaf(2*k+1, of(2, 2*k, 1, 1))))
		}
		return c
	}
	sameTree(t, flat(1500))
	if n, e := parse.Panes(summedOf(flat(1500))); n != 3000 || e != ok {
		t.Errorf("P11.1: Panes = %d, %v", n, e)
	}
	// Two deep trees side by side; the one or the other is too deep.
	for _, deep := range [][2]int{{699, 300}, {300, 699}, {500, 500}, {998, 999}, {999, 999}, {999, 1000}, {1000, 2}} {
		body := "9x9,0,0{" + deepBody(deep[0]) + "," + deepBody(deep[1]) + "}"
		switch {
		case deep[0] > maxDeep-1:
			refused(t, body, errLong, opening(body, maxDeep))
		case deep[1] > maxDeep-1:
			refused(t, body, errLong, opening(body, deep[0]-1+maxDeep))
		default:
			refused(t, body, errArg, 0) // the same IDs
		}
	}
}

func summedOf(c api.Cell) string {
	body, _ := print.Body(c)
	return summed(body)
}

// deepBody is a body that is so deep, of small cells that don't tile.
func deepBody(deep int) string {
	return strings.Repeat("1x1,0,0{", deep-1) + "1x1,0,0,0" + strings.Repeat(",1x1,0,0,0}", deep-1)
}

func TestRoundOfSeveral(t *testing.T) {
	if !parse.Round() || !parse.Round([]string{}...) {
		t.Error("P11.1: none aren't the same")
	}
	long, deep := summedOf(ofBytes(maxLayout-5)), summedOf(deepTree(maxDeep, []uint8{rowKind, colKind}, true))
	texts := []string{summed(mixedBody), long, "b25e,80x24,0,0,1", deep, long, "b25e,80x24,0,0,1", "b25d,80x24,0,0,0"}
	if !parse.Round(texts...) {
		t.Error("P11.1: texts of trees, each of them")
	}
	for k := range texts {
		for _, wrong := range []string{"", "80x24,0,0,1", "b25d,80x24,0,0,1", summed("0x0,0,0,0"), summed("80x24,0,0"), summedOf(ofBytes(maxLayout - 4)), summed("080x24,0,0,1")} {
			l := slices.Clone(texts)
			l[k] = wrong
			if parse.Round(l...) {
				t.Errorf("P11.1: %s is no text of a tree", short(wrong))
			}
			if !slices.Equal(l[:k], texts[:k]) || l[k] != wrong {
				t.Errorf("P0.4: what was handed in is changed")
			}
		}
	}
}

// At each place of a body each byte is put, or put instead of what stands there; or bytes are gone.
func TestEveryByte(t *testing.T) {
	read := 0
	look := func(s string) {
		sameBody(t, s)
		sameText(t, s)
		if _, err := parse.Body(s); err == nil {
			read++
		}
	}
	for _, body := range []string{"80x24,0,0,1", mixedBody} {
		for at := range len(body) + 1 {
			look(body[:at])
			look(body[at:])
			for b := range 256 {
				look(body[:at] + string([]byte{byte(b)}) + body[at:])
				if at < len(body) {
					look(body[:at] + string([]byte{byte(b)}) + body[at+1:])
				}
			}
			for n := at + 1; n <= len(body); n++ {
				look(body[:at] + body[n:])
				look(body[:n] + body[at:])
			}
		}
	}
	if read < 100 {
		t.Errorf("only %d of them were read", read)
	}
}

// All texts of few bytes out of those that stand in bodies.
func TestEveryShortText(t *testing.T) {
	const signs = "01x,{}[]"
	var look func(s string, more int)
	look = func(s string, more int) {
		sameBody(t, "1x1,0,0"+s)
		sameBody(t, s)
		sameBody(t, "3x1,0,0{1x1,0,0,0,1x1,2,0"+s)
		if more > 0 {
			for k := range signs {
				look(s+signs[k:k+1], more-1)
			}
		}
	}
	look("", 4)
}

// tilings does something with all trees that tile a rectangle, at most so deep; IDs are all 0.
func tilings(r api.Rect, deep int, do func(c api.Cell)) {
	do(leaf(0, r))
	if deep == 1 {
		return
	}
	for _, kind := range []uint8{rowKind, colKind} {
		kidLists(r, kind, deep-1, nil, func(kids []api.Cell) {
			if len(kids) > 1 {
				do(clone(api.Cell{Kind: kind, Rect: r, Kids: kids}))
			}
		})
	}
}

// kidLists does something with all lists of kids that fill a rectangle, in a row or a column.
func kidLists(r api.Rect, kind uint8, deep int, kids []api.Cell, do func(kids []api.Cell)) {
	size := r.W
	if kind == colKind {
		size = r.H
	}
	for n := 1; n <= size; n++ {
		head, rest := of(r.X, r.Y, n, r.H), of(r.X+n+1, r.Y, r.W-n-1, r.H)
		if kind == colKind {
			head, rest = of(r.X, r.Y, r.W, n), of(r.X, r.Y+n+1, r.W, r.H-n-1)
		}
		tilings(head, deep, func(kid api.Cell) {
			if n == size {
				do(append(kids, kid))
			} else {
				kidLists(rest, kind, deep, append(kids, kid), do)
			}
		})
	}
}

// number gives the leaves of a tree IDs, one behind the other.
func number(c *api.Cell, from int) int {
	if c.Kind == leafKind {
		c.ID = from
		return from + 1
	}
	for k := range c.Kids {
		from = number(&c.Kids[k], from)
	}
	return from
}

func TestEverySmallTiling(t *testing.T) {
	trees := 0
	for _, r := range []api.Rect{of(2, 1, 1, 1), of(0, 0, 3, 1), of(1, 1, 3, 3), of(1, 2, 5, 3), of(1, 2, 4, 5), of(0, 1, 1, 7), of(0, 11, 1, 7)} {
		tilings(r, 3, func(c api.Cell) {
			trees++
			number(&c, 0)
			sameTree(t, c)
		})
	}
	if trees < 200 {
		t.Errorf("only %d trees tiled", trees)
	}
}

// randomTree is a tree that tiles a rectangle.
func randomTree(g *rand.Rand, r api.Rect, deep int) api.Cell {
	kind, size := rowKind, r.W
	if g.Intn(2) > 0 {
		kind, size = colKind, r.H
	}
	if deep == 0 || size < 3 || g.Intn(6) == 0 {
		return leaf(0, r)
	}
	c := api.Cell{Kind: kind, Rect: r}
	from := 0
	for from < size {
		n := 1 + g.Intn(size-from)
		if from == 0 {
			n = 1 + g.Intn(size-2)
		}
		if n == size-from-1 {
			n++ // behind it there is space for a line, but for none of its kids
		}
		part := of(r.X+from, r.Y, n, r.H)
		if kind == colKind {
			part = of(r.X, r.Y+from, r.W, n)
		}
		c.Kids = append(c.Kids, randomTree(g, part, deep-1))
		from += n + 1
	}
	if len(c.Kids) < 2 {
		return leaf(0, r)
	}
	return c
}

// changed is a text with something else somewhere in it: a byte of those that stand in bodies, a
// piece that is gone, or that stands elsewhere, too.
func changed(g *rand.Rand, s string) string {
	const signs = "0123456789x,{}[]"
	at := g.Intn(len(s) + 1)
	end := min(len(s), at+g.Intn(12))
	sign := signs[g.Intn(len(signs)):][:1]
	switch g.Intn(5) {
	case 0:
		return s[:at] + sign + s[at:]
	case 1:
		return s[:at] + sign + s[min(at+1, len(s)):]
	case 2:
		return s[:at] + s[end:]
	case 3:
		return s[:at] + s[at:end] + s[at:]
	}
	to := g.Intn(len(s) + 1)
	return s[:to] + s[at:end] + s[to:]
}

func TestManyTrees(t *testing.T) {
	g := rand.New(rand.NewSource(1111))
	most, met := 0, map[api.Errno]int{}
	for range 300 {
		r := of(g.Intn(3000), g.Intn(3000), 1+g.Intn(120), 1+g.Intn(90))
		c := randomTree(g, r, 1+g.Intn(9))
		number(&c, g.Intn(1000000))
		sameTree(t, c)
		most = max(most, len(cells(c)))
		body, _ := print.Body(c)
		for range 30 {
			other := body
			for range 1 + g.Intn(2) {
				other = changed(g, other)
			}
			sameBody(t, other)
			sameText(t, changed(g, summed(body)))
			_, _, e := plainBody(other)
			met[e]++
		}
	}
	if most < 100 || met[ok] == 0 || met[errForm] == 0 || met[errTile] == 0 || met[errArg] == 0 || met[errLong] == 0 {
		t.Errorf("the greatest tree had %d cells; of errors there were %v", most, met)
	}
}

// What is answered is new memory: what somebody writes into it, or puts behind its lists, changes
// neither the rest of it nor what is answered later.
func TestAnswersAreNew(t *testing.T) {
	body, _ := print.Body(mixed())
	calls := map[string]func() (api.Cell, error){
		"Body": func() (api.Cell, error) { return parse.Body(body) },
		"Text": func() (api.Cell, error) { return parse.Text(summed(body)) },
	}
	for name, call := range calls {
		a, _ := call()
		b, _ := call()
		var spoil func(c *api.Cell)
		spoil = func(c *api.Cell) {
			room := c.Kids[len(c.Kids):cap(c.Kids)]
			for k := range room {
				room[k] = leaf(-7, c.Rect)
			}
			for k := range c.Kids {
				spoil(&c.Kids[k])
			}
		}
		spoil(&a)
		if !same(a, mixed()) {
			t.Errorf("P0.4: %s: lists of one answer share memory: %v", name, a)
		}
		for k := range a.Kids {
			a.Kids[k] = api.Cell{}
		}
		c, err := call()
		if !same(b, mixed()) || !same(c, mixed()) || err != nil {
			t.Errorf("P0.4: %s: what was answered is changed: %v, %v", name, b, c)
		}
	}
	_, one := parse.Body("80x24,0,0")
	one.(*api.Fault).At = 77
	_, two := parse.Body("80x24,0,0")
	if at, _ := fault.At(two); at != 9 {
		t.Errorf("P0.4: an error that was answered is changed: %v", two)
	}
}

func TestTheSameAgain(t *testing.T) {
	for range 3 {
		sameTree(t, mixed())
		sameBody(t, strings.Repeat("1x1,0,0{", 1001))
		for _, s := range []string{"", "80x24,0,0", "0x0,0,0,0", "80x24,0,0{40x24,0,0,1,38x24,41,0,2}"} {
			sameBody(t, s)
			sameText(t, s)
		}
	}
}

func FuzzTexts(f *testing.F) {
	for _, s := range []string{"", "80x24,0,0,1", "b25e,80x24,0,0,1", mixedBody, "080x24,0,0,1", "80x24,0,0,2147483648", "3x1,0,0{1x1,0,0,0,1x1,2,0,1}", "1x3,0,0[1x1,0,0,0,1x1,0,2,1]", "80x24,0,0{40x24,0,0,1,38x24,41,0,2}"} {
		f.Add(s)
	}
	f.Fuzz(func(t *testing.T, s string) {
		sameBody(t, s)
		sameText(t, s)
	})
}

func FuzzTrees(f *testing.F) {
	f.Add(int64(1), 80, 24, 4, 0)
	f.Add(int64(2), 5, 5, 3, 1)
	f.Add(int64(3), 40, 3, 6, maxNum)
	f.Fuzz(func(t *testing.T, seed int64, w, h, deep, id int) {
		g := rand.New(rand.NewSource(seed))
		c := randomTree(g, of(0, 0, 1+int(uint8(w)), 1+int(uint8(h))), int(uint8(deep)%8))
		number(&c, int(uint(id)%(maxNum-70000)))
		sameTree(t, c)
		body, _ := print.Body(c)
		for range 5 {
			body = changed(g, body)
			sameBody(t, body)
		}
	})
}
