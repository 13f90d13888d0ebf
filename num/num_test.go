package num_test

import (
	"math"
	"math/big"
	"slices"
	"strconv"
	"strings"
	"testing"

	"sash/api"
	"sash/num"
)

// What the document tells in numbers is written out here, not taken from api.
const (
	ok      = api.Errno(0)
	errForm = api.Errno(2)
	errLong = api.Errno(3)
	maxNum  = 2147483647
)

func TestDigits(t *testing.T) {
	for _, c := range []struct {
		l    []int
		want string
	}{
		{nil, ""},
		{[]int{}, ""},
		{[]int{0}, "0"},
		{[]int{7}, "7"},
		{[]int{10}, "10"},
		{[]int{80, 24}, "80,24"},
		{[]int{0, 0, 0}, "0,0,0"},
		{[]int{1, 10, 100, 1000}, "1,10,100,1000"},
		{[]int{maxNum - 1, maxNum}, "2147483646,2147483647"},
		{[]int{maxNum + 1}, ""},
		{[]int{-1}, ""},
		{[]int{math.MaxInt}, ""},
		{[]int{math.MinInt}, ""},
		{[]int{1 << 32}, ""},
		{[]int{1<<32 + 5}, ""},
		{[]int{-1, 1}, ",1"},
		{[]int{1, -1}, "1,"},
		{[]int{1, maxNum + 1, 2}, "1,,2"},
		{[]int{-1, -1, -1}, ",,"},
	} {
		if got := num.Digits(c.l...); got != c.want {
			t.Errorf("P1.1: Digits(%v) = %q, want %q", c.l, got, c.want)
		}
	}
}

func TestDigitsOfMany(t *testing.T) {
	l := make([]int, 1000)
	want := make([]string, len(l))
	for i := range l {
		l[i] = i * 7919
		want[i] = strconv.Itoa(l[i])
	}
	if got := num.Digits(l...); got != strings.Join(want, ",") {
		t.Errorf("P1.1: Digits of many: %q", got)
	}
}

func TestDigitsLeavesItsListAsItWas(t *testing.T) {
	room := []int{1, -2, 3, 44, 55}
	before := slices.Clone(room)
	num.Digits(room[:3]...)
	if !slices.Equal(room, before) {
		t.Errorf("P0.4: the list became %v", room)
	}
}

func TestRead(t *testing.T) {
	for _, c := range []struct {
		s    string
		want int
		e    api.Errno
	}{
		{"0", 0, ok},
		{"1", 1, ok},
		{"9", 9, ok},
		{"10", 10, ok},
		{"80", 80, ok},
		{"1000000000", 1000000000, ok},
		{"1999999999", 1999999999, ok},
		{"2147483646", maxNum - 1, ok},
		{"2147483647", maxNum, ok},

		{"2147483648", 0, errLong},
		{"2147483649", 0, errLong},
		{"2147483650", 0, errLong},
		{"3000000000", 0, errLong},
		{"4294967296", 0, errLong},
		{"4294967297", 0, errLong},
		{"10000000000", 0, errLong},
		{"18446744073709551616", 0, errLong},
		{"18446744073709551617", 0, errLong},
		{"1" + strings.Repeat("0", 64), 0, errLong},
		{strings.Repeat("9", 10000), 0, errLong},

		{"", 0, errForm},
		{"00", 0, errForm},
		{"01", 0, errForm},
		{"012", 0, errForm},
		{"02147483648", 0, errForm},
		{strings.Repeat("0", 10000), 0, errForm},
		{"1x", 0, errForm},
		{"x1", 0, errForm},
		{"1x1", 0, errForm},
		{"0x", 0, errForm},
		{"0x1f", 0, errForm},
		{"1f", 0, errForm},
		{"-", 0, errForm},
		{"-0", 0, errForm},
		{"-1", 0, errForm},
		{"+1", 0, errForm},
		{" 1", 0, errForm},
		{"1 ", 0, errForm},
		{"1\n", 0, errForm},
		{"1\x00", 0, errForm},
		{"\x00", 0, errForm},
		{"1_000", 0, errForm},
		{"1,000", 0, errForm},
		{"1.0", 0, errForm},
		{"1e3", 0, errForm},
		{"/", 0, errForm},
		{":", 0, errForm},
		{"1\xff", 0, errForm},
		{"\xff1", 0, errForm},
		{"1\u0661", 0, errForm},
		{"\u0661", 0, errForm},
		{"\uff11", 0, errForm},

		{"99999999999999999999x", 0, errForm},
		{"2147483648 ", 0, errForm},
		{strings.Repeat("9", 10000) + "\xff", 0, errForm},
	} {
		if n, e := num.Read(c.s); n != c.want || e != c.e {
			t.Errorf("P1.1: Read(%.40q) = %d, %d, want %d, %d", c.s, n, e, c.want, c.e)
		}
	}
}

func TestHead(t *testing.T) {
	for _, c := range []struct {
		s    string
		want int
		k    int
		e    api.Errno
	}{
		{"0", 0, 1, ok},
		{"7", 7, 1, ok},
		{"12x3", 12, 2, ok},
		{"80x24", 80, 2, ok},
		{"0,1", 0, 1, ok},
		{"0x12", 0, 1, ok},
		{"1 2", 1, 1, ok},
		{"10}", 10, 2, ok},
		{"5\xff", 5, 1, ok},
		{"5\x00", 5, 1, ok},
		{"51\u0661", 51, 2, ok},
		{"1/", 1, 1, ok},
		{"1:", 1, 1, ok},
		{"1a", 1, 1, ok},
		{"3,99999999999999999999", 3, 1, ok},
		{"2147483647", maxNum, 10, ok},
		{"2147483647]", maxNum, 10, ok},

		{"2147483648", 0, 0, errLong},
		{"2147483648}", 0, 0, errLong},
		{"18446744073709551617x", 0, 0, errLong},
		{strings.Repeat("9", 10000) + "x", 0, 0, errLong},

		{"", 0, 0, errForm},
		{"x", 0, 0, errForm},
		{"x1", 0, 0, errForm},
		{",1", 0, 0, errForm},
		{"-1", 0, 0, errForm},
		{"+1", 0, 0, errForm},
		{" 1", 0, 0, errForm},
		{"/1", 0, 0, errForm},
		{":1", 0, 0, errForm},
		{"\xff1", 0, 0, errForm},
		{"\u0661", 0, 0, errForm},
		{"00", 0, 0, errForm},
		{"01", 0, 0, errForm},
		{"00x", 0, 0, errForm},
		{"012,3", 0, 0, errForm},
		{"0" + strings.Repeat("9", 10000), 0, 0, errForm},
	} {
		if n, k, e := num.Head(c.s); n != c.want || k != c.k || e != c.e {
			t.Errorf("P1.1: Head(%.40q) = %d, %d, %d, want %d, %d, %d", c.s, n, k, e, c.want, c.k, c.e)
		}
	}
}

func TestHex(t *testing.T) {
	for _, c := range []struct {
		n    uint16
		want string
	}{
		{0, "0000"},
		{1, "0001"},
		{9, "0009"},
		{10, "000a"},
		{15, "000f"},
		{16, "0010"},
		{0x0100, "0100"},
		{0x1000, "1000"},
		{0x1234, "1234"},
		{0x5678, "5678"},
		{0x9abc, "9abc"},
		{0xdef0, "def0"},
		{0xb25d, "b25d"},
		{0xffff, "ffff"},
	} {
		if got := num.Hex(c.n); got != c.want {
			t.Errorf("P1.1: Hex(%d) = %q, want %q", c.n, got, c.want)
		}
	}
}

func TestReadHex(t *testing.T) {
	for _, c := range []struct {
		s    string
		want uint16
	}{
		{"0000", 0},
		{"0001", 1},
		{"000f", 15},
		{"00f0", 0xf0},
		{"0f00", 0xf00},
		{"f000", 0xf000},
		{"b25d", 0xb25d},
		{"ffff", 0xffff},
	} {
		if n, e := num.ReadHex(c.s); n != c.want || e != ok {
			t.Errorf("P1.1: ReadHex(%q) = %d, %d, want %d", c.s, n, e, c.want)
		}
	}
	for _, s := range []string{
		"", "0", "00", "000", "b25", "00000", "0b25d", "b25d0", "b25d,", strings.Repeat("0", 1000),
		"B25D", "b25D", "000A", "000F", "00g0", "g000", "000g", "000`", "000/", "000:", "000@",
		"0x12", "+123", "-123", " 123", "123 ", "12 3", "12\n3", "1\x0023", "1_23",
		"00\u00e9", "\u066100", "a\xff00", "\xff\xff\xff\xff", "\u00e9\u00e9", "\U0001d7d8",
		"0\u06610\u0661",
	} {
		if n, e := num.ReadHex(s); n != 0 || e != errForm {
			t.Errorf("P1.1: ReadHex(%.40q) = %d, %d, want 0, %d", s, n, e, errForm)
		}
	}
}

// Every single byte, and every byte that stands at each place of a number, is a digit or isn't one.
func TestEveryByte(t *testing.T) {
	for b := range 256 {
		sign := string([]byte{byte(b)})
		digit := '0' <= b && b <= '9'
		small := digit || 'a' <= b && b <= 'f'
		if _, e := num.Read("1" + sign); (e == ok) != digit || !digit && e != errForm {
			t.Errorf("P1.1: Read of 1 and the byte %d: %d", b, e)
		}
		if _, k, e := num.Head("1" + sign + "2"); e != ok || (k == 3) != digit || !digit && k != 1 {
			t.Errorf("P1.1: Head of 1, the byte %d and 2: %d, %d", b, k, e)
		}
		for at := range 4 {
			s := "0000"[:at] + sign + "0000"[at+1:]
			n, e := num.ReadHex(s)
			if small != (e == ok) || !small && (n != 0 || e != errForm) {
				t.Errorf("P1.1: ReadHex(%q) = %d, %d", s, n, e)
			}
		}
	}
}

// eachText hands on every text of at most that many of some signs.
func eachText(signs string, most int, look func(string)) {
	level := []string{""}
	for range most + 1 {
		var next []string
		for _, s := range level {
			look(s)
			for i := range len(signs) {
				next = append(next, s+signs[i:i+1])
			}
		}
		level = next
	}
}

// plainHead tells what Head must answer, by numbers without bounds.
func plainHead(s string) (int, int, api.Errno) {
	rest := strings.TrimLeft(s, "0123456789")
	digits := s[:len(s)-len(rest)]
	if digits == "" || len(digits) > 1 && digits[0] == '0' {
		return 0, 0, errForm
	}
	n, _ := new(big.Int).SetString(digits, 10)
	if n.Cmp(big.NewInt(maxNum)) > 0 {
		return 0, 0, errLong
	}
	return int(n.Int64()), len(digits), ok
}

func plainRead(s string) (int, api.Errno) {
	if strings.Trim(s, "0123456789") != "" {
		return 0, errForm
	}
	n, _, e := plainHead(s)
	return n, e
}

func holdAgainstPlain(t *testing.T, s string) {
	t.Helper()
	n, e := num.Read(s)
	if wn, we := plainRead(s); n != wn || e != we {
		t.Errorf("P1.1: Read(%.40q) = %d, %d, want %d, %d", s, n, e, wn, we)
	}
	if e == ok && num.Digits(n) != s {
		t.Errorf("P1.2: Read(%.40q) = %d, whose digits are %q", s, n, num.Digits(n))
	}
	n, k, e := num.Head(s)
	if wn, wk, we := plainHead(s); n != wn || k != wk || e != we {
		t.Errorf("P1.1: Head(%.40q) = %d, %d, %d, want %d, %d, %d", s, n, k, e, wn, wk, we)
	}
	if e == ok && num.Digits(n) != s[:k] {
		t.Errorf("P1.2: Head(%.40q) = %d, %d, whose digits are %q", s, n, k, num.Digits(n))
	}
}

func TestShortTexts(t *testing.T) {
	eachText("01289x,-\xc2\xa9", 5, func(s string) { holdAgainstPlain(t, s) })
}

// Around each of these lies an edge, or a place at which a machine's number would wrap round.
func TestTextsAroundEdges(t *testing.T) {
	for _, edge := range []string{
		"10", "1000000000", "214748364", "2147483647", "2147483650", "4294967296", "6442450944",
		"9223372036854775808", "18446744073709551616", "340282366920938463463374607431768211456",
	} {
		n, _ := new(big.Int).SetString(edge, 10)
		for d := int64(-12); d <= 12; d++ {
			s := new(big.Int).Add(n, big.NewInt(d)).String()
			for _, tail := range []string{"", "0", "9", "x", ",1", "\xff"} {
				holdAgainstPlain(t, s+tail)
				holdAgainstPlain(t, "0"+s+tail)
			}
		}
	}
}

func thereAndBack(t *testing.T, n int) {
	t.Helper()
	s := num.Digits(n)
	if got, e := num.Read(s); got != n || e != ok {
		t.Errorf("P1.2: %d is written %q, and read as %d, %d", n, s, got, e)
	}
	if got, k, e := num.Head(s + ",0"); got != n || k != len(s) || e != ok {
		t.Errorf("P1.2: %d is written %q, and is the head %d, %d, %d", n, s, got, k, e)
	}
}

func TestNumbersThereAndBack(t *testing.T) {
	for n := range 20000 {
		thereAndBack(t, n)
		thereAndBack(t, maxNum-n)
	}
	for n := 1; n < maxNum; n += 104729 {
		thereAndBack(t, n)
	}
}

func TestListsThereAndBack(t *testing.T) {
	l := []int{0, maxNum, 80, 24, 0, 10, 1}
	var got []int
	for _, s := range strings.Split(num.Digits(l...), ",") {
		n, e := num.Read(s)
		if e != ok {
			t.Errorf("P1.2: Read(%q): %d", s, e)
		}
		got = append(got, n)
	}
	if !slices.Equal(got, l) {
		t.Errorf("P1.2: %v became %v", l, got)
	}
}

func TestHexThereAndBack(t *testing.T) {
	for n := range 1 << 16 {
		s := num.Hex(uint16(n))
		if got, e := num.ReadHex(s); int(got) != n || e != ok || len(s) != 4 {
			t.Fatalf("P1.2: %d is written %q, and read as %d, %d", n, s, got, e)
		}
	}
	eachText("09afgAF\xff", 5, func(s string) {
		if n, e := num.ReadHex(s); e == ok && num.Hex(n) != s {
			t.Errorf("P1.2: ReadHex(%q) = %d, whose digits are %q", s, n, num.Hex(n))
		}
	})
}

func TestTheSameAgain(t *testing.T) {
	for range 3 {
		if s := num.Digits(80, -1, 24) + num.Hex(0xb25d); s != "80,,24b25d" {
			t.Errorf("P0.6: %q", s)
		}
		if n, k, e := num.Head("12x3"); n != 12 || k != 2 || e != ok {
			t.Errorf("P0.6: %d, %d, %d", n, k, e)
		}
	}
}

func FuzzTexts(f *testing.F) {
	for _, s := range []string{"", "0", "80x24", "2147483648", "b25d", "\xff"} {
		f.Add(s)
	}
	f.Fuzz(func(t *testing.T, s string) {
		holdAgainstPlain(t, s)
		if n, e := num.ReadHex(s); e == ok && num.Hex(n) != s || e != ok && (n != 0 || e != errForm) {
			t.Errorf("P1.1: ReadHex(%q) = %d, %d", s, n, e)
		}
	})
}
