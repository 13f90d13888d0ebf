package sum_test

import (
	"slices"
	"strings"
	"testing"

	"sash/api"
	"sash/sum"
)

// What the document tells in numbers is written out here, not taken from api.
const (
	ok        = api.Errno(0)
	errForm   = api.Errno(2)
	errLong   = api.Errno(3)
	errSum    = api.Errno(4)
	maxLayout = 65535
)

func TestOf(t *testing.T) {
	for _, c := range []struct {
		l    []string
		want uint16
	}{
		{nil, 0},
		{[]string{}, 0},
		{[]string{""}, 0},
		{[]string{"", "", ""}, 0},
		{[]string{"\x00"}, 0},
		{[]string{"\x00\x00\x00"}, 0},
		{[]string{"\x01"}, 1},
		{[]string{"a"}, 97},
		{[]string{"\xff"}, 255},

		{[]string{"\x02\x00"}, 1},
		{[]string{"\x01\x00"}, 32768},
		{[]string{"\x03\x00"}, 32769},
		{[]string{"\x01\x00\x00"}, 16384},
		{[]string{"ab"}, 32768 + 48 + 98},
		{[]string{"ba"}, 49 + 97},
		{[]string{"80x24,0,0,0"}, 0xb25d},
		{[]string{"80x24,0,0,1"}, 0xb25e},
		{[]string{"\u00e9"}, 32768 + 97 + 169},
		{[]string{"\xc3"}, 195},
		{[]string{"\xff\xff"}, 32768 + 127 + 255},
		{[]string{"\xff\xff\xff"}, 16575 + 255},

		{[]string{"a", "b"}, 32768 + 48 + 98},
		{[]string{"a", "", "b"}, 32768 + 48 + 98},
		{[]string{"", "a", "b", ""}, 32768 + 48 + 98},
		{[]string{"b", "a"}, 49 + 97},
		{[]string{"80x24", ",0,0", ",1"}, 0xb25e},
		{[]string{"\xc3", "\xa9"}, 32768 + 97 + 169},
	} {
		if got := sum.Of(c.l...); got != c.want {
			t.Errorf("P2.1: Of(%q) = %d, want %d", c.l, got, c.want)
		}
	}
}

func TestFrom(t *testing.T) {
	for _, c := range []struct {
		c    uint16
		l    []string
		want uint16
	}{
		{0, nil, 0},
		{1, nil, 1},
		{65535, nil, 65535},
		{12345, []string{}, 12345},
		{12345, []string{""}, 12345},
		{12345, []string{"", ""}, 12345},
		{0, []string{"a"}, 97},
		{97, []string{"b"}, 32768 + 48 + 98},
		{1, []string{"\x00"}, 32768},
		{2, []string{"\x00"}, 1},
		{32768, []string{"\x00"}, 16384},
		{65534, []string{"\x00"}, 32767},
		{65535, []string{"\x00"}, 65535},
		{65535, []string{"\x01"}, 0},
		{65535, []string{"\x02"}, 1},
		{65535, []string{"\xff"}, 254},
		{65535, []string{"\x01", "a"}, 97},
		{2, []string{"", "\x00", "", "\x00"}, 32768},
	} {
		if got := sum.From(c.c, c.l...); got != c.want {
			t.Errorf("P2.1: From(%d, %q) = %d, want %d", c.c, c.l, got, c.want)
		}
	}
}

// plainNext is the chapter's own sentence, in numbers without bounds.
func plainNext(c, b int) int {
	n := c / 2
	if c%2 == 1 {
		n += 32768
	}
	return (n + b) % 65536
}

func plainFrom(c int, s string) int {
	for _, b := range []byte(s) {
		c = plainNext(c, int(b))
	}
	return c
}

func TestEverySumAndByte(t *testing.T) {
	for b := range 256 {
		s := string([]byte{byte(b)})
		for c := range 65536 {
			if got := sum.From(uint16(c), s); int(got) != plainNext(c, b) {
				t.Fatalf("P2.1: From(%d, %q) = %d, want %d", c, s, got, plainNext(c, b))
			}
		}
	}
}

// someTexts are of many lengths, and have all bytes; they are the same at every run.
func someTexts() []string {
	l := []string{"", ",", ",,", "0000,", "80x24,0,0,1", "159x48,0,0{79x48,0,0,1,79x48,80,0,2}", "\u00e9\xff\x00"}
	n := uint32(1)
	for k := range 120 {
		b := make([]byte, k*k/7)
		for i := range b {
			n = n*1664525 + 1013904223
			b[i] = byte(n >> 24)
		}
		l = append(l, string(b))
	}
	return l
}

func TestTextsAgainstPlain(t *testing.T) {
	for _, s := range someTexts() {
		if got := sum.Of(s); int(got) != plainFrom(0, s) {
			t.Errorf("P2.1: Of(%.40q) = %d, want %d", s, got, plainFrom(0, s))
		}
		for _, c := range []uint16{1, 2, 255, 256, 32767, 32768, 65535} {
			if got := sum.From(c, s); int(got) != plainFrom(int(c), s) {
				t.Errorf("P2.1: From(%d, %.40q) = %d, want %d", c, s, got, plainFrom(int(c), s))
			}
		}
	}
}

func TestWhereTextsPartPlaysNoPart(t *testing.T) {
	s := "b25e,80x24\u00e9\xff\x00,0,0,1"
	for i := range len(s) + 1 {
		for j := i; j <= len(s); j++ {
			if got := sum.Of(s[:i], s[i:j], s[j:]); got != sum.Of(s) {
				t.Errorf("P2.1: Of(%q, %q, %q) = %d, want %d", s[:i], s[i:j], s[j:], got, sum.Of(s))
			}
			if got := sum.From(sum.Of(s[:i]), s[i:j], s[j:]); got != sum.Of(s) {
				t.Errorf("P2.1: From of what stands ahead of %q: %d, want %d", s[i:], got, sum.Of(s))
			}
		}
	}
}

func TestManyTexts(t *testing.T) {
	l := slices.Repeat([]string{"", "ab", "\xff"}, 10000)
	if got, want := sum.Of(l...), plainFrom(0, strings.Join(l, "")); int(got) != want {
		t.Errorf("P2.1: Of many texts = %d, want %d", got, want)
	}
}

func TestListStaysAsItWas(t *testing.T) {
	room := []string{"a", "", "b", "c", "d"}
	before := slices.Clone(room)
	sum.Of(room[:3]...)
	sum.From(7, room[:3]...)
	if !slices.Equal(room, before) {
		t.Errorf("P0.4: the list became %q", room)
	}
}

func TestPut(t *testing.T) {
	for _, c := range []struct{ s, want string }{
		{"", "0000,"},
		{"\x00", "0000,\x00"},
		{"a", "0061,a"},
		{",", "002c,,"},
		{"ab", "8092,ab"},
		{"\xff", "00ff,\xff"},
		{"80x24,0,0,0", "b25d,80x24,0,0,0"},
		{"80x24,0,0,1", "b25e,80x24,0,0,1"},
		{"0000,", "0059,0000,"},
	} {
		if got := sum.Put(c.s); got != c.want {
			t.Errorf("P2.1: Put(%q) = %q, want %q", c.s, got, c.want)
		}
	}
}

// Put has no bound: it is Cut that asks how long a text is.
func TestPutOfLongTexts(t *testing.T) {
	for _, n := range []int{maxLayout - 5, maxLayout - 4, maxLayout, maxLayout + 1, 1 << 20} {
		s := strings.Repeat("\x00", n)
		if got := sum.Put(s); got != "0000,"+s {
			t.Errorf("P2.1: Put of %d bytes is %.20q, of %d", n, got, len(got))
		}
	}
}

func TestCut(t *testing.T) {
	for _, c := range []struct{ s, want string }{
		{"0000,", ""},
		{"0000,\x00", "\x00"},
		{"0061,a", "a"},
		{"002c,,", ","},
		{"8092,ab", "ab"},
		{"00ff,\xff", "\xff"},
		{"b25d,80x24,0,0,0", "80x24,0,0,0"},
		{"b25e,80x24,0,0,1", "80x24,0,0,1"},
		{"0059,0000,", "0000,"},
		{"0000," + strings.Repeat("\x00", maxLayout-5), strings.Repeat("\x00", maxLayout-5)},
	} {
		if got, e := sum.Cut(c.s); got != c.want || e != ok {
			t.Errorf("P2.1: Cut(%.40q) = %.40q, %d, want %.40q", c.s, got, e, c.want)
		}
	}
}

func TestCutRefuses(t *testing.T) {
	x := strings.Repeat("x", maxLayout)
	zero := strings.Repeat("\x00", maxLayout)
	for _, c := range []struct {
		s string
		e api.Errno
	}{
		{"", errForm},
		{"0", errForm},
		{",", errForm},
		{"b25", errForm},
		{"b25,", errForm},
		{"0000", errForm},
		{"b25e", errForm},
		{",,,,,", errForm},
		{"000,0,", errForm},
		{"00000,", errForm},
		{"0000;", errForm},
		{"0000 ,", errForm},
		{" 0000,", errForm},
		{"00000", errForm},
		{"0000\x00", errForm},
		{"+000,", errForm},
		{"0x00,", errForm},
		{"g000,", errForm},
		{"000g,", errForm},
		{"00 0,", errForm},
		{"\xff\xff\xff\xff,", errForm},
		{"\u00e9\u00e9,", errForm},
		{"00\u00e9,", errForm},
		{"000A,", errForm},
		{"B25E,80x24,0,0,1", errForm},
		{"b25E,80x24,0,0,1", errForm},
		{"b25e;80x24,0,0,1", errForm},
		{"b25e80x24,0,0,1", errForm},
		{"b25e\u00e9,80x24,0,0,1", errForm},
		{"b25;,80x24,0,0,1", errForm},
		{"80x24,0,0,1", errForm},

		{"0001,", errSum},
		{"8000,", errSum},
		{"ffff,", errSum},
		{"0061,b", errSum},
		{"0000,a", errSum},
		{"b25d,80x24,0,0,1", errSum},
		{"b25e,80x24,0,0,0", errSum},
		{"b25d,80x24,0,0,00", errSum},
		{"b25e,80x24,0,0,1\n", errSum},
		{"b25e,,80x24,0,0,1", errSum},
		{"5eb2,80x24,0,0,1", errSum},
		{"32de,80x24,0,0,1", errSum},

		{x, errForm},
		{"0000" + x[:maxLayout-4], errForm},
		{"0000," + x[:maxLayout-5], errSum},
		{"0001," + zero[:maxLayout-5], errSum},
		{x + "x", errLong},
		{"0000" + x[:maxLayout-3], errLong},
		{"0000," + x[:maxLayout-4], errLong},
		{"0000," + zero[:maxLayout-4], errLong},
		{"0000," + strings.Repeat(zero, 20), errLong},
		{sum.Put(x), errLong},
	} {
		if got, e := sum.Cut(c.s); got != "" || e != c.e {
			t.Errorf("P2.1: Cut(%.40q), of %d bytes, = %.40q, %d, want none, %d", c.s, len(c.s), got, e, c.e)
		}
	}
}

// Each byte of the five that stand ahead may be of the form or not, whatever the others are.
func TestCutOfEveryByteAhead(t *testing.T) {
	const s = "b25e,80x24,0,0,1"
	for at := range 5 {
		for b := range 256 {
			told := s[:at] + string([]byte{byte(b)}) + s[at+1:]
			digit := '0' <= b && b <= '9' || 'a' <= b && b <= 'f'
			want := errForm
			if told == s {
				want = ok
			} else if at < 4 && digit {
				want = errSum
			}
			got, e := sum.Cut(told)
			if e != want || (e == ok) != (got == "80x24,0,0,1") {
				t.Errorf("P2.1: Cut(%q) = %q, %d, want %d", told, got, e, want)
			}
		}
	}
}

// Of all sums just one is that of a text.
func TestCutOfEverySum(t *testing.T) {
	const hex = "0123456789abcdef"
	for n := range 65536 {
		ahead := string([]byte{hex[n/4096], hex[n/256%16], hex[n/16%16], hex[n%16], ','})
		want := errSum
		if n == 0xb25e {
			want = ok
		}
		if _, e := sum.Cut(ahead + "80x24,0,0,1"); e != want {
			t.Errorf("P2.1: Cut(%q and the text) is %d, want %d", ahead, e, want)
		}
	}
}

func TestPutIsCut(t *testing.T) {
	l := someTexts()
	for b := range 256 {
		l = append(l, string([]byte{byte(b)}), string([]byte{byte(b), byte(b)}))
		l = append(l, strings.Repeat(string([]byte{byte(b)}), maxLayout-5))
	}
	for _, s := range l {
		if got, e := sum.Cut(sum.Put(s)); got != s || e != ok {
			t.Errorf("P2.2: of %.40q put and cut is %.40q, %d", s, got, e)
		}
	}
}

func otherSums(t *testing.T, s string, at int) {
	t.Helper()
	for d := 1; d < 256; d++ {
		b := []byte(s)
		b[at] += byte(d)
		if sum.Of(s) == sum.Of(string(b)) {
			t.Errorf("P2.2: %.40q has the same sum with the byte %d at %d", s, b[at], at)
		}
		if got, e := sum.Cut(sum.Put(s)[:5] + string(b)); got != "" || e != errSum {
			t.Errorf("P2.2: Cut of %.40q with the byte %d at %d is %.40q, %d", s, b[at], at, got, e)
		}
	}
}

func TestAnotherByteIsAnotherSum(t *testing.T) {
	for _, s := range someTexts()[:40] {
		for at := range len(s) {
			otherSums(t, s, at)
		}
	}
	long := strings.Repeat("80x24,0,0,", 6553)
	for _, at := range []int{0, 1, 15, 16, 17, 32767, 32768, 65528, 65529} {
		otherSums(t, long, at)
	}
}

func TestTheSameAgain(t *testing.T) {
	for range 3 {
		if s := sum.Put("80x24,0,0,1"); s != "b25e,80x24,0,0,1" {
			t.Errorf("P0.6: Put is %q", s)
		}
		if _, e := sum.Cut("0000,a"); e != errSum {
			t.Errorf("P0.6: Cut is %d", e)
		}
		if c := sum.Of("a"); c != 97 {
			t.Errorf("P0.6: Of is %d", c)
		}
	}
}

func plainCut(s string) (string, api.Errno) {
	if len(s) > maxLayout {
		return "", errLong
	}
	ahead, rest, comma := strings.Cut(s, ",")
	if !comma || len(ahead) != 4 || strings.Trim(ahead, "0123456789abcdef") != "" {
		return "", errForm
	}
	if sum.Put(rest)[:4] != ahead {
		return "", errSum
	}
	return rest, ok
}

func FuzzTexts(f *testing.F) {
	for _, s := range []string{"", "0000,", "b25e,80x24,0,0,1", "B25E,80x24,0,0,1", "0001,", "\xff"} {
		f.Add(s, uint16(0))
	}
	f.Fuzz(func(t *testing.T, s string, c uint16) {
		if got := sum.From(c, s); int(got) != plainFrom(int(c), s) {
			t.Errorf("P2.1: From(%d, %q) = %d", c, s, got)
		}
		got, e := sum.Cut(s)
		if want, we := plainCut(s); got != want || e != we {
			t.Errorf("P2.1: Cut(%q) = %q, %d, want %q, %d", s, got, e, want, we)
		}
		if got, e := sum.Cut(sum.Put(s)); len(s) <= maxLayout-5 && (got != s || e != ok) {
			t.Errorf("P2.2: of %q put and cut is %q, %d", s, got, e)
		}
	})
}
