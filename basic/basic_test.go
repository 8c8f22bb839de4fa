package basic_test

import (
	"math"
	"slices"
	"strings"
	"testing"

	"forecourt/api"
	"forecourt/basic"
)

func TestIsKey(t *testing.T) {
	right := []string{"a", "z", "a0", "a9-_z", "s-", "s_", strings.Repeat("k", api.MaxName)}
	wrong := []string{"", "0a", "9", "-a", "_a", "A", "aB", "a b", " a", "a ", "a.b", "a\n", "a\x00", "é", "aé", "a`", "a{", "a/", "a:", "`", "{", strings.Repeat("k", api.MaxName+1)}
	for _, s := range right {
		if !basic.IsKey(s) {
			t.Errorf("%q is a key", s)
		}
	}
	for _, s := range wrong {
		if basic.IsKey(s) {
			t.Errorf("%q is no key", s)
		}
	}
}

func TestIsPlate(t *testing.T) {
	right := []string{"AZ", "09", "A1", "ABCDEFGHIJ", "0123456789"}
	wrong := []string{"", "A", "ABCDEFGHIJK", "ab", "Ab", "A B", "A-1", "A@", "A[", "A/", "A:", "Ä", "AÄ", "A\n"}
	for _, s := range right {
		if !basic.IsPlate(s) {
			t.Errorf("%q is a plate", s)
		}
	}
	for _, s := range wrong {
		if basic.IsPlate(s) {
			t.Errorf("%q is no plate", s)
		}
	}
}

func TestIsMoment(t *testing.T) {
	for _, at := range []int{0, 1, api.End - 1} {
		if !basic.IsMoment(at) {
			t.Errorf("%d is a moment", at)
		}
	}
	for _, at := range []int{-1, api.End, math.MinInt, math.MaxInt} {
		if basic.IsMoment(at) {
			t.Errorf("%d is no moment", at)
		}
	}
}

func TestIsWindow(t *testing.T) {
	for _, w := range []api.Window{{}, {From: 0, To: api.End}, {From: 5, To: 5}, {From: api.End, To: api.End}} {
		if !basic.IsWindow(w) {
			t.Errorf("%v is right", w)
		}
	}
	for _, w := range []api.Window{{From: -1, To: 5}, {From: 6, To: 5}, {From: 0, To: api.End + 1}, {From: 0, To: -1}, {From: math.MinInt, To: math.MaxInt}, {From: math.MaxInt, To: math.MinInt}} {
		if basic.IsWindow(w) {
			t.Errorf("%v is not right", w)
		}
	}
}

func TestIsTime(t *testing.T) {
	for _, w := range []api.Window{{To: 1}, {From: 0, To: api.End - 1}, {From: api.End - 2, To: api.End - 1}} {
		if !basic.IsTime(w) {
			t.Errorf("%v is right", w)
		}
	}
	for _, w := range []api.Window{{}, {From: -1, To: 5}, {From: 5, To: 5}, {From: 6, To: 5}, {From: 0, To: api.End}, {From: math.MinInt, To: math.MaxInt}, {From: math.MinInt, To: math.MinInt}, {From: math.MaxInt, To: math.MinInt}} {
		if basic.IsTime(w) {
			t.Errorf("%v is not right", w)
		}
	}
}

func TestNumber(t *testing.T) {
	for s, want := range map[string]int{"0": 0, "7": 7, "10": 10, "-1": -1, "-10": -10, "999999999": 999_999_999, "-999999999": -999_999_999} {
		if n, ok := basic.Number(s); n != want || !ok {
			t.Errorf("Number(%q) = %d, %v", s, n, ok)
		}
	}
	for _, s := range []string{"", "-", "-0", "00", "01", "-01", "--1", "+1", "1.", "1a", "a1", "1-", " 1", "1 ", "1000000000", "-1000000000", "0000000001", "١", "/", ":", "1/", "1:"} {
		if n, ok := basic.Number(s); n != 0 || ok {
			t.Errorf("Number(%q) = %d, %v", s, n, ok)
		}
	}
}

func TestNatural(t *testing.T) {
	for s, want := range map[string]int{"0": 0, "9": 9, "1440": 1440, "999999999": 999_999_999} {
		if n, ok := basic.Natural(s); n != want || !ok {
			t.Errorf("Natural(%q) = %d, %v", s, n, ok)
		}
	}
	for _, s := range []string{"", "-1", "-0", "00", "01", "1000000000", "1x"} {
		if n, ok := basic.Natural(s); n != 0 || ok {
			t.Errorf("Natural(%q) = %d, %v", s, n, ok)
		}
	}
}

func TestNumbers(t *testing.T) {
	var a, b int
	if !basic.Numbers([]string{"5", "-7"}, &a, &b) || a != 5 || b != -7 {
		t.Errorf("got %d and %d", a, b)
	}
	if !basic.Numbers(nil) {
		t.Error("no words for no fields are right")
	}
	for _, words := range [][]string{nil, {"5"}, {"5", "6", "7"}, {"x", "5"}, {"5", "x"}, {"5", "-0"}} {
		if basic.Numbers(words, &a, &b) {
			t.Errorf("%q are not two numbers", words)
		}
	}
}

func TestDecimals(t *testing.T) {
	if words := basic.Decimals(5, 0, -70); !slices.Equal(words, []string{"5", "0", "-70"}) {
		t.Errorf("got %q", words)
	}
	if words := basic.Decimals(); len(words) != 0 {
		t.Errorf("got %q", words)
	}
}

func TestList(t *testing.T) {
	count := func(words []string) (int, bool) { return len(words), len(words) < 3 }
	rising := func(l []int) api.Errno {
		if !slices.IsSorted(l) {
			return api.ErrOrder
		}
		return api.OK
	}
	cases := []struct {
		text string
		want []int
		line int
		e    api.Errno
	}{
		{"", nil, 0, api.OK},
		{"\na\nb c\n", []int{0, 1, 2}, 0, api.OK},
		{"a\n\n", nil, 0, api.ErrOrder},
		{"a b\na b c\n", nil, 1, api.ErrSyntax},
		{"a\n\na b c\n", nil, 2, api.ErrSyntax},
		{"a b\nc", nil, 1, api.ErrSyntax},
		{strings.Repeat("x", api.MaxText+1), nil, 0, api.ErrLarge},
	}
	for _, c := range cases {
		l, line, e := basic.List(c.text, count, rising)
		if !slices.Equal(l, c.want) || line != c.line || e != c.e {
			t.Errorf("List(%.20q) = %v, %d, %d", c.text, l, line, e)
		}
	}
}

func TestLines(t *testing.T) {
	cases := []struct {
		text string
		read []string
		line int
		want api.Errno
	}{
		{"", nil, 0, api.OK},
		{"a\nb\n", []string{"a", "b"}, 0, api.OK},
		{"\n", []string{""}, 0, api.OK},
		{"a\n\nb\n", []string{"a", "", "b"}, 0, api.OK},
		{"a\r\n", []string{"a\r"}, 0, api.OK},
		{"a", nil, 0, api.ErrSyntax},
		{"a\nb", []string{"a"}, 1, api.ErrSyntax},
		{"a\nbad\nc\n", []string{"a", "bad"}, 1, api.ErrSyntax},
		{"bad\nb", []string{"bad"}, 0, api.ErrSyntax},
	}
	for _, c := range cases {
		var read []string
		line, e := basic.Lines(c.text, func(line string) bool {
			read = append(read, line)
			return line != "bad"
		})
		if line != c.line || e != c.want || !slices.Equal(read, c.read) {
			t.Errorf("Lines(%q) = %d, %d with %q", c.text, line, e, read)
		}
	}
}

func TestLinesLarge(t *testing.T) {
	text := strings.Repeat("\n", api.MaxText)
	count := 0
	read := func(string) bool { count++; return true }
	if line, e := basic.Lines(text, read); line != 0 || e != api.OK || count != api.MaxText {
		t.Errorf("MaxText bytes: %d, %d, %d lines", line, e, count)
	}
	count = 0
	if line, e := basic.Lines(text+"\n", read); line != 0 || e != api.ErrLarge || count != 0 {
		t.Errorf("more than MaxText bytes: %d, %d, %d lines", line, e, count)
	}
}

func TestWords(t *testing.T) {
	if w := basic.Words("a bc d"); !slices.Equal(w, []string{"a", "bc", "d"}) {
		t.Errorf("got %q", w)
	}
	if w := basic.Words("a\tb"); !slices.Equal(w, []string{"a\tb"}) {
		t.Errorf("only bytes 32 are blanks: got %q", w)
	}
	for _, line := range []string{"", " ", "a  b", " a", "a "} {
		if w := basic.Words(line); len(w) != 0 {
			t.Errorf("Words(%q) = %q", line, w)
		}
	}
}

func TestWriter(t *testing.T) {
	var none basic.Writer
	if s, e := none.Whole(); s != "" || e != api.OK {
		t.Errorf("nothing: %q, %d", s, e)
	}
	var some basic.Writer
	some.Line("a", "bc", "-1")
	some.Line()
	some.Line("d")
	if s, e := some.Whole(); s != "a bc -1\n\nd\n" || e != api.OK {
		t.Errorf("lines: %q, %d", s, e)
	}
}

func TestWriterLarge(t *testing.T) {
	var w basic.Writer
	w.Line(strings.Repeat("x", api.MaxText-1))
	if s, e := w.Whole(); len(s) != api.MaxText || e != api.OK {
		t.Errorf("MaxText bytes: %d, %d", len(s), e)
	}
	w.Line()
	if s, e := w.Whole(); s != "" || e != api.ErrLarge {
		t.Errorf("more than MaxText bytes: %d, %d", len(s), e)
	}
}
