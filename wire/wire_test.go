package wire_test

import (
	"fmt"
	"math"
	"strings"
	"testing"

	"etchant/wire"
)

// P3.1

func TestInt(t *testing.T) {
	for n, want := range map[int]string{0: "0;", -1: "-1;", 250: "250;", 7: "7;", 10: "10;", -10: "-10;", math.MaxInt: "9223372036854775807;", math.MinInt: "-9223372036854775808;"} {
		if got := wire.Int(n); got != want {
			t.Errorf("Int of %d: %q", n, got)
		}
	}
	for _, n := range someInts() {
		if got := wire.Int(n); got != fmt.Sprintf("%d;", n) {
			t.Errorf("Int of %d: %q", n, got)
		}
	}
}

func TestText(t *testing.T) {
	for s, want := range map[string]string{"ab": "2:ab", "": "0:", "a:b;": "4:a:b;", "0:": "2:0:", "\x00": "1:\x00", "\xff\xfe": "2:\xff\xfe", "ä": "2:\xc3\xa4", "日本": "6:日本"} {
		if got := wire.Text(s); got != want {
			t.Errorf("Text of %q: %q", s, got)
		}
	}
	for _, s := range someTexts() {
		if got := wire.Text(s); got != fmt.Sprintf("%d:%s", len(s), s) {
			t.Errorf("Text of %q: %q", s, got)
		}
	}
}

func TestLists(t *testing.T) {
	for _, c := range []struct {
		v    any
		want string
	}{
		{[]int{1, -2}, "[1;-2;]"},
		{[]int{-2, 1}, "[-2;1;]"},
		{[]int{0}, "[0;]"},
		{[]int{}, "[]"},
		{[]int(nil), "[]"},
		{[]int{math.MinInt, 0, math.MaxInt}, "[-9223372036854775808;0;9223372036854775807;]"},
		{[]string{"", "a"}, "[0:1:a]"},
		{[]string{"a", ""}, "[1:a0:]"},
		{[]string{""}, "[0:]"},
		{[]string{}, "[]"},
		{[]string(nil), "[]"},
		{[]string{"a]", "[]", ";"}, "[2:a]2:[]1:;]"},
	} {
		if got := write(c.v); got != c.want {
			t.Errorf("%#v: %q", c.v, got)
		}
	}
	all, texts := "[", "["
	for _, n := range someInts() {
		all += wire.Int(n)
	}
	for _, s := range someTexts() {
		texts += wire.Text(s)
	}
	if wire.Ints(someInts()) != all+"]" || wire.Texts(someTexts()) != texts+"]" {
		t.Error("lists are not made of the serializations of their elements")
	}
}

// P3.2

func TestNew(t *testing.T) {
	for _, s := range append(someTexts(), "1;2;", "[1;", strings.Repeat("x", 100000)) {
		r := wire.New(s)
		for range 2 {
			if r.Bad() || r.Left() != len(s) {
				t.Errorf("New of %q: bad, or %d bytes left", s, r.Left())
			}
		}
	}
	r := wire.New("5;6;")
	mustDecode(t, r, 5, 2)
	mustDecode(t, r, 6, 0)
}

func TestBadReadersStayBad(t *testing.T) {
	for _, v := range empties {
		r := wire.New("7;x5;1:a[][]")
		mustDecode(t, r, 7, 10)
		if got := read(r, v); !same(got, v) {
			t.Errorf("decoded %#v", got)
		}
		mustBeBad(t, r, fmt.Sprintf("after a malformed %T", v))
	}
}

// A bad reader stands for itself: others of the same text are not bad.
func TestReadersApart(t *testing.T) {
	const text = "1;2;"
	first, second := wire.New(text), wire.New(text)
	mustDecode(t, first, 1, 2)
	if got := first.Text(); got != "" {
		t.Errorf("decoded %q", got)
	}
	mustBeBad(t, first, "the first reader")
	mustDecode(t, second, 1, 2)
	mustDecode(t, second, 2, 0)
}

// P3.3

func TestExample(t *testing.T) {
	r := wire.New("[1;-2;]3;")
	mustDecode(t, r, []int{1, -2}, 2)
	mustDecode(t, r, 3, 0)
	if n := r.Int(); n != 0 {
		t.Errorf("decoded %d after the end", n)
	}
	mustBeBad(t, r, "after the end")
}

// What follows a serialization does not change what is decoded.
func TestDecodingBeforeOthers(t *testing.T) {
	for _, v := range samples() {
		for _, tail := range []string{"", "0", "1;", ";", ":", "[", "]", "x", "[1;]", "\x00", "\xff"} {
			r := wire.New(write(v) + tail)
			mustDecode(t, r, v, len(tail))
		}
	}
}

func TestMalformedInts(t *testing.T) {
	for _, s := range []string{
		"", ";", "-", "-;", "+", "x", "1", "12", "-1", "0", ":", "1:",
		"01;", "00;", "007;", "-01;", "-00;", "-0;", "+1;", "+0;", "--1;", "-+1;", "+-1;",
		" 1;", "1 ;", "1\n;", "\t1;", "1_000;", "0x1;", "1e3;", "1.0;", "1.;", "1,;", "a;", "1a;", "a1;", "- 1;", "1-;",
		"٣;", "\x001;", "1\x00;", "\xff;", "1\xff;",
		"9223372036854775808;", "-9223372036854775809;", "18446744073709551616;", "18446744073709551617;", "-18446744073709551616;",
		"10000000000000000000;", "99999999999999999999;", "-99999999999999999999;", "340282366920938463463374607431768211457;",
		"09223372036854775807;", "+9223372036854775807;", "-09223372036854775808;",
		strings.Repeat("9", 5000) + ";", strings.Repeat("0", 5000) + "1;", strings.Repeat("1", 5000),
		"[1;]", "[]", "1:a",
	} {
		mustRefuse(t, s, 0)
	}
}

func TestMalformedTexts(t *testing.T) {
	for _, s := range []string{
		"", ":", "-", "x", "0", "2", "0;", "1;a", "2ab", "ab",
		"1:", "2:a", "3:ab", "10:123456789", "100:" + strings.Repeat("x", 99),
		"-1:", "-1:a", "-0:", "-2:ab", "-9223372036854775808:a", "-9223372036854775809:a",
		"01:a", "00:", "02:ab", "+1:a", "+0:", " 1:a", "1 :a", "1\n:a", "1_0:0123456789", "0x1:a", "1.0:a", "1e0:a", "a:a", "1a:a",
		"9223372036854775807:a", "9223372036854775808:a", "18446744073709551616:", "18446744073709551617:a", "99999999999999999999:", "-18446744073709551615:a",
		strings.Repeat("9", 5000) + ":", strings.Repeat("0", 5000) + "1:a",
		"[0:]", "[]", "1;",
	} {
		mustRefuse(t, s, "")
	}
}

func TestMalformedLists(t *testing.T) {
	for _, s := range []string{"", "[", "]", "][", "x", "x[]", " []", "(1;)", "[ ]", "[x]", "[1", "1;", "[,]", "[[]", "[[]]", "[;]", "[:]", "\x00[]", "{}"} {
		mustRefuse(t, s, []int(nil))
		mustRefuse(t, s, []string(nil))
	}
	for _, s := range []string{"[1;", "[1]", "[1;2", "[1;2]", "[1;2;", "[1;;]", "[01;]", "[1;-0;]", "[1; 2;]", "[1;,2;]", "[1;[2;]", "[1;x", "[9223372036854775808;]", "[1;-9223372036854775809;]", "[0:]", "[1:a]", "[1;1:a]"} {
		mustRefuse(t, s, []int(nil))
	}
	for _, s := range []string{"[0:", "[1:a", "[1:]", "[2:a]", "[1:a1:]", "[1:a1:b", "[1:ab]", "[1:a 1:b]", "[01:a]", "[-1:]", "[1:a-1:]", "[1;]", "[1:a1;]", "[9223372036854775807:]", "[99999999999999999999:]"} {
		mustRefuse(t, s, []string(nil))
	}
}

// All short texts of these bytes are decoded as another way of finding out says.
func TestAllShortTexts(t *testing.T) {
	decodeAll(t, "012-+:;[] ", 5)
	decodeAll(t, "1:;[]", 7)
}

// decodeAll decodes all texts of at most so many of these bytes.
func decodeAll(t *testing.T, bytes string, most int) {
	t.Helper()
	texts := []string{""}
	for len(texts) > 0 {
		text := texts[len(texts)-1]
		texts = texts[:len(texts)-1]
		for _, v := range empties {
			want, n, ok := expected(text, v)
			r := wire.New(text)
			got := read(r, v)
			left := 0
			if ok {
				left = len(text) - n
			}
			if !same(got, want) || r.Bad() == ok || r.Left() != left {
				t.Fatalf("%T of %q: %#v, %d bytes left, bad: %v", v, text, got, r.Left(), r.Bad())
			}
		}
		if len(text) < most {
			for _, b := range bytes {
				texts = append(texts, text+string(b))
			}
		}
	}
}

// P3.4

func TestNilReader(t *testing.T) {
	var none *wire.Reader
	mustBeBad(t, none, "a nil reader")
}

func TestZeroReader(t *testing.T) {
	for _, v := range empties {
		for _, r := range []*wire.Reader{new(wire.Reader), {}, wire.New("")} {
			if r.Bad() || r.Left() != 0 {
				t.Errorf("bad from the start, or %d bytes left", r.Left())
			}
			if got := read(r, v); !same(got, v) {
				t.Errorf("decoded %#v", got)
			}
			mustBeBad(t, r, "a zero reader")
		}
	}
}
