package wire_test

import (
	"math"
	"math/big"
	"regexp"
	"slices"
	"strings"
	"testing"

	"etchant/wire"
)

// A value in these tests is an int, a string, a list of ints or a list of strings; empties has one of each kind, the zero values.
var empties = []any{0, "", []int(nil), []string(nil)}

// write serializes a value by the function for its kind.
func write(v any) string {
	switch x := v.(type) {
	case int:
		return wire.Int(x)
	case string:
		return wire.Text(x)
	case []int:
		return wire.Ints(x)
	}
	return wire.Texts(v.([]string))
}

// read decodes a value of the same kind as v.
func read(r *wire.Reader, v any) any {
	switch v.(type) {
	case int:
		return r.Int()
	case string:
		return r.Text()
	case []int:
		return r.Ints()
	}
	return r.Texts()
}

// same reports whether two values of one kind are equal, nil lists and empty ones among them.
func same(a, b any) bool {
	switch x := a.(type) {
	case []int:
		return slices.Equal(x, b.([]int))
	case []string:
		return slices.Equal(x, b.([]string))
	}
	return a == b
}

// zero returns the zero value of the kind of v.
func zero(v any) any {
	switch v.(type) {
	case int:
		return 0
	case string:
		return ""
	case []int:
		return []int(nil)
	}
	return []string(nil)
}

// sameKind reports whether a and b are values of one kind.
func sameKind(a, b any) bool {
	switch a.(type) {
	case int:
		_, ok := b.(int)
		return ok
	case string:
		_, ok := b.(string)
		return ok
	case []int:
		_, ok := b.([]int)
		return ok
	}
	_, ok := b.([]string)
	return ok
}

// someInts returns integers of all lengths, with both signs, among them the greatest and the least one.
func someInts() []int {
	list := []int{0, 250, -250, math.MaxInt, math.MaxInt - 1, math.MinInt, math.MinInt + 1, 1 << 32, -1 << 32}
	for n := 1; n <= math.MaxInt/10; n *= 10 {
		list = append(list, n, n-1, n+1, -n, 1-n, -1-n)
	}
	slices.Sort(list)
	return slices.Compact(list)
}

// someTexts returns strings of many lengths and with any bytes, among them marks and serializations.
func someTexts() []string {
	var all strings.Builder
	for b := range 256 {
		all.WriteByte(byte(b))
	}
	list := []string{"", "a", "ab", "a:b;", "0", "1;", "-1;", ";", ":", "[", "]", "[]", "0:", "1:a", "[1;]", "[0:]", "2:ab", " ", "\n", "\x00", "\x00\x00", "\xff\xfe", "\x80", "ä", "日本", "\U0001f600", all.String()}
	for _, n := range []int{8, 9, 10, 11, 99, 100, 999, 1000, 10000} {
		list = append(list, strings.Repeat("x", n))
	}
	return list
}

// samples returns different values of all kinds.
func samples() []any {
	var list []any
	for _, n := range someInts() {
		list = append(list, n)
	}
	for _, s := range someTexts() {
		list = append(list, s)
	}
	for _, l := range [][]int{nil, {0}, {1}, {-1}, {1, -2}, {-2, 1}, {12}, {1, 2}, {0, 0}, {0, 0, 0}, {math.MaxInt, math.MinInt}, someInts()} {
		list = append(list, l)
	}
	for _, l := range [][]string{nil, {""}, {"", ""}, {"a"}, {"", "a"}, {"a", ""}, {"a]"}, {"ab"}, {"a", "b"}, {"1:a"}, {"[", "]"}, {"]", "["}, {"0:", "[]"}, someTexts()} {
		list = append(list, l)
	}
	return list
}

// mustBeBad reports an error unless r is bad, has nothing left and decodes nothing, however often it is asked.
func mustBeBad(t *testing.T, r *wire.Reader, name string) {
	t.Helper()
	for range 2 {
		for _, v := range empties {
			if !r.Bad() || r.Left() != 0 {
				t.Errorf("%s: not bad, or %d bytes left", name, r.Left())
			}
			if got := read(r, v); !same(got, v) {
				t.Errorf("%s: decoded %#v", name, got)
			}
		}
	}
}

// mustRefuse reports an error unless a reader of text becomes bad by decoding a value of the kind of v, and decodes nothing.
func mustRefuse(t *testing.T, text string, v any) {
	t.Helper()
	r := wire.New(text)
	if got := read(r, v); !same(got, zero(v)) {
		t.Errorf("%T of %q: decoded %#v", v, text, got)
	}
	mustBeBad(t, r, text)
}

// mustDecode reports an error unless v is the value that r decodes, with so many bytes left after it.
func mustDecode(t *testing.T, r *wire.Reader, v any, left int) {
	t.Helper()
	if got := read(r, v); !same(got, v) || r.Left() != left || r.Bad() {
		t.Errorf("decoded %#v, not %#v; %d bytes left, not %d; bad: %v", got, v, r.Left(), left, r.Bad())
	}
}

var (
	intAhead  = regexp.MustCompile(`^(0|-?[1-9][0-9]*);`)
	textAhead = regexp.MustCompile(`^(0|[1-9][0-9]*):`)
)

// expected finds out otherwise which value of the kind of v begins in text, and how many bytes its serialization has; false, if none begins there.
func expected(text string, v any) (any, int, bool) {
	switch v.(type) {
	case int:
		return expectedInt(text)
	case string:
		return expectedText(text)
	case []int:
		return expectedList[int](text, expectedInt)
	}
	return expectedList[string](text, expectedText)
}

func expectedInt(text string) (any, int, bool) {
	found := intAhead.FindStringSubmatch(text)
	if found == nil {
		return 0, 0, false
	}
	n, _ := new(big.Int).SetString(found[1], 10)
	if !n.IsInt64() {
		return 0, 0, false
	}
	return int(n.Int64()), len(found[0]), true
}

func expectedText(text string) (any, int, bool) {
	found := textAhead.FindStringSubmatch(text)
	if found == nil {
		return "", 0, false
	}
	after := text[len(found[0]):]
	n, _ := new(big.Int).SetString(found[1], 10)
	if n.Cmp(big.NewInt(int64(len(after)))) > 0 {
		return "", 0, false
	}
	return after[:n.Int64()], len(found[0]) + int(n.Int64()), true
}

func expectedList[T any](text string, one func(string) (any, int, bool)) (any, int, bool) {
	var list []T
	if text == "" || text[0] != '[' {
		return list, 0, false
	}
	at := 1
	for at < len(text) && text[at] != ']' {
		v, n, ok := one(text[at:])
		if !ok {
			return []T(nil), 0, false
		}
		list = append(list, v.(T))
		at += n
	}
	if at == len(text) {
		return []T(nil), 0, false
	}
	return list, at + 1, true
}
