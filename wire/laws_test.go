package wire_test

import (
	"math"
	"slices"
	"strconv"
	"strings"
	"testing"

	"etchant/wire"
)

// P3.5

// shuffled returns values of all kinds in an order that depends only on seed, some of them repeatedly.
func shuffled(n int, seed uint64) []any {
	var list []any
	all := samples()
	for range n {
		seed = seed*6364136223846793005 + 1442695040888963407
		list = append(list, all[int(seed>>33)%len(all)])
	}
	return list
}

func TestConcatenations(t *testing.T) {
	for seed := range uint64(50) {
		list := shuffled(int(seed), seed)
		var text strings.Builder
		for _, v := range list {
			text.WriteString(write(v))
		}
		r, left := wire.New(text.String()), text.Len()
		for _, v := range list {
			left -= len(write(v))
			mustDecode(t, r, v, left)
		}
		if r.Left() != 0 || r.Bad() || r.Int() != 0 {
			t.Errorf("%d bytes left", r.Left())
		}
		mustBeBad(t, r, "after the end")
	}
}

func TestSerializationsApart(t *testing.T) {
	list := samples()
	for i, a := range list {
		for j, b := range list {
			if i != j && sameKind(a, b) && strings.HasPrefix(write(a), write(b)) {
				t.Errorf("the serialization of %#v begins with that of %#v", a, b)
			}
		}
	}
}

// Neighbours in the order of the integers are those whose serializations could be mixed up.
func TestIntsApart(t *testing.T) {
	seen := map[string]bool{}
	for n := -1200; n <= 1200; n++ {
		for _, v := range []int{n, n + math.MinInt, n * 1e15} {
			seen[wire.Int(v)] = true
		}
	}
	if want := 2401*3 - 1; len(seen) != want { // 0 is there twice, and sums wrap around to other numbers
		t.Errorf("%d different serializations, not %d", len(seen), want)
	}
	for text := range seen {
		for k := range len(text) {
			if seen[text[:k]] {
				t.Errorf("%q begins with %q", text, text[:k])
			}
		}
	}
}

// P3.6

func TestTruncations(t *testing.T) {
	for _, v := range samples() {
		text := write(v)
		for k := range text {
			if k < 300 || len(text)-k < 300 || k%97 == 0 {
				mustRefuse(t, text[:k], v)
			}
		}
	}
}

// Of a concatenation that is cut anywhere, what stands whole before the cut is decoded, and nothing else.
func TestTruncatedConcatenations(t *testing.T) {
	list := []any{-12, "a:b;", []int{1, -2, 30}, []string{"", "a]", "[1;]"}, "", []int(nil), 0, []string(nil), math.MinInt, "\xff\x00"}
	text := ""
	for _, v := range list {
		text += write(v)
	}
	for k := range len(text) {
		r, left := wire.New(text[:k]), k
		for _, v := range list {
			left -= len(write(v))
			if left >= 0 {
				mustDecode(t, r, v, left)
				continue
			}
			if got := read(r, v); !same(got, zero(v)) {
				t.Errorf("cut at %d: decoded %#v", k, got)
			}
			mustBeBad(t, r, text[:k])
		}
	}
}

// P1, and the rules R1, R3, R4 and R5

func TestNilIsEmpty(t *testing.T) {
	if wire.Ints(nil) != wire.Ints([]int{}) || wire.Texts(nil) != wire.Texts([]string{}) {
		t.Error("nil lists and empty ones are serialized differently")
	}
}

// Lists are left as they are, also beyond their lengths.
func TestArguments(t *testing.T) {
	for _, v := range samples() {
		switch l := v.(type) {
		case []int:
			own := append(slices.Clone(l), 77)
			wire.Ints(own[:len(l)])
			if !slices.Equal(own, append(slices.Clone(l), 77)) {
				t.Errorf("%#v was changed", l)
			}
		case []string:
			own := append(slices.Clone(l), "more")
			wire.Texts(own[:len(l)])
			if !slices.Equal(own, append(slices.Clone(l), "more")) {
				t.Errorf("%#v was changed", l)
			}
		}
	}
}

// Decoded lists are in memory of their own: writing into one, also beyond its length, changes no other one and no reader.
func TestResults(t *testing.T) {
	r := wire.New("[1;2;3;][1;2;3;][1:a1:b1:c][1:a1:b1:c]7;")
	first := r.Ints()
	clear(first[:cap(first)])
	second := r.Ints()
	firstTexts := r.Texts()
	clear(firstTexts[:cap(firstTexts)])
	secondTexts := r.Texts()
	if !slices.Equal(second, []int{1, 2, 3}) || !slices.Equal(secondTexts, []string{"a", "b", "c"}) || r.Left() != 2 {
		t.Errorf("%v, %q, %d bytes left", second, secondTexts, r.Left())
	}
	clear(second[:cap(second)])
	clear(secondTexts[:cap(secondTexts)])
	if !slices.Equal(first, []int{0, 0, 0}) || !slices.Equal(firstTexts, []string{"", "", ""}) {
		t.Errorf("%v, %q", first, firstTexts)
	}
	mustDecode(t, r, 7, 0)
}

// The same calls return the same results, whatever was called in between.
func TestCallsRepeat(t *testing.T) {
	for _, v := range samples() {
		text := write(v)
		mustDecode(t, wire.New(text), v, 0)
		wire.New("x").Texts()
		mustDecode(t, wire.New(text), v, 0)
		if write(v) != text {
			t.Errorf("%#v is serialized differently", v)
		}
	}
}

func TestLongLists(t *testing.T) {
	const n = 300000
	numbers, texts := make([]int, n), make([]string, n)
	for k := range n {
		numbers[k] = (k - n/2) * 1e12
		texts[k] = strconv.Itoa(k)
	}
	texts[n/2] = strings.Repeat("[1;]", 1<<18)
	text := write(numbers) + write(texts)
	r := wire.New(text)
	mustDecodeQuietly(t, r, numbers)
	mustDecodeQuietly(t, r, texts)
	if r.Left() != 0 {
		t.Errorf("%d bytes left", r.Left())
	}
	short := wire.New(wire.Texts(texts)[:len(wire.Texts(texts))-1])
	if l := short.Texts(); len(l) != 0 || !short.Bad() || short.Left() != 0 {
		t.Errorf("%d strings of a list that is not closed", len(l))
	}
}

// mustDecodeQuietly is mustDecode for values that are too long to be shown.
func mustDecodeQuietly(t *testing.T, r *wire.Reader, v any) {
	t.Helper()
	if !same(read(r, v), v) || r.Bad() {
		t.Errorf("a long %T", v)
	}
}

// Any bytes in any order of calls: nothing panics, no bytes come back, and what is bad stays bad.
func TestAnyBytes(t *testing.T) {
	const marks = "0123456789;:[]-+"
	seed := uint64(1)
	next := func(n int) int {
		seed = seed*6364136223846793005 + 1442695040888963407
		return int(seed>>33) % n
	}
	for range 20000 {
		text := make([]byte, next(24))
		for k := range text {
			text[k] = marks[next(len(marks))]
			if next(8) == 0 {
				text[k] = byte(next(256))
			}
		}
		at, r := 0, wire.New(string(text))
		for range 8 {
			kind := empties[next(len(empties))]
			want, n, ok := expected(string(text[at:]), kind)
			ok = ok && !r.Bad()
			if !ok {
				want = zero(kind)
			}
			if got := read(r, kind); !same(got, want) || r.Bad() == ok {
				t.Fatalf("%T of %q: %#v", kind, text[at:], got)
			}
			if !ok {
				mustBeBad(t, r, string(text))
				break
			}
			at += n
			if r.Left() != len(text)-at {
				t.Fatalf("%T of %q: %d bytes left", kind, text, r.Left())
			}
		}
	}
}
