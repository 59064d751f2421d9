package digest_test

import (
	"strings"
	"sync"
	"testing"

	"etchant/digest"
)

// P4.4

func TestOneByte(t *testing.T) {
	for _, s := range []string{"\x00", "a", "\xff", "ab", "\x00\x00\x00", "\xff\xff\xff\xff", "message", "\x7f\x80\xfe\xff\x00\x01", someBytes(40, 1)} {
		d := digest.Of(s)
		for at := range len(s) {
			for by := 1; by < 256; by++ {
				mustDifferInBoth(t, d, digest.Of(with(s, at, byte(by))), at)
			}
		}
	}
}

// mustDifferInBoth reports an error unless two digests differ in each of their numbers, as prime numbers make them.
func mustDifferInBoth(t *testing.T, a, b string, at int) {
	t.Helper()
	if a[:4] == b[:4] || a[4:] == b[4:] {
		t.Errorf("%x and %x, for strings that differ at %d", a, b, at)
	}
}

func TestOneByteOfLongStrings(t *testing.T) {
	s := someBytes(1<<16, 2)
	d := digest.Of(s)
	for at := 0; at < len(s); at += 1021 {
		for _, by := range []byte{1, 128, 255} {
			mustDifferInBoth(t, d, digest.Of(with(s, at, by)), at)
			mustDifferInBoth(t, d, digest.Of(with(s, len(s)-1-at, by)), len(s)-1-at)
		}
	}
}

// All strings of one byte, and all that differ from each other in one of two bytes, have different digests.
func TestShortStringsApart(t *testing.T) {
	seen := map[string]bool{}
	for first := range 256 {
		seen[digest.Of(string([]byte{byte(first)}))] = true
		for second := range 256 {
			seen[digest.Of(string([]byte{byte(first), byte(second)}))] = true
		}
	}
	if len(seen) != 256+1<<16 {
		t.Errorf("%d digests", len(seen))
	}
}

// It follows for chains, whichever string differs, and for marks whose messages do.
func TestOneByteOfChainsAndMarks(t *testing.T) {
	a, b := "before\x00\xff", "message"
	for at := range len(a) {
		for by := 1; by < 256; by++ {
			mustDifferInBoth(t, digest.Chain(a, b), digest.Chain(with(a, at, byte(by)), b), at)
			mustDifferInBoth(t, digest.Chain(b, a), digest.Chain(b, with(a, at, byte(by))), at)
			mustDifferInBoth(t, digest.Mark(b, a), digest.Mark(b, with(a, at, byte(by))), at)
			if digest.Check(b, with(a, at, byte(by)), digest.Mark(b, a)) {
				t.Errorf("one mark for messages that differ at %d", at)
			}
		}
	}
}

// P4.5

func TestMarksAreAccepted(t *testing.T) {
	for _, key := range fewTexts() {
		for _, msg := range fewTexts() {
			if mark := digest.Mark(key, msg); digest.Check(key, msg, mark) != (key != "") {
				t.Errorf("Check of %s, %s and its mark", brief(key), brief(msg))
			}
		}
	}
	for _, s := range someTexts() {
		if !digest.Check("key", s, digest.Mark("key", s)) || s != "" && !digest.Check(s, "message", digest.Mark(s, "message")) {
			t.Errorf("Check of %s and its mark", brief(s))
		}
	}
}

// A mark that differs in any byte, by any amount, is refused.
func TestNothingElseIsAccepted(t *testing.T) {
	for _, c := range [][2]string{{"k", "m"}, {"key", "message"}, {"k", ""}, {"\x00", "\x00"}, {everyByte(), strings.Repeat("x", 256)}} {
		key, msg := c[0], c[1]
		mark := digest.Mark(key, msg)
		for at := range len(mark) {
			for by := 1; by < 256; by++ {
				if digest.Check(key, msg, with(mark, at, byte(by))) {
					t.Errorf("%x, which is more by %d at %d", mark, by, at)
				}
			}
			for other := range at {
				if swapped := swap(mark, at, other); swapped != mark && digest.Check(key, msg, swapped) {
					t.Errorf("%x, with bytes %d and %d swapped", mark, other, at)
				}
			}
		}
		for _, s := range someTexts() {
			if s != mark && digest.Check(key, msg, s) {
				t.Errorf("Check of %s and %s accepts %s", brief(key), brief(msg), brief(s))
			}
		}
		for seed := range uint64(10000) {
			if s := someBytes(8, seed); s != mark && digest.Check(key, msg, s) {
				t.Errorf("Check of %s and %s accepts %x", brief(key), brief(msg), s)
			}
		}
	}
}

// swap returns s with two bytes in each other's place.
func swap(s string, i, j int) string {
	list := []byte(s)
	list[i], list[j] = list[j], list[i]
	return string(list)
}

// P1, and the rules R3, R4 and R5 (there are no errors and no lists, for R1 and R2)

// Strings that are parts of others are taken for themselves: what stands beside them in memory does not count.
func TestPartsOfStrings(t *testing.T) {
	whole := "<key|message>"
	if digest.Of(whole[1:4]) != digest.Of("key") || digest.Chain(whole[1:4], whole[5:12]) != digest.Chain("key", "message") || digest.Mark(whole[1:4], whole[5:12]) != digest.Mark("key", "message") {
		t.Error("digests of parts")
	}
	marks := "<" + digest.Mark("key", "message") + ">"
	if !digest.Check(whole[1:4], whole[5:12], marks[1:9]) || digest.Check(whole[1:4], whole[5:12], marks[:8]) || digest.Check(whole[1:4], whole[5:12], marks[2:]) {
		t.Error("Check of parts")
	}
}

// The same calls return the same results, whatever was called in between: no state is held.
func TestCallsRepeat(t *testing.T) {
	list := fewTexts()
	var first []string
	for round := range 3 {
		var got []string
		for _, a := range list {
			got = append(got, digest.Of(a))
			for _, b := range list[:10] {
				got = append(got, digest.Chain(a, b), digest.Mark(a, b))
				if digest.Check(a, b, digest.Mark(a, b)) != (a != "") || digest.Check(a, b, digest.Of(b)) {
					t.Errorf("round %d: Check of %s and %s", round, brief(a), brief(b))
				}
			}
		}
		if round == 0 {
			first = got
		}
		for k := range first {
			if got[k] != first[k] {
				t.Fatalf("round %d: result %d", round, k)
			}
		}
	}
}

// Calls at one time do not disturb each other.
func TestCallsAtOneTime(t *testing.T) {
	var all sync.WaitGroup
	for n := range 8 {
		all.Go(func() {
			for k := range 500 {
				s := someBytes(k%50, uint64(n*500+k))
				mark := digest.Mark("k", s)
				if digest.Of(s) != expected(s) || mark != expected("\x02\x00\x00\x00\x01k"+s+"k") || !digest.Check("k", s, mark) {
					t.Errorf("%x", s)
				}
			}
		})
	}
	all.Wait()
}

// The digest of a string goes on where that of its beginning stops: the one of a long string is found from those of its parts.
func TestLongStrings(t *testing.T) {
	s := someBytes(1<<24, 3)
	x, y := uint64(20), uint64(26)
	for k := range len(s) {
		x = (x*48271 + uint64(s[k]) + 1) % 2147483647
		y = (y*40692 + uint64(s[k]) + 1) % 2147483629
	}
	d := digest.Of(s)
	for k := range 4 {
		if d[k] != byte(x>>(24-8*k)) || d[4+k] != byte(y>>(24-8*k)) {
			t.Errorf("Of of %d bytes: %x", len(s), d)
		}
	}
	if digest.Check("k", s, s) || digest.Check(s, "", d) || !digest.Check("k", s, digest.Mark("k", s)) {
		t.Error("Check of long strings")
	}
}

// Any strings: nothing panics, and Check accepts what Mark returns.
func TestAnyStrings(t *testing.T) {
	seed := uint64(1)
	next := func(n int) string {
		seed = seed*6364136223846793005 + 1442695040888963407
		return someBytes(int(seed>>33)%n, seed)
	}
	for range 20000 {
		key, msg, mark := next(12), next(40), next(12)
		right := digest.Mark(key, msg)
		if len(digest.Of(msg)) != 8 || len(digest.Chain(key, msg)) != 8 || len(right) != 8 {
			t.Fatalf("lengths: of %x and %x", key, msg)
		}
		if digest.Check(key, msg, right) != (key != "") || digest.Check(key, msg, mark) != (key != "" && mark == right) {
			t.Fatalf("Check of %x, %x and %x", key, msg, mark)
		}
	}
}
