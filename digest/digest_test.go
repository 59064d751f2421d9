package digest_test

import (
	"strings"
	"testing"

	"etchant/digest"
)

// P4.1

func TestOf(t *testing.T) {
	for s, want := range map[string]string{
		"":                        "000000140000001a",
		"\x00":                    "000ebb2d001024c9",
		"\x01":                    "000ebb2e001024ca",
		"\xff":                    "000ebc2c001025c8",
		"a":                       "000ebb8e0010252a",
		"ab":                      "59f70cca065359e7",
		"ba":                      "59f7c9580653f8da",
		"\x00\x00":                "59af9a3906171f11",
		"message":                 "354613f90e8be8c6",
		"\xff\xfe\x80":            "668a268b633ae679",
		"ä日本":                     "64cc27523b2da464",
		everyByte():               "721b1e9b4d6aa275",
		strings.Repeat("x", 1000): "188fbe0527ad3f9b",
	} {
		mustBe(t, "Of of "+brief(s), digest.Of(s), want)
	}
}

func TestOfAny(t *testing.T) {
	for _, s := range someTexts() {
		if len(s) <= 1000 && digest.Of(s) != expected(s) {
			t.Errorf("Of of %s, %d bytes: %x", brief(s), len(s), digest.Of(s))
		}
	}
	for n := range 300 {
		for seed := range uint64(3) {
			if s := someBytes(n, seed); digest.Of(s) != expected(s) {
				t.Errorf("Of of %x: %x", s, digest.Of(s))
			}
		}
	}
}

// Every pair of bytes counts as it should, both as numbers and in its order.
func TestOfAllPairs(t *testing.T) {
	for first := range 256 {
		for second := range 256 {
			s := string([]byte{byte(first), byte(second)})
			if digest.Of(s) != expected(s) {
				t.Fatalf("Of of %x: %x", s, digest.Of(s))
			}
		}
	}
}

// Digests have 8 bytes, and those of these strings are different, as far as they are known.
func TestOfApart(t *testing.T) {
	seen := map[string]string{}
	for _, s := range someTexts() {
		d := digest.Of(s)
		if len(d) != 8 {
			t.Errorf("%d bytes", len(d))
		}
		if other, found := seen[d]; found {
			t.Errorf("%s and %s have one digest", brief(s), brief(other))
		}
		seen[d] = s
	}
}

// P4.2

func TestChain(t *testing.T) {
	for _, c := range []struct{ before, s, want string }{
		{"", "", "6a14499b63e5f64c"},
		{"ab", "c", "16e435430c6e3326"},
		{"a", "bc", "49eb15fc0f7cd136"},
		{"", "abc", "7cf1f6b5128b6f46"},
		{"abc", "", "63dd5489095f9516"},
		{strings.Repeat("\x00", 8), "x", "61cc47c97e16aa49"},
		{strings.Repeat("x", 300), "y", "1948fc6b36ab8d3f"},
	} {
		mustBe(t, "Chain of "+brief(c.before)+" and "+brief(c.s), digest.Chain(c.before, c.s), c.want)
	}
	if digest.Chain("", "") != digest.Of("\x01\x00\x00\x00\x00") {
		t.Error("Chain of two empty strings")
	}
}

func TestChainAny(t *testing.T) {
	for _, before := range fewTexts() {
		for _, s := range fewTexts() {
			if digest.Chain(before, s) != digest.Of("\x01"+lengthOf(before)+before+s) {
				t.Errorf("Chain of %s and %s", brief(before), brief(s))
			}
		}
	}
}

// Each of the four bytes of a length is there, and counts.
func TestLongLengths(t *testing.T) {
	for n, want := range map[int]string{255: "\x00\x00\x00\xff", 256: "\x00\x00\x01\x00", 258: "\x00\x00\x01\x02", 65535: "\x00\x00\xff\xff", 65536: "\x00\x01\x00\x00", 1<<24 - 1: "\x00\xff\xff\xff", 1<<24 + 2<<16 + 3<<8 + 4: "\x01\x02\x03\x04"} {
		long := strings.Repeat("x", n)
		if digest.Chain(long, "y") != digest.Of("\x01"+want+long+"y") {
			t.Errorf("Chain after %d bytes", n)
		}
		if digest.Mark(long, "y") != digest.Of("\x02"+want+long+"y"+long) {
			t.Errorf("Mark with a key of %d bytes", n)
		}
		if !digest.Check(long, "y", digest.Mark(long, "y")) {
			t.Errorf("Check with a key of %d bytes", n)
		}
	}
}

// Wherever a string is cut in two, and whichever of them comes first, the chain is another one.
func TestChainsApart(t *testing.T) {
	seen := map[string]bool{}
	whole := everyByte() + everyByte() + everyByte()
	for k := range len(whole) + 1 {
		seen[digest.Chain(whole[:k], whole[k:])] = true
	}
	if len(seen) != len(whole)+1 {
		t.Errorf("%d chains of %d", len(seen), len(whole)+1)
	}
	if digest.Chain("a", "b") == digest.Chain("b", "a") || digest.Chain("", "a") == digest.Chain("a", "") || digest.Chain("", "a") == digest.Of("a") || digest.Chain("a", "") == digest.Of("a") {
		t.Error("chains of short strings")
	}
}

// P4.3

func TestMark(t *testing.T) {
	for _, c := range []struct{ key, msg, want string }{
		{"", "", "5c349b19746926e8"},
		{"k", "m", "78b5594f663f0a6c"},
		{"key", "message", "40e3c432064f69ce"},
		{"k", "", "40417802407fe024"},
		{"", "m", "234987395a47002b"},
		{"kk", "m", "217c45b35e44a6a2"},
		{"k", "mk", "1ae3995e5c8e03c4"},
		{strings.Repeat("x", 300), "y", "1ef4251a74ff3bcf"},
	} {
		mustBe(t, "Mark of "+brief(c.key)+" and "+brief(c.msg), digest.Mark(c.key, c.msg), c.want)
	}
	if digest.Mark("k", "m") != digest.Of("\x02\x00\x00\x00\x01\x6b\x6d\x6b") {
		t.Error("Mark of k and m")
	}
}

func TestMarkAny(t *testing.T) {
	for _, key := range fewTexts() {
		for _, msg := range fewTexts() {
			if digest.Mark(key, msg) != digest.Of("\x02"+lengthOf(key)+key+msg+key) {
				t.Errorf("Mark of %s and %s", brief(key), brief(msg))
			}
		}
	}
}

// Keys and messages whose bytes, one after the other, are the same have different marks.
func TestMarksApart(t *testing.T) {
	for _, c := range [][2][2]string{
		{{"k", "kk"}, {"kk", ""}},
		{{"k", "mk"}, {"km", "k"}},
		{{"a", "ba"}, {"ab", "a"}},
		{{"a", "aaaa"}, {"aa", "aa"}},
		{{"aa", "aa"}, {"aaa", ""}},
		{{"", "aa"}, {"a", ""}},
		{{"\x00", "\x00"}, {"", "\x00\x00\x00"}},
		{{"\x00\x00\x00\x01", ""}, {"", "\x00\x00\x00\x01\x00\x00\x00\x01"}},
	} {
		a, b := c[0], c[1]
		if digest.Mark(a[0], a[1]) == digest.Mark(b[0], b[1]) {
			t.Errorf("one mark of %q and %q", a, b)
		}
		if digest.Check(a[0], a[1], digest.Mark(b[0], b[1])) || digest.Check(b[0], b[1], digest.Mark(a[0], a[1])) {
			t.Errorf("the marks of %q and %q are mixed up", a, b)
		}
	}
}

// A chain of the same bytes is no mark, and neither is the digest of a message, nor that of a mark.
func TestOthersAreNoMarks(t *testing.T) {
	for _, key := range fewTexts() {
		for _, msg := range fewTexts() {
			if digest.Chain(key, msg+key) == digest.Mark(key, msg) {
				t.Errorf("a chain is a mark: of %s and %s", brief(key), brief(msg))
			}
			for _, other := range []string{digest.Chain(key, msg+key), digest.Chain(key, msg), digest.Of(msg), digest.Of(key + msg + key), digest.Of(digest.Mark(key, msg)), digest.Of(""), strings.Repeat("\x00", 8), key, msg} {
				if digest.Check(key, msg, other) {
					t.Errorf("Check of %s and %s accepts %s", brief(key), brief(msg), brief(other))
				}
			}
		}
	}
}

func TestCheck(t *testing.T) {
	if !digest.Check("k", "m", digest.Of("\x02\x00\x00\x00\x01kmk")) || digest.Check("", "m", digest.Mark("", "m")) {
		t.Error("the examples of the chapter")
	}
	mark := digest.Mark("key", "message")
	for _, c := range [][2]string{{"", "message"}, {"ke", "message"}, {"key\x00", "message"}, {"kez", "message"}, {"Key", "message"}, {"yek", "message"}, {"key", ""}, {"key", "messag"}, {"key", "message\x00"}, {"key", "Message"}, {"message", "key"}, {"keymessage", ""}, {"keym", "essage"}, {"", "keymessagekey"}} {
		if digest.Check(c[0], c[1], mark) {
			t.Errorf("Check of %q and %q", c[0], c[1])
		}
	}
}

// Without a key, nothing is accepted.
func TestNoKey(t *testing.T) {
	for _, msg := range someTexts() {
		for _, mark := range []string{digest.Mark("", msg), "", digest.Of(""), digest.Of(msg), digest.Mark("k", msg), msg} {
			if digest.Check("", msg, mark) {
				t.Errorf("Check of %s accepts %s", brief(msg), brief(mark))
			}
		}
	}
}

// Marks have 8 bytes, also where those that are missing or too many are zeros.
func TestMarksOfOtherLengths(t *testing.T) {
	for seed := range 3000 {
		key, msg := "k", someBytes(seed%20, uint64(seed))
		mark := digest.Mark(key, msg)
		for n := range len(mark) {
			if digest.Check(key, msg, mark[:n]) || digest.Check(key, msg, mark[n+1:]) {
				t.Errorf("%x without %d bytes", mark, len(mark)-n)
			}
		}
		for _, more := range []string{"\x00", mark, strings.Repeat("\x00", 248), strings.Repeat("\x00", 256), strings.Repeat("\x00", 1<<16)} {
			if digest.Check(key, msg, mark+more) || digest.Check(key, msg, more+mark) {
				t.Errorf("%x with %d bytes more", mark, len(more))
			}
		}
	}
}

// A mark whose last byte is zero, and one whose first byte is zero, are not accepted without it.
func TestMarksWithZeros(t *testing.T) {
	last, first := 0, 0
	for seed := range 3000 {
		msg := someBytes(seed%20, uint64(seed))
		mark := digest.Mark("k", msg)
		if mark[7] == 0 {
			last++
			if digest.Check("k", msg, mark[:7]) {
				t.Errorf("%x without its last byte", mark)
			}
		}
		if mark[0] == 0 {
			first++
			if digest.Check("k", msg, mark[1:]) {
				t.Errorf("%x without its first byte", mark)
			}
		}
	}
	if last == 0 || first == 0 {
		t.Error("there was no such mark")
	}
}
