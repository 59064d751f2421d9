package digest_test

import (
	"encoding/binary"
	"encoding/hex"
	"math/big"
	"strings"
	"testing"
)

// someTexts returns different strings of many lengths and with any bytes, among them beginnings of chains and of marks.
func someTexts() []string {
	list := []string{"", "\x00\x00", "\x00\x00\x00\x00", "ab", "ba", "aa", "abc", "key", "message", "keymessagekey", "ä日本", "\U0001f600", "\xff\xfe\x80", "\xff\xff\xff\xff", everyByte(), everyByte() + everyByte(), "\x01\x00\x00\x00\x00", "\x02\x00\x00\x00\x00", "\x01\x00\x00\x00\x01kmk", "\x02\x00\x00\x00\x01kmk"}
	for b := range 256 {
		list = append(list, string([]byte{byte(b)}))
	}
	for _, n := range []int{7, 8, 9, 10, 255, 257, 1000, 65535, 65536} {
		list = append(list, strings.Repeat("x", n))
	}
	return list
}

// fewTexts returns some of them, for tests of pairs.
func fewTexts() []string {
	return []string{"", "\x00", "\x01", "\x02", "\xff", "k", "m", "kk", "km", "mk", "kmk", "\x00\x00\x00\x01", "key", "message", "ä日本", "\xff\xfe\x80", everyByte(), strings.Repeat("x", 255), strings.Repeat("x", 256), strings.Repeat("y", 65536)}
}

// everyByte returns a string of all bytes, in their order.
func everyByte() string {
	var all strings.Builder
	for b := range 256 {
		all.WriteByte(byte(b))
	}
	return all.String()
}

// someBytes returns n bytes that depend only on seed.
func someBytes(n int, seed uint64) string {
	list := make([]byte, n)
	for k := range list {
		seed = seed*6364136223846793005 + 1442695040888963407
		list[k] = byte(seed >> 40)
	}
	return string(list)
}

// expected finds the digest of s out otherwise: as the value of a polynomial, without a remainder in between.
func expected(s string) string {
	return value(s, 20, 48271, 2147483647) + value(s, 26, 40692, 2147483629)
}

// value returns four bytes: what start becomes by all bytes of s.
func value(s string, start, times, below int64) string {
	sum, power := big.NewInt(0), big.NewInt(1)
	for k := len(s) - 1; k >= 0; k-- {
		sum.Add(sum, new(big.Int).Mul(power, big.NewInt(int64(s[k])+1)))
		power.Mul(power, big.NewInt(times))
	}
	sum.Add(sum, power.Mul(power, big.NewInt(start)))
	sum.Mod(sum, big.NewInt(below))
	return string(sum.FillBytes(make([]byte, 4)))
}

// lengthOf returns the number of bytes of s as four bytes.
func lengthOf(s string) string {
	return string(binary.BigEndian.AppendUint32(nil, uint32(len(s))))
}

// with returns s with one byte that is more by d, modulo 256.
func with(s string, at int, d byte) string {
	list := []byte(s)
	list[at] += d
	return string(list)
}

// brief shows a string by its length and its first bytes.
func brief(s string) string {
	return hex.EncodeToString([]byte(s[:min(len(s), 12)]))
}

// mustBe reports an error unless got is the string that is written in hexadecimal.
func mustBe(t *testing.T, name, got, want string) {
	t.Helper()
	if hex.EncodeToString([]byte(got)) != want {
		t.Errorf("%s: %x, not %s", name, got, want)
	}
}
