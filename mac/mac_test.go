package mac_test

import (
	"crypto/hmac"
	"crypto/sha256"
	"encoding/binary"
	"math"
	"strings"
	"testing"

	"bevy/api"
	"bevy/mac"
	"bevy/sha"
)

// bytesOf is a text of n bytes, of which near ones differ.
func bytesOf(n int) string {
	b := make([]byte, n)
	for i := range b {
		b[i] = byte(i*7 + i>>8 + 3)
	}
	return string(b)
}

// unhex is the digest of signs that are right.
func unhex(t *testing.T, s string) api.Hash {
	t.Helper()
	h, ok := sha.Unhex(s)
	if !ok {
		t.Fatalf("Unhex(%q) is false", s)
	}
	return h
}

// theirs is the code as the standard library has it.
func theirs(key, text string) api.Hash {
	code := hmac.New(sha256.New, []byte(key))
	code.Write([]byte(text))
	return api.Hash(code.Sum(nil))
}

// spelt is the code as the chapter spells it out, for a key of up to 64 bytes.
func spelt(key, text string) api.Hash {
	key += strings.Repeat("\x00", 64-len(key))
	inner, outer := make([]byte, 64), make([]byte, 64)
	for i := range 64 {
		inner[i], outer[i] = key[i]^0x36, key[i]^0x5c
	}
	inside := sha.Sum(string(inner) + text)
	return sha.Sum(string(outer) + string(inside[:]))
}

// four is a number in 4 bytes, the highest first.
func four(n int) string {
	return string(binary.BigEndian.AppendUint32(nil, uint32(n)))
}

func text(h api.Hash) string { return string(h[:]) }

// Promise 3.1: the code of parts under a key.

func TestCodeOfExamples(t *testing.T) {
	for _, c := range []struct{ key, text, want string }{
		{"Jefe", "what do ya want for nothing?", "5bdcc146bf60754e6a042426089575c75a003f089d2739839dec58b964ec3843"},
		{strings.Repeat("\x0b", 20), "Hi There", "b0344c61d8db38535ca8afceaf0bf12b881dc200c9833da726e9376c2e32cff7"},
		{strings.Repeat("\xaa", 20), strings.Repeat("\xdd", 50), "773ea91e36800e46854db8ebd09181a72959098b3ef8c122d9635514ced565fe"},
		{strings.Repeat("\xaa", 131), "Test Using Larger Than Block-Size Key - Hash Key First", "60e431591ee0b67f0d8a26aacbf5b77f8e0bc6213728c5140546040f0ee37f54"},
		{strings.Repeat("\xaa", 131), "This is a test using a larger than block-size key and a larger than block-size data. The key needs to be hashed before being used by the HMAC algorithm.", "9b09ffa71b942fcb27635fbcd5b0e944bfdc63644f0713938a7f51535c3a35e2"},
		{"", "", "b613679a0814d9ec772f95d778c35fc5ff1697c493715653c6c712144292c5ad"},
	} {
		if got := mac.Code(c.key, c.text); got != unhex(t, c.want) {
			t.Errorf("Code(%q, %q) = %x, want %s", c.key, c.text, got, c.want)
		}
	}
}

func TestCodeUnderKeysOfEveryLength(t *testing.T) {
	for n := range 200 {
		for _, m := range []int{0, 1, 32, 55, 56, 63, 64, 65, 119, 120} {
			if got, want := mac.Code(bytesOf(n), bytesOf(m)), theirs(bytesOf(n), bytesOf(m)); got != want {
				t.Errorf("a key of %d bytes, a text of %d: %x, want %x", n, m, got, want)
			}
		}
	}
}

func TestCodeIsThatOfTheChapter(t *testing.T) {
	for _, n := range []int{0, 1, 31, 32, 33, 63, 64} {
		if got, want := mac.Code(bytesOf(n), "text"), spelt(bytesOf(n), "text"); got != want {
			t.Errorf("a key of %d bytes: %x, want %x", n, got, want)
		}
	}
}

func TestCodeUnderALongKeyIsThatUnderItsDigest(t *testing.T) {
	for _, n := range []int{65, 66, 127, 128, 129, 1000, 1 << 17} {
		if got, want := mac.Code(bytesOf(n), "a", "b"), spelt(text(sha.Sum(bytesOf(n))), "ab"); got != want {
			t.Errorf("a key of %d bytes: %x, want %x", n, got, want)
		}
	}
	for _, n := range []int{0, 1, 32, 63, 64} {
		if mac.Code(bytesOf(n), "ab") == mac.Code(text(sha.Sum(bytesOf(n))), "ab") {
			t.Errorf("a key of %d bytes is taken by its digest", n)
		}
	}
}

func TestCodeFillsShortKeysWithNoughts(t *testing.T) {
	if mac.Code("", "x") != mac.Code("\x00", "x") || mac.Code("", "x") != mac.Code(strings.Repeat("\x00", 64), "x") {
		t.Errorf("the key of no byte isn't that of noughts")
	}
	if mac.Code("k", "x") != mac.Code("k"+strings.Repeat("\x00", 63), "x") {
		t.Errorf("a key isn't filled with noughts up to 64 bytes")
	}
	if mac.Code("k", "x") == mac.Code("k"+strings.Repeat("\x00", 64), "x") {
		t.Errorf("a key of 65 bytes isn't taken by its digest")
	}
	if mac.Code("k", "x") == mac.Code("\x00k", "x") {
		t.Errorf("noughts ahead of a key don't count")
	}
}

func TestCodeTellsKeysApart(t *testing.T) {
	for _, n := range []int{1, 63, 64, 65, 128} {
		key := []byte(bytesOf(n))
		first := mac.Code(string(key), "x")
		key[n-1] ^= 1
		if mac.Code(string(key), "x") == first {
			t.Errorf("the last of %d bytes of a key doesn't count", n)
		}
	}
}

func TestCodeOfNoPart(t *testing.T) {
	var none []string
	for _, key := range []string{"", "Jefe", bytesOf(64), bytesOf(65)} {
		want := theirs(key, "")
		for name, got := range map[string]api.Hash{
			"nothing":         mac.Code(key),
			"no list":         mac.Code(key, none...),
			"a list of none":  mac.Code(key, []string{}...),
			"an empty part":   mac.Code(key, ""),
			"two empty parts": mac.Code(key, "", ""),
		} {
			if got != want {
				t.Errorf("Code of %s under %d bytes = %x, want %x", name, len(key), got, want)
			}
		}
	}
}

func TestCodeOfPartsIsThatOfTheWhole(t *testing.T) {
	for _, n := range []int{1, 2, 3, 63, 64, 65, 130} {
		whole := bytesOf(n)
		want := theirs("Jefe", whole)
		for i := range n + 1 {
			if got := mac.Code("Jefe", whole[:i], whole[i:]); got != want {
				t.Errorf("%d bytes cut at %d: %x, want %x", n, i, got, want)
			}
			if got := mac.Code("Jefe", "", whole[:i/2], "", whole[i/2:i], whole[i:], ""); got != want {
				t.Errorf("%d bytes cut at %d and %d, with empty parts: %x, want %x", n, i/2, i, got, want)
			}
		}
		if got := mac.Code("Jefe", strings.Split(whole, "")...); got != want {
			t.Errorf("%d bytes one by one: %x, want %x", n, got, want)
		}
	}
}

func TestCodeTellsTheOrderOfParts(t *testing.T) {
	if mac.Code("k", "a", "b") == mac.Code("k", "b", "a") {
		t.Errorf("the parts' order doesn't count")
	}
	if mac.Code("k", "a") == mac.Code("ka") || mac.Code("k", "a", "b") == mac.Code("ka", "b") {
		t.Errorf("a part counts like a piece of the key")
	}
	if mac.Code("k", "a", "\x00") == mac.Code("k", "a") {
		t.Errorf("a nought behind the text doesn't count")
	}
}

func TestCodeOfAGreatText(t *testing.T) {
	if got, want := mac.Code(bytesOf(70000), bytesOf(1<<20), bytesOf(3)), theirs(bytesOf(70000), bytesOf(1<<20)+bytesOf(3)); got != want {
		t.Errorf("Code of 2^20 and 3 bytes = %x, want %x", got, want)
	}
}

func TestCodeLeavesTheParts(t *testing.T) {
	room := []string{"ab", "", "cd", "spare"}
	first := mac.Code("k", room[:3]...)
	if room[0] != "ab" || room[1] != "" || room[2] != "cd" || room[3] != "spare" {
		t.Errorf("Code changed its parts: %q", room)
	}
	if again := mac.Code("k", room[:3]...); again != first || first != theirs("k", "abcd") {
		t.Errorf("the second Code is another one: %x, %x", first, again)
	}
}

// Promise 3.2: keys of keys.

func TestDeriveIsTheCodeOfItsParts(t *testing.T) {
	for _, key := range []api.Hash{{}, sha.Sum("k"), {0: 0xff, 31: 0x01}} {
		for _, label := range []int{0, 1, 2, 63, 64, 255, 256, 257, 65535, 65536} {
			for _, context := range []int{0, 1, 32, 100} {
				got := mac.Derive(key, bytesOf(label), bytesOf(context))
				if want := theirs(text(key), four(label)+bytesOf(label)+bytesOf(context)); got != want {
					t.Errorf("a label of %d bytes, a context of %d: %x, want %x", label, context, got, want)
				}
			}
		}
	}
}

func TestDeriveKeepsTheLabelsHighestByte(t *testing.T) {
	k := sha.Sum("k")
	label := strings.Repeat("l", 1<<24+2)
	if got, want := mac.Derive(k, label, "c"), theirs(text(k), "\x01\x00\x00\x02"+label+"c"); got != want {
		t.Errorf("a label of %d bytes: %x, want %x", len(label), got, want)
	}
}

func TestDeriveOfShortTexts(t *testing.T) {
	k := sha.Sum("k")
	for _, c := range []struct{ label, context, parts string }{
		{"", "", "\x00\x00\x00\x00"},
		{"a", "b", "\x00\x00\x00\x01ab"},
		{"ab", "", "\x00\x00\x00\x02ab"},
		{"", "ab", "\x00\x00\x00\x00ab"},
		{"\u00e9", "b", "\x00\x00\x00\x02\xc3\xa9b"},
	} {
		if got := mac.Derive(k, c.label, c.context); got != mac.Code(text(k), c.parts) {
			t.Errorf("Derive(%q, %q) isn't the code of %q", c.label, c.context, c.parts)
		}
	}
}

func TestDeriveTellsLabelAndContextApart(t *testing.T) {
	k := sha.Sum("k")
	seen := map[api.Hash]string{}
	for _, c := range []struct{ label, context string }{
		{"abc", ""}, {"ab", "c"}, {"a", "bc"}, {"", "abc"}, {"c", "ab"}, {"bc", "a"}, {"", ""}, {"", "\x00\x00\x00\x00"},
	} {
		got, name := mac.Derive(k, c.label, c.context), c.label+"|"+c.context
		if other, ok := seen[got]; ok {
			t.Errorf("%q and %q make one key", name, other)
		}
		seen[got] = name
	}
	if mac.Derive(k, "a", "b") == mac.Derive(sha.Sum("l"), "a", "b") {
		t.Errorf("the key doesn't count")
	}
}

func TestMixIsTheCodeOfTheKeyUnderTheSalt(t *testing.T) {
	keys := []api.Hash{{}, sha.Sum("k"), sha.Sum("salt"), {31: 1}, {0: 1}}
	for _, salt := range keys {
		for _, key := range keys {
			if got, want := mac.Mix(salt, key), theirs(text(salt), text(key)); got != want {
				t.Errorf("Mix(%x, %x) = %x, want %x", salt, key, got, want)
			}
		}
	}
	if mac.Mix(keys[1], keys[2]) == mac.Mix(keys[2], keys[1]) {
		t.Errorf("the salt counts like the key")
	}
}

// Promise 3.3: rows of bytes.

// row is the first bytes of the row, code by code.
func row(key api.Hash, codes int) string {
	var s strings.Builder
	for i := range codes {
		s.WriteString(text(theirs(text(key), four(i))))
	}
	return s.String()
}

func TestStreamOfEveryLength(t *testing.T) {
	for _, key := range []api.Hash{{}, sha.Sum("k")} {
		whole := row(key, 10)
		for n := 1; n <= len(whole); n++ {
			if got := mac.Stream(key, n); got != whole[:n] {
				t.Fatalf("Stream of %d bytes = %x, want %x", n, got, whole[:n])
			}
		}
	}
}

func TestStreamAtItsEdges(t *testing.T) {
	k := sha.Sum("k")
	whole := row(k, api.MaxText/32)
	if len(whole) != 65536 {
		t.Fatalf("the row has %d bytes", len(whole))
	}
	for _, n := range []int{1, 31, 32, 33, 63, 64, 65, 255 * 32, 256 * 32, 256*32 + 1, 257 * 32, 65504, 65505, 65535, 65536} {
		if got := mac.Stream(k, n); got != whole[:n] {
			t.Errorf("Stream of %d bytes is another row (of %d bytes)", n, len(got))
		}
	}
}

func TestStreamOfWrongLengths(t *testing.T) {
	for _, n := range []int{0, -1, -32, math.MinInt32, math.MinInt, 65537, 65568, 1 << 32, 1<<32 + 1, 1<<32 + 32, math.MaxInt} {
		if got := mac.Stream(sha.Sum("k"), n); got != "" {
			t.Errorf("Stream of %d bytes has %d", n, len(got))
		}
	}
}

func TestStreamsShorterRowBeginsTheLonger(t *testing.T) {
	k := sha.Sum("k")
	lengths := []int{1, 2, 31, 32, 33, 64, 70, 8191, 8192, 8193, 40000, 65535, 65536}
	for i, n := range lengths {
		for _, m := range lengths[:i] {
			if long, short := mac.Stream(k, n), mac.Stream(k, m); !strings.HasPrefix(long, short) || len(short) != m {
				t.Errorf("the row of %d bytes doesn't begin that of %d", m, n)
			}
		}
	}
}

func TestStreamTellsKeysApart(t *testing.T) {
	k := sha.Sum("k")
	first := mac.Stream(k, 33)
	for at := range k {
		other := k
		other[at] ^= 0x80
		if mac.Stream(other, 33) == first {
			t.Errorf("the key's byte %d doesn't count", at)
		}
	}
	if mac.Stream(k, 33) != first {
		t.Errorf("the second Stream is another one")
	}
}

func FuzzCode(f *testing.F) {
	f.Add("", "", "")
	f.Add("Jefe", "what do ya ", "want for nothing?")
	f.Add(bytesOf(65), bytesOf(61), "")
	f.Fuzz(func(t *testing.T, key, a, b string) {
		if got, want := mac.Code(key, a, b), theirs(key, a+b); got != want {
			t.Errorf("Code(%q, %q, %q) = %x, want %x", key, a, b, got, want)
		}
	})
}

func FuzzStream(f *testing.F) {
	f.Add("k", 0)
	f.Add("k", 33)
	f.Add("", 65536)
	f.Add("", 65537)
	f.Fuzz(func(t *testing.T, name string, n int) {
		got := mac.Stream(sha.Sum(name), n)
		if n < 1 || n > api.MaxText {
			if got != "" {
				t.Errorf("Stream of %d bytes has %d", n, len(got))
			}
			return
		}
		if want := row(sha.Sum(name), (n+31)/32)[:n]; got != want {
			t.Errorf("Stream of %d bytes is another row", n)
		}
	})
}
