package sha_test

import (
	"crypto/sha256"
	"strings"
	"testing"

	"bevy/api"
	"bevy/sha"
)

// bytesOf is a text of n bytes, of which near ones differ.
func bytesOf(n int) string {
	b := make([]byte, n)
	for i := range b {
		b[i] = byte(i*7 + i>>8 + 3)
	}
	return string(b)
}

// unhex is the digest of signs that are right.
func unhex(t *testing.T, s string) api.Hash {
	t.Helper()
	h, ok := sha.Unhex(s)
	if !ok {
		t.Fatalf("Unhex(%q) is false", s)
	}
	return h
}

// cuts are ways to cut a text of n bytes into two or three parts: around the blocks' edges, and all over.
func cuts(n int) []int {
	var at []int
	for _, c := range []int{0, 1, 55, 56, 57, 63, 64, 65, 119, 120, 127, 128, n / 2, n - 1, n} {
		if c >= 0 && c <= n {
			at = append(at, c)
		}
	}
	return at
}

// Promise 2.1: digests.

func TestSumOfExamples(t *testing.T) {
	for _, c := range []struct{ text, want string }{
		{"", "e3b0c44298fc1c149afbf4c8996fb92427ae41e4649b934ca495991b7852b855"},
		{"abc", "ba7816bf8f01cfea414140de5dae2223b00361a396177a9cb410ff61f20015ad"},
		{"abcdbcdecdefdefgefghfghighijhijkijkljklmklmnlmnomnopnopq", "248d6a61d20638b8e5c026930c3e6039a33ce45964ff2167f6ecedd419db06c1"},
		{strings.Repeat("a", 1000000), "cdc76e5c9914fb9281a1c7e284d73e67f1809a48a497200e046d39ccc7112cd0"},
	} {
		if got := sha.Sum(c.text); got != unhex(t, c.want) {
			t.Errorf("Sum of %d bytes = %x, want %s", len(c.text), got, c.want)
		}
	}
}

func TestSumOfNoPart(t *testing.T) {
	want := unhex(t, "e3b0c44298fc1c149afbf4c8996fb92427ae41e4649b934ca495991b7852b855")
	var none []string
	for name, got := range map[string]api.Hash{
		"nothing":         sha.Sum(),
		"no list":         sha.Sum(none...),
		"a list of none":  sha.Sum([]string{}...),
		"an empty part":   sha.Sum(""),
		"two empty parts": sha.Sum("", ""),
	} {
		if got != want {
			t.Errorf("Sum of %s = %x", name, got)
		}
	}
}

func TestSumAtTheBlocksEdges(t *testing.T) {
	for _, c := range []struct {
		n    int
		want string
	}{
		{55, "9f4390f8d30c2dd92ec9f095b65e2b9ae9b0a925a5258e241c9f1e910f734318"},
		{56, "b35439a4ac6f0948b6d6f9e3c6af0f5f590ce20f1bde7090ef7970686ec6738a"},
		{63, "7d3e74a05d7db15bce4ad9ec0658ea98e3f06eeecf16b4c6fff2da457ddc2f34"},
		{64, "ffe054fe7ae0cb6dc65c3af9b61d5209f439851db43d0ba5997337df154668eb"},
		{119, "31eba51c313a5c08226adf18d4a359cfdfd8d2e816b13f4af952f7ea6584dcfb"},
		{120, "2f3d335432c70b580af0e8e1b3674a7c020d683aa5f73aaaedfdc55af904c21c"},
	} {
		if got := sha.Sum(strings.Repeat("a", c.n)); got != unhex(t, c.want) {
			t.Errorf("Sum of %d bytes = %x, want %s", c.n, got, c.want)
		}
	}
}

func TestSumOfEveryLength(t *testing.T) {
	for n := range 400 {
		if got, want := sha.Sum(bytesOf(n)), api.Hash(sha256.Sum256([]byte(bytesOf(n)))); got != want {
			t.Errorf("Sum of %d bytes = %x, want %x", n, got, want)
		}
	}
}

func TestSumOfGreatTexts(t *testing.T) {
	for _, n := range []int{8191, 8192, 65535, 65536, 1<<21 + 17} {
		if got, want := sha.Sum(bytesOf(n)), api.Hash(sha256.Sum256([]byte(bytesOf(n)))); got != want {
			t.Errorf("Sum of %d bytes = %x, want %x", n, got, want)
		}
	}
}

func TestSumKeepsTheLengthsHigherBytes(t *testing.T) {
	if testing.Short() {
		t.Skip("2^29 bytes take seconds")
	}
	part := strings.Repeat("\x00", 1<<20)
	parts := make([]string, 513)
	whole := sha256.New()
	for i := range parts {
		parts[i] = part
		whole.Write([]byte(part))
	}
	if got := sha.Sum(parts...); got != api.Hash(whole.Sum(nil)) {
		t.Errorf("Sum of more than 2^32 bits = %x", got)
	}
}

func TestSumOfPartsIsThatOfTheWhole(t *testing.T) {
	for _, n := range []int{0, 1, 3, 55, 56, 63, 64, 65, 119, 120, 128, 200, 333} {
		whole := bytesOf(n)
		want := api.Hash(sha256.Sum256([]byte(whole)))
		for _, i := range cuts(n) {
			if got := sha.Sum(whole[:i], whole[i:]); got != want {
				t.Errorf("%d bytes cut at %d: %x, want %x", n, i, got, want)
			}
			for _, j := range cuts(n) {
				if j < i {
					continue
				}
				if got := sha.Sum("", whole[:i], "", whole[i:j], whole[j:], ""); got != want {
					t.Errorf("%d bytes cut at %d and %d, with empty parts: %x, want %x", n, i, j, got, want)
				}
			}
		}
		if got := sha.Sum(strings.Split(whole, "")...); got != want && n > 0 {
			t.Errorf("%d bytes one by one: %x, want %x", n, got, want)
		}
	}
}

func TestSumTellsTheOrderOfParts(t *testing.T) {
	if sha.Sum("a", "b") == sha.Sum("b", "a") {
		t.Errorf("the parts' order doesn't count")
	}
	if sha.Sum("a", "\x00") == sha.Sum("a") {
		t.Errorf("a nought behind the text doesn't count")
	}
}

func TestSumLeavesTheParts(t *testing.T) {
	room := []string{"ab", "", "cd", "spare"}
	first := sha.Sum(room[:3]...)
	if room[0] != "ab" || room[1] != "" || room[2] != "cd" || room[3] != "spare" {
		t.Errorf("Sum changed its parts: %q", room)
	}
	if again := sha.Sum(room[:3]...); again != first || first != sha.Sum("abcd") {
		t.Errorf("the second Sum is another one: %x, %x", first, again)
	}
}

// Promise 2.2: how two digests stand, and their signs.

func TestCmp(t *testing.T) {
	middle := api.Hash(sha256.Sum256([]byte("x")))
	middle[0], middle[31] = 0x80, 0x7f
	with := func(at int, b byte) api.Hash {
		h := middle
		h[at] = b
		return h
	}
	both := with(0, 0x7f)
	both[31] = 0xff
	for name, c := range map[string]struct {
		less, more api.Hash
	}{
		"the first byte":               {with(0, 0x7f), middle},
		"the first byte, by its half":  {middle, with(0, 0xff)},
		"the last byte":                {middle, with(31, 0x80)},
		"the last byte, by one":        {with(31, 0x7e), middle},
		"the first ahead of the last":  {both, middle},
		"noughts":                      {api.Hash{}, middle},
		"a byte that a sign would cut": {api.Hash{0: 0x01}, api.Hash{0: 0x80}},
	} {
		if got := sha.Cmp(c.less, c.more); got != -1 {
			t.Errorf("%s: Cmp of the less and the more = %d", name, got)
		}
		if got := sha.Cmp(c.more, c.less); got != 1 {
			t.Errorf("%s: Cmp of the more and the less = %d", name, got)
		}
	}
	for _, h := range []api.Hash{{}, middle, with(0, 0xff), with(31, 0xff)} {
		same := h
		if got := sha.Cmp(h, same); got != 0 {
			t.Errorf("Cmp of %x and itself = %d", h, got)
		}
	}
}

func TestCmpOfEachByte(t *testing.T) {
	for at := range 32 {
		less, more := api.Hash{}, api.Hash{}
		more[at] = 1
		for i := at + 1; i < 32; i++ {
			less[i] = 0xff
		}
		if a, b := sha.Cmp(less, more), sha.Cmp(more, less); a != -1 || b != 1 {
			t.Errorf("byte %d: Cmp = %d and %d", at, a, b)
		}
	}
}

func TestHex(t *testing.T) {
	for h, want := range map[api.Hash]string{
		{}:                            strings.Repeat("0", 64),
		{0: 0x01}:                     "01" + strings.Repeat("0", 62),
		{31: 0xa0}:                    strings.Repeat("0", 62) + "a0",
		{0: 0x12, 1: 0x9f, 31: 0xef}:  "129f" + strings.Repeat("0", 58) + "ef",
		api.Hash(sha256.Sum256(nil)):  "e3b0c44298fc1c149afbf4c8996fb92427ae41e4649b934ca495991b7852b855",
		{0: 0x45, 1: 0x67, 2: 0x8b}:   "45678b" + strings.Repeat("0", 58),
		{0: 0xcd, 15: 0xff, 16: 0x30}: "cd" + strings.Repeat("0", 28) + "ff30" + strings.Repeat("0", 30),
	} {
		if got := sha.Hex(h); got != want {
			t.Errorf("Hex(%v) = %s, want %s", h, got, want)
		}
	}
}

func TestUnhexOfHex(t *testing.T) {
	for at := range 32 {
		for b := range 256 {
			h := api.Hash(sha256.Sum256([]byte{byte(at)}))
			h[at] = byte(b)
			if got, ok := sha.Unhex(sha.Hex(h)); !ok || got != h {
				t.Fatalf("Unhex of the Hex of %x = %x, %v", h, got, ok)
			}
		}
	}
}

func TestHexOfUnhex(t *testing.T) {
	for _, s := range []string{
		strings.Repeat("0", 64),
		strings.Repeat("f", 64),
		strings.Repeat("0123456789abcdef", 4),
		strings.Repeat("fedcba9876543210", 4),
	} {
		if got := sha.Hex(unhex(t, s)); got != s {
			t.Errorf("Hex of the Unhex of %s = %s", s, got)
		}
	}
}

func TestUnhexOfWrongLengths(t *testing.T) {
	for n := range 200 {
		if n == 64 {
			continue
		}
		if h, ok := sha.Unhex(strings.Repeat("1", n)); ok || h != (api.Hash{}) {
			t.Errorf("Unhex of %d signs = %x, %v", n, h, ok)
		}
	}
}

func TestUnhexOfWrongSigns(t *testing.T) {
	right := strings.Repeat("5a", 32)
	for b := range 256 {
		if b >= '0' && b <= '9' || b >= 'a' && b <= 'f' {
			continue
		}
		for _, at := range []int{0, 1, 30, 31, 62, 63} {
			s := right[:at] + string([]byte{byte(b)}) + right[at+1:]
			if h, ok := sha.Unhex(s); ok || h != (api.Hash{}) {
				t.Errorf("Unhex with the byte %02x at %d = %x, %v", b, at, h, ok)
			}
		}
	}
}

func TestUnhexOfSignsOfSeveralBytes(t *testing.T) {
	for _, s := range []string{
		strings.Repeat("0", 62) + "\u00e9",
		strings.Repeat("1", 61) + "\uff11",
		strings.Repeat("0", 63) + "\u00e9",
	} {
		if h, ok := sha.Unhex(s); ok || h != (api.Hash{}) {
			t.Errorf("Unhex(%q) = %x, %v", s, h, ok)
		}
	}
}

func FuzzSumOfParts(f *testing.F) {
	f.Add("", "", "")
	f.Add("abc", "", bytesOf(61))
	f.Add(bytesOf(55), bytesOf(9), bytesOf(120))
	f.Fuzz(func(t *testing.T, a, b, c string) {
		if got, want := sha.Sum(a, b, c), api.Hash(sha256.Sum256([]byte(a+b+c))); got != want {
			t.Errorf("Sum(%q, %q, %q) = %x, want %x", a, b, c, got, want)
		}
	})
}

func FuzzUnhex(f *testing.F) {
	f.Add("")
	f.Add(strings.Repeat("0f", 32))
	f.Add(strings.Repeat("0F", 32))
	f.Fuzz(func(t *testing.T, s string) {
		h, ok := sha.Unhex(s)
		if ok && sha.Hex(h) != s {
			t.Errorf("Unhex(%q) is true, and its Hex is %q", s, sha.Hex(h))
		}
		if !ok && h != (api.Hash{}) {
			t.Errorf("Unhex(%q) = %x beside false", s, h)
		}
	})
}
