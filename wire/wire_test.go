package wire_test

import (
	"math"
	"strings"
	"testing"

	"bevy/api"
	"bevy/wire"
)

// numbers are the edges of the four lengths, with the bytes of each.
var numbers = []struct {
	n     int
	bytes string
}{
	{0, "\x00"},
	{1, "\x01"},
	{63, "\x3f"},
	{64, "\x40\x40"},
	{255, "\x40\xff"},
	{256, "\x41\x00"},
	{16383, "\x7f\xff"},
	{16384, "\x80\x00\x40\x00"},
	{65536, "\x80\x01\x00\x00"},
	{0x12345678, "\x92\x34\x56\x78"},
	{1<<30 - 1, "\xbf\xff\xff\xff"},
	{1 << 30, "\xc0\x00\x00\x00\x40\x00\x00\x00"},
	{0x0123456789abcdef, "\xc1\x23\x45\x67\x89\xab\xcd\xef"},
	{api.MaxNum, "\xff\xff\xff\xff\xff\xff\xff\xff"},
}

// counted is a digest of which each byte tells its place.
func counted() api.Hash {
	var h api.Hash
	for i := range h {
		h[i] = byte(i + 1)
	}
	return h
}

func written(t *testing.T, put func(w *wire.Writer)) string {
	t.Helper()
	w := wire.New()
	put(w)
	s, e := w.End()
	if e != api.OK {
		t.Fatalf("End: error %d", e)
	}
	return s
}

// Promise 1.1: what is put, as bytes.

func TestNewWriterHasNothing(t *testing.T) {
	if s, e := wire.New().End(); s != "" || e != api.OK {
		t.Errorf("End of a new writer = %q, %d", s, e)
	}
}

func TestNumbersPut(t *testing.T) {
	for _, c := range numbers {
		if got := written(t, func(w *wire.Writer) { w.Num(c.n) }); got != c.bytes {
			t.Errorf("Num(%d) = %x, want %x", c.n, got, c.bytes)
		}
	}
}

func TestTextsPut(t *testing.T) {
	long := strings.Repeat("ab", api.MaxText/2)
	for _, c := range []struct{ text, bytes string }{
		{"", "\x00"},
		{"ab", "\x02ab"},
		{"\x00\xff", "\x02\x00\xff"},
		{long[:63], "\x3f" + long[:63]},
		{long[:64], "\x40\x40" + long[:64]},
		{long[:16383], "\x7f\xff" + long[:16383]},
		{long[:16384], "\x80\x00\x40\x00" + long[:16384]},
		{long, "\x80\x01\x00\x00" + long},
	} {
		if got := written(t, func(w *wire.Writer) { w.Text(c.text) }); got != c.bytes {
			t.Errorf("Text of %d bytes: %d bytes, not those expected", len(c.text), len(got))
		}
	}
}

func TestDigestsAndFlagsPut(t *testing.T) {
	h := counted()
	if got := written(t, func(w *wire.Writer) { w.Hash(h) }); got != string(h[:]) {
		t.Errorf("Hash = %x", got)
	}
	if got := written(t, func(w *wire.Writer) { w.Flag(true) }); got != "\x01" {
		t.Errorf("Flag(true) = %x", got)
	}
	if got := written(t, func(w *wire.Writer) { w.Flag(false) }); got != "\x00" {
		t.Errorf("Flag(false) = %x", got)
	}
}

func TestThingsStandBehindOneAnother(t *testing.T) {
	h := counted()
	w := wire.New()
	w.Flag(true)
	w.Num(64)
	first, _ := w.End()
	w.Text("ab")
	w.Hash(h)
	w.Flag(false)
	want := "\x01\x40\x40\x02ab" + string(h[:]) + "\x00"
	for range 2 {
		if got, e := w.End(); got != want || e != api.OK {
			t.Errorf("End = %x, %d, want %x", got, e, want)
		}
	}
	if first != "\x01\x40\x40" {
		t.Errorf("the earlier End = %x", first)
	}
}

func TestWriterIsSpoiltForGood(t *testing.T) {
	for name, spoil := range map[string]func(w *wire.Writer){
		"number -1":          func(w *wire.Writer) { w.Num(-1) },
		"least number":       func(w *wire.Writer) { w.Num(math.MinInt) },
		"number past MaxNum": func(w *wire.Writer) { w.Num(api.MaxNum + 1) },
		"greatest number":    func(w *wire.Writer) { w.Num(math.MaxInt) },
		"text past MaxText":  func(w *wire.Writer) { w.Text(strings.Repeat("a", api.MaxText+1)) },
		"text far past it":   func(w *wire.Writer) { w.Text(strings.Repeat("a", 4*api.MaxText)) },
	} {
		w := wire.New()
		w.Num(1)
		spoil(w)
		if s, e := w.End(); s != "" || e != api.ErrArg {
			t.Errorf("%s: End = %q, %d", name, s, e)
		}
		w.Num(2)
		w.Text("ab")
		w.Hash(counted())
		w.Flag(true)
		for range 2 {
			if s, e := w.End(); s != "" || e != api.ErrArg {
				t.Errorf("%s: End later on = %q, %d", name, s, e)
			}
		}
	}
}

// Promise 1.2: what is taken, and why it isn't.

func TestNumbersTaken(t *testing.T) {
	for _, c := range numbers {
		for _, most := range []int{c.n, c.n + 1, api.MaxNum, math.MaxInt} {
			r := wire.From(c.bytes)
			if got := r.Num(most); got != c.n || r.End() != api.OK {
				t.Errorf("Num(%d) over %x = %d, %d", most, c.bytes, got, r.End())
			}
		}
	}
}

func TestNumbersRefused(t *testing.T) {
	for _, c := range []struct {
		bytes string
		most  int
		want  api.Errno
	}{
		{"", api.MaxNum, api.ErrShort},
		{"\x40", api.MaxNum, api.ErrShort},
		{"\x80\x00\x40", api.MaxNum, api.ErrShort},
		{"\x80", api.MaxNum, api.ErrShort},
		{"\xff\xff\xff\xff\xff\xff\xff", api.MaxNum, api.ErrShort},
		{"\xc0", api.MaxNum, api.ErrShort},
		{"\x40\x3f", api.MaxNum, api.ErrForm},
		{"\x40\x00", api.MaxNum, api.ErrForm},
		{"\x80\x00\x3f\xff", api.MaxNum, api.ErrForm},
		{"\x80\x00\x00\x00", api.MaxNum, api.ErrForm},
		{"\xc0\x00\x00\x00\x3f\xff\xff\xff", api.MaxNum, api.ErrForm},
		{"\xc0\x00\x00\x00\x00\x00\x00\x05", api.MaxNum, api.ErrForm},
		{"\x06", 5, api.ErrLong},
		{"\x40\x40", 63, api.ErrLong},
		{"\x80\x00\x40\x00", 16383, api.ErrLong},
		{"\xc0\x00\x00\x00\x40\x00\x00\x00", 1<<30 - 1, api.ErrLong},
		{"\xff\xff\xff\xff\xff\xff\xff\xff", api.MaxNum - 1, api.ErrLong},
		{"\x01", 0, api.ErrLong},
		{"\x00", -1, api.ErrLong},
		{"\x00", math.MinInt, api.ErrLong},
		{"\x05", -5, api.ErrLong},
	} {
		r := wire.From(c.bytes)
		if n := r.Num(c.most); n != 0 || r.Err() != c.want {
			t.Errorf("Num(%d) over %x = %d, %d, want error %d", c.most, c.bytes, n, r.Err(), c.want)
		}
	}
}

// Of several errors the first that the chapter names is answered.
func TestFirstOfSeveralErrors(t *testing.T) {
	for bytes, want := range map[string]api.Errno{
		"\x40":                             api.ErrShort,
		"\x80\x00\x00":                     api.ErrShort,
		"\xc0\x00\x00\x00\x00\x00\x00":     api.ErrShort,
		"\x40\x3f":                         api.ErrForm,
		"\x80\x00\x3f\xff":                 api.ErrForm,
		"\xc0\x00\x00\x00\x00\x00\x00\x05": api.ErrForm,
	} {
		r := wire.From(bytes)
		r.Num(-1)
		if r.Err() != want {
			t.Errorf("Num(-1) over %x: error %d, want %d", bytes, r.Err(), want)
		}
	}
}

func TestTextsTaken(t *testing.T) {
	long := strings.Repeat("ab", api.MaxText/2)
	for _, c := range []struct {
		bytes string
		most  int
		want  string
	}{
		{"\x00", 0, ""},
		{"\x00", api.MaxText, ""},
		{"\x02ab", 2, "ab"},
		{"\x02ab", api.MaxNum, "ab"},
		{"\x40\x40" + long[:64], 64, long[:64]},
		{"\x80\x00\x40\x00" + long[:16384], 16384, long[:16384]},
		{"\x80\x01\x00\x00" + long, api.MaxText, long},
		{"\x80\x01\x00\x00" + long, math.MaxInt, long},
	} {
		r := wire.From(c.bytes)
		if got := r.Text(c.most); got != c.want || r.End() != api.OK {
			t.Errorf("Text(%d) over %d bytes: %d bytes, error %d", c.most, len(c.bytes), len(got), r.End())
		}
	}
}

func TestTextsRefused(t *testing.T) {
	long := strings.Repeat("a", api.MaxText+1)
	for _, c := range []struct {
		bytes string
		most  int
		want  api.Errno
	}{
		{"", 5, api.ErrShort},
		{"\x40", 5, api.ErrShort},
		{"\x02a", 5, api.ErrShort},
		{"\x01", 5, api.ErrShort},
		{"\x80\x01\x00\x00" + long[:api.MaxText-1], api.MaxText, api.ErrShort},
		{"\x40\x02ab", 5, api.ErrForm},
		{"\x02ab", 1, api.ErrLong},
		{"\x02", 1, api.ErrLong},
		{"\x00", -1, api.ErrLong},
		{"\x02ab", math.MinInt, api.ErrLong},
		{"\x80\x01\x00\x01" + long, api.MaxText + 1, api.ErrLong},
		{"\x80\x01\x00\x01" + long, math.MaxInt, api.ErrLong},
		{"\xff\xff\xff\xff\xff\xff\xff\xff", api.MaxNum, api.ErrLong},
	} {
		r := wire.From(c.bytes)
		if s := r.Text(c.most); s != "" || r.Err() != c.want {
			t.Errorf("Text(%d) over %d bytes: %d bytes, error %d, want %d", c.most, len(c.bytes), len(s), r.Err(), c.want)
		}
	}
}

func TestDigestsTakenAndRefused(t *testing.T) {
	h := counted()
	r := wire.From(string(h[:]))
	if got := r.Hash(); got != h || r.End() != api.OK {
		t.Errorf("Hash = %x, %d", got, r.End())
	}
	for _, size := range []int{0, 1, 31} {
		r := wire.From(string(h[:size]))
		if got := r.Hash(); got != (api.Hash{}) || r.Err() != api.ErrShort {
			t.Errorf("Hash over %d bytes = %x, %d", size, got, r.Err())
		}
	}
}

func TestFlagsTakenAndRefused(t *testing.T) {
	for b := range 256 {
		r := wire.From(string([]byte{byte(b)}))
		got := r.Flag()
		want := api.OK
		if b > 1 {
			want = api.ErrForm
		}
		if got != (b == 1) || r.End() != want {
			t.Errorf("Flag over %02x = %t, %d", b, got, r.End())
		}
	}
	r := wire.From("")
	if r.Flag() || r.Err() != api.ErrShort {
		t.Errorf("Flag over nothing: error %d", r.Err())
	}
}

// rest takes one of each thing of a failed reader and tells what wasn't a zero value.
func rest(t *testing.T, name string, r *wire.Reader, want api.Errno) {
	t.Helper()
	if n := r.Num(api.MaxNum); n != 0 {
		t.Errorf("%s: Num = %d", name, n)
	}
	if s := r.Text(api.MaxText); s != "" {
		t.Errorf("%s: Text = %q", name, s)
	}
	if h := r.Hash(); h != (api.Hash{}) {
		t.Errorf("%s: Hash = %x", name, h)
	}
	if r.Flag() {
		t.Errorf("%s: Flag = true", name)
	}
	if r.Err() != want || r.End() != want {
		t.Errorf("%s: Err, End = %d, %d, want %d", name, r.Err(), r.End(), want)
	}
}

func TestFailedReaderKeepsItsFirstError(t *testing.T) {
	behind := strings.Repeat("\x01", 200)
	for _, c := range []struct {
		name, bytes string
		take        func(r *wire.Reader)
		want        api.Errno
	}{
		{"number too long", "\x06" + behind, func(r *wire.Reader) { r.Num(5) }, api.ErrLong},
		{"number in too many bytes", "\x40\x01" + behind, func(r *wire.Reader) { r.Num(5) }, api.ErrForm},
		{"number too short", "\xc0\x01\x01\x01", func(r *wire.Reader) { r.Num(5) }, api.ErrShort},
		{"text too long", "\x06" + behind, func(r *wire.Reader) { r.Text(5) }, api.ErrLong},
		{"text too short", "\x06\x01\x01\x01", func(r *wire.Reader) { r.Text(9) }, api.ErrShort},
		{"digest too short", "\x01\x01\x01\x01", func(r *wire.Reader) { r.Hash() }, api.ErrShort},
		{"neither flag", "\x02" + behind, func(r *wire.Reader) { r.Flag() }, api.ErrForm},
	} {
		r := wire.From(c.bytes)
		c.take(r)
		rest(t, c.name, r, c.want)
		rest(t, c.name, r, c.want)
		r.Fail(api.ErrTag)
		rest(t, c.name, r, c.want)
	}
}

// Promise 1.3: Fail, Err, End.

func TestFail(t *testing.T) {
	r := wire.From(strings.Repeat("\x01", 200))
	if r.Err() != api.OK {
		t.Errorf("Err at first = %d", r.Err())
	}
	r.Fail(api.OK)
	if n := r.Num(5); n != 1 || r.Err() != api.OK {
		t.Errorf("behind Fail(OK): Num = %d, Err = %d", n, r.Err())
	}
	r.Fail(api.ErrDepth)
	rest(t, "behind Fail(ErrDepth)", r, api.ErrDepth)
	r.Fail(api.ErrForm)
	r.Fail(api.OK)
	rest(t, "behind Fail of others", r, api.ErrDepth)
	odd := wire.From("")
	odd.Fail(-7)
	rest(t, "behind Fail(-7)", odd, -7)
}

// To ask for the end takes nothing, and a tail is no failure: what is left can be taken still.
func TestEnd(t *testing.T) {
	r := wire.From("\x01\x02")
	for n, want := range []api.Errno{api.ErrTail, api.ErrTail, api.OK} {
		if n > 0 {
			if got := r.Num(5); got != n {
				t.Errorf("Num = %d, want %d", got, n)
			}
		}
		for range 2 {
			if r.End() != want || r.Err() != api.OK {
				t.Errorf("behind %d numbers: End, Err = %d, %d, want %d, OK", n, r.End(), r.Err(), want)
			}
		}
	}
	if e := wire.From("").End(); e != api.OK {
		t.Errorf("End of nothing = %d", e)
	}
}

func TestEndTellsOfTheFailureAheadOfTheTail(t *testing.T) {
	r := wire.From("\x06\x01\x01")
	r.Num(5)
	if r.End() != api.ErrLong {
		t.Errorf("End = %d", r.End())
	}
}

// Promise 1.4: nil.

func TestNilWriter(t *testing.T) {
	var w *wire.Writer
	w.Num(1)
	w.Num(-1)
	w.Text("ab")
	w.Text(strings.Repeat("a", api.MaxText+1))
	w.Hash(counted())
	w.Flag(true)
	w.Flag(false)
	if s, e := w.End(); s != "" || e != api.ErrArg {
		t.Errorf("End = %q, %d", s, e)
	}
}

func TestNilReader(t *testing.T) {
	var r *wire.Reader
	rest(t, "nil", r, api.ErrArg)
	r.Num(-1)
	r.Text(-1)
	r.Fail(api.ErrTag)
	r.Fail(api.OK)
	rest(t, "nil behind Fail", r, api.ErrArg)
}

// Promise 1.5: there and back.

func TestAllIsTakenAsItWasPut(t *testing.T) {
	texts := []string{"", "ab", strings.Repeat("\x00\xff", 40), strings.Repeat("x", api.MaxText)}
	w := wire.New()
	for i, c := range numbers {
		w.Num(c.n)
		w.Flag(i%2 == 0)
		w.Text(texts[i%len(texts)])
		w.Hash(api.Hash{0: byte(i), 31: 7})
	}
	s, e := w.End()
	if e != api.OK {
		t.Fatalf("End: error %d", e)
	}
	r := wire.From(s)
	for i, c := range numbers {
		if n := r.Num(api.MaxNum); n != c.n {
			t.Errorf("Num = %d, want %d", n, c.n)
		}
		if r.Flag() != (i%2 == 0) {
			t.Errorf("Flag behind %d is another", c.n)
		}
		if got := r.Text(api.MaxText); got != texts[i%len(texts)] {
			t.Errorf("Text behind %d has %d bytes", c.n, len(got))
		}
		if h := r.Hash(); h != (api.Hash{0: byte(i), 31: 7}) {
			t.Errorf("Hash behind %d = %x", c.n, h)
		}
	}
	if r.End() != api.OK {
		t.Errorf("End = %d", r.End())
	}
}

func TestEachNumberIsTakenAsItWasPut(t *testing.T) {
	for shift := range 62 {
		for _, n := range []int{1<<shift - 1, 1 << shift, 1<<shift + 1} {
			s := written(t, func(w *wire.Writer) { w.Num(n) })
			r := wire.From(s)
			if got := r.Num(n); got != n || r.End() != api.OK {
				t.Errorf("%d comes back as %d, %d", n, got, r.End())
			}
		}
	}
}

// putAgain goes through s, thing by thing as the kinds tell, and answers what it took, put again.
func putAgain(s, kinds string) (string, api.Errno) {
	r, w := wire.From(s), wire.New()
	for i := range len(kinds) {
		switch kinds[i] % 4 {
		case 0:
			w.Num(r.Num(api.MaxNum))
		case 1:
			w.Text(r.Text(api.MaxText))
		case 2:
			w.Hash(r.Hash())
		case 3:
			w.Flag(r.Flag())
		}
	}
	if e := r.End(); e != api.OK {
		return "", e
	}
	return w.End()
}

func TestEachByteFormIsTheOnlyOne(t *testing.T) {
	for a := range 256 {
		for b := range 256 {
			for _, tail := range []string{"", "\x00\x00", "\x40\x00", "\x00\x00\x00\x00\x00\x00", "\x00\x00\x40\x00\x00\x00"} {
				for _, kind := range []string{"\x00", "\x01", "\x03\x03"} {
					s := string([]byte{byte(a), byte(b)}) + tail
					if got, e := putAgain(s, kind); e == api.OK && got != s {
						t.Fatalf("%x, gone through as %x, is put again as %x", s, kind, got)
					}
				}
			}
		}
	}
}

func FuzzPutAgain(f *testing.F) {
	h := counted()
	f.Add("\x40\x40\x02ab"+string(h[:])+"\x01", "\x00\x01\x02\x03")
	f.Add("\x40\x3f", "\x00")
	f.Add("\x02\x01", "\x03\x03")
	f.Add("\xc0\x00\x00\x00\x40\x00\x00\x00", "\x00")
	f.Add("\x80\x00\x40", "\x00")
	f.Fuzz(func(t *testing.T, s, kinds string) {
		if got, e := putAgain(s, kinds); e == api.OK && got != s {
			t.Errorf("%x, gone through as %x, is put again as %x", s, kinds, got)
		}
	})
}
