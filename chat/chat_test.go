package chat_test

import (
	"fmt"
	"math"
	"math/rand"
	"strings"
	"testing"

	"bevy/api"
	"bevy/chat"
)

// Promise 14.1: what is right, bytes, names.

// full is a note of which each field is another than nought.
func full() api.Note {
	return api.Note{Epoch: key(1), Depth: 70, Author: 9, Gen: 200, Text: strings.Repeat("sealed ", 4)}
}

// with is a note that has all, changed.
func with(change func(n *api.Note)) api.Note {
	n := full()
	change(&n)
	return n
}

// edges are right notes, at the ends of what may be.
func edges() []api.Note {
	list := []api.Note{full(), {Author: 1}, {Epoch: key(2), Depth: api.MaxNum, Author: 64, Gen: 255, Text: strings.Repeat("\xff", 1040)}}
	for _, depth := range []int{0, 1, 63, 64, 1<<14 - 1, 1 << 14, 1<<30 - 1, 1 << 30, 1 << 32, api.MaxNum - 1, api.MaxNum} {
		list = append(list, with(func(n *api.Note) { n.Depth = depth }))
	}
	for author := 1; author <= 64; author++ {
		list = append(list, with(func(n *api.Note) { n.Author = author }))
	}
	for _, gen := range []int{0, 1, 62, 63, 64, 127, 128, 254, 255} {
		list = append(list, with(func(n *api.Note) { n.Gen = gen }))
	}
	for _, size := range []int{0, 1, 15, 16, 17, 63, 64, 1023, 1024, 1025, 1039, 1040} {
		list = append(list, with(func(n *api.Note) { n.Text = strings.Repeat("\x00", size) }))
	}
	return list
}

// wrongs are notes that aren't right, each for one reason.
func wrongs() map[string]api.Note {
	list := map[string]api.Note{
		"nothing":                api.Note{},
		"a text too long":        with(func(n *api.Note) { n.Text = strings.Repeat("x", 1041) }),
		"a text far too long":    with(func(n *api.Note) { n.Text = strings.Repeat("x", 65537) }),
		"the author 65":          with(func(n *api.Note) { n.Author = 65 }),
		"the author 0":           with(func(n *api.Note) { n.Author = 0 }),
		"the gen 256":            with(func(n *api.Note) { n.Gen = 256 }),
		"the depth MaxNum and 1": with(func(n *api.Note) { n.Depth = api.MaxNum + 1 }),
	}
	for _, number := range []int{-1, -2, -256, math.MinInt32, math.MinInt, math.MinInt + 1, math.MaxInt, math.MaxInt - 1} {
		list[fmt.Sprint("the depth ", number)] = with(func(n *api.Note) { n.Depth = number })
		list[fmt.Sprint("the author ", number)] = with(func(n *api.Note) { n.Author = number })
		list[fmt.Sprint("the gen ", number)] = with(func(n *api.Note) { n.Gen = number })
	}
	for _, number := range []int{1 << 32, 1<<32 + 1, 1 << 62} { // as small ones, if their upper half is lost
		list[fmt.Sprint("the author ", number)] = with(func(n *api.Note) { n.Author = number })
		list[fmt.Sprint("the gen ", number)] = with(func(n *api.Note) { n.Gen = number })
	}
	return list
}

func TestRight(t *testing.T) {
	for _, n := range edges() {
		if !chat.Right(n) {
			t.Errorf("not right: %+v", n)
		}
	}
	for what, n := range wrongs() {
		if chat.Right(n) {
			t.Errorf("right: %s", what)
		}
	}
}

func TestPack(t *testing.T) {
	for _, n := range edges() {
		if got := chat.Pack(n); got != bytesOf(n) {
			t.Errorf("Pack of %+v = %x, want %x", n, got, bytesOf(n))
		}
	}
	for what, n := range wrongs() {
		if got := chat.Pack(n); got != "" {
			t.Errorf("%s: Pack = %x", what, got)
		}
	}
}

func TestPackOfASmallOne(t *testing.T) {
	got := chat.Pack(api.Note{Epoch: api.Hash{0: 7}, Depth: 64, Author: 5, Gen: 65, Text: "ab"})
	if want := "\x07" + strings.Repeat("\x00", 31) + "\x40\x40" + "\x05" + "\x40\x41" + "\x02ab"; got != want {
		t.Errorf("Pack = %x, want %x", got, want)
	}
}

func TestUnpack(t *testing.T) {
	for _, n := range edges() {
		if got, err := chat.Unpack(bytesOf(n)); err != api.OK || got != n {
			t.Errorf("Unpack of the bytes of %+v = %+v, %d", n, got, err)
		}
	}
}

func wantUnread(t *testing.T, what, bytes string, want api.Errno) {
	t.Helper()
	if n, err := chat.Unpack(bytes); err != want || n != (api.Note{}) {
		t.Errorf("%s: Unpack = %+v, %d, want the error %d", what, n, err, want)
	}
}

func TestUnpackOfCutBytes(t *testing.T) {
	for _, n := range edges() {
		bytes := bytesOf(n)
		for size := range len(bytes) {
			wantUnread(t, fmt.Sprint("cut to ", size), bytes[:size], api.ErrShort)
		}
	}
}

func TestUnpackOfMoreBytes(t *testing.T) {
	for _, n := range edges() {
		wantUnread(t, "one more", bytesOf(n)+"\x00", api.ErrTail)
		wantUnread(t, "twice", bytesOf(n)+bytesOf(n), api.ErrTail)
	}
}

// pieces are a note's bytes, by its fields.
func pieces(others map[int]string) string {
	parts := []string{text(key(1)), num(70), num(9), num(200), asText("sealed")}
	for at, other := range others {
		parts[at] = other
	}
	return strings.Join(parts, "")
}

const (
	atDepth = iota + 1
	atAuthor
	atGen
	atText
)

func TestUnpackErrors(t *testing.T) {
	if _, err := chat.Unpack(pieces(nil)); err != api.OK {
		t.Fatalf("Unpack of what is changed below: %d", err)
	}
	for _, x := range []struct {
		at   int
		part string
		want api.Errno
	}{
		{atDepth, longNum(7), api.ErrForm},
		{atDepth, "\x80\x00\x00\x46", api.ErrForm},
		{atAuthor, longNum(9), api.ErrForm},
		{atAuthor, num(65), api.ErrLong},
		{atAuthor, num(256), api.ErrLong},
		{atAuthor, num(api.MaxNum), api.ErrLong},
		{atGen, longNum(9), api.ErrForm},
		{atGen, num(256), api.ErrLong},
		{atGen, num(257), api.ErrLong},
		{atGen, num(1 << 32), api.ErrLong},
		{atGen, num(api.MaxNum), api.ErrLong},
		{atText, num(1041) + strings.Repeat("x", 1041), api.ErrLong},
		{atText, num(1041), api.ErrLong},
		{atText, num(65537), api.ErrLong},
		{atText, num(api.MaxNum), api.ErrLong},
		{atText, longNum(1) + "x", api.ErrForm},
		{atText, num(1040) + strings.Repeat("x", 1039), api.ErrShort},
	} {
		wantUnread(t, fmt.Sprint("the part ", x.at), pieces(map[int]string{x.at: x.part}), x.want)
		// What is wrong further behind isn't come to.
		for at := x.at + 1; at <= atText; at++ {
			wantUnread(t, fmt.Sprint("the parts ", x.at, " and ", at), pieces(map[int]string{x.at: x.part, at: ""}), x.want)
			wantUnread(t, fmt.Sprint("the parts ", x.at, " and ", at), pieces(map[int]string{x.at: x.part, at: num(api.MaxNum)}), x.want)
		}
	}
}

// An author 0 can be read, and is told behind all that can't.
func TestUnpackOfWhatIsNotRight(t *testing.T) {
	nobody := map[int]string{atAuthor: num(0)}
	wantUnread(t, "the author 0", pieces(nobody), api.ErrForm)
	wantUnread(t, "the author 0, and more", pieces(nobody)+"\x00", api.ErrTail)
	wantUnread(t, "the author 0, and a gen too great", pieces(map[int]string{atAuthor: num(0), atGen: num(256)}), api.ErrLong)
	wantUnread(t, "the author 0, and a text too short", pieces(map[int]string{atAuthor: num(0), atText: "\x07sealed"}), api.ErrShort)
	wantUnread(t, "noughts", strings.Repeat("\x00", 36), api.ErrForm)
	wantUnread(t, "more noughts", strings.Repeat("\x00", 37), api.ErrTail)
	wantUnread(t, "fewer noughts", strings.Repeat("\x00", 35), api.ErrShort)
}

// wantOneForm demands that what is read of bytes has just these.
func wantOneForm(t *testing.T, bytes string) bool {
	t.Helper()
	n, err := chat.Unpack(bytes)
	if err != api.OK {
		if n != (api.Note{}) {
			t.Errorf("Unpack of %x: %d beside a note", bytes, err)
		}
		return false
	}
	if !chat.Right(n) || chat.Pack(n) != bytes || bytesOf(n) != bytes {
		t.Errorf("Unpack of %x: a note of other bytes, %+v", bytes, n)
	}
	return true
}

func TestUnpackOfChangedBytes(t *testing.T) {
	bytes, read := bytesOf(full()), 0
	for at := range len(bytes) {
		for flip := 1; flip < 256; flip++ {
			changed := []byte(bytes)
			changed[at] ^= byte(flip)
			if wantOneForm(t, string(changed)) {
				read++
			}
		}
	}
	if read == 0 || read == 255*len(bytes) {
		t.Errorf("%d were read", read)
	}
}

func TestUnpackOfBytesOutOfNowhere(t *testing.T) {
	r := rand.New(rand.NewSource(14))
	for range 20000 {
		bytes := make([]byte, r.Intn(80))
		r.Read(bytes)
		for i := 32; i < len(bytes); i++ {
			bytes[i] &= 0x1f // small numbers, most of the time
		}
		wantOneForm(t, string(bytes))
	}
}

func TestName(t *testing.T) {
	zeros := strings.Repeat("0", 64)
	for want, got := range map[string]string{
		"note " + zeros + " 0 0":                      chat.Name(api.Hash{}, 0, 0),
		"note " + zeros + " 1 0":                      chat.Name(api.Hash{}, 1, 0),
		"note " + zeros + " 64 255":                   chat.Name(api.Hash{}, 64, 255),
		"note " + zeros + " -1 -20":                   chat.Name(api.Hash{}, -1, -20),
		"note 0a" + zeros[:60] + "bf 7 10":            chat.Name(api.Hash{0: 0x0a, 31: 0xbf}, 7, 10),
		"note " + zeros + " 100 1000000":              chat.Name(api.Hash{}, 100, 1000000),
		"note " + zeros + " 4611686018427387903 0":    chat.Name(api.Hash{}, api.MaxNum, 0),
		"note " + zeros + " 9223372036854775807 5":    chat.Name(api.Hash{}, math.MaxInt, 5),
		"note " + zeros + " 5 -9223372036854775808":   chat.Name(api.Hash{}, 5, math.MinInt),
		"note " + strings.Repeat("ff", 32) + " 12 13": chat.Name(api.Hash([]byte(strings.Repeat("\xff", 32))), 12, 13),
	} {
		if got != want {
			t.Errorf("Name = %q, want %q", got, want)
		}
	}
	r := rand.New(rand.NewSource(15))
	for range 200 {
		h, author, gen := key(r.Int()), r.Int()-r.Int(), r.Intn(2000)-1000
		if got, want := chat.Name(h, author, gen), nameOf(h, author, gen); got != want {
			t.Errorf("Name = %q, want %q", got, want)
		}
	}
}

// What was packed is unpacked as it was (14.4), whatever note it is.
func FuzzPack(f *testing.F) {
	f.Add("", 0, 0, 0, "")
	f.Add("epoch", 70, 9, 200, "sealed")
	f.Add("epoch", api.MaxNum, 64, 255, strings.Repeat("x", 1040))
	f.Add("epoch", api.MaxNum+1, 65, 256, strings.Repeat("x", 1041))
	f.Add("epoch", -1, -1, -1, "x")
	f.Fuzz(func(t *testing.T, epoch string, depth, author, gen int, sealed string) {
		n := api.Note{Epoch: digest(epoch), Depth: depth, Author: author, Gen: gen, Text: sealed}
		right := depth >= 0 && depth <= 1<<62-1 && author >= 1 && author <= 64 && gen >= 0 && gen <= 255 && len(sealed) <= 1040
		if chat.Right(n) != right || (chat.Pack(n) != "") != right {
			t.Errorf("Right of %+v = %t, Pack = %x", n, chat.Right(n), chat.Pack(n))
		}
		if got, err := chat.Unpack(chat.Pack(n)); right && (got != n || err != api.OK) {
			t.Errorf("Unpack of what was packed of %+v = %+v, %d", n, got, err)
		}
		if got := chat.Name(n.Epoch, author, gen); got != nameOf(n.Epoch, author, gen) {
			t.Errorf("Name = %q", got)
		}
	})
}

func FuzzUnpack(f *testing.F) {
	f.Add("")
	f.Add(pieces(nil))
	f.Add(bytesOf(full()))
	f.Add(pieces(map[int]string{atAuthor: num(0)}))
	f.Add(pieces(map[int]string{atGen: num(256)}))
	f.Fuzz(func(t *testing.T, bytes string) { wantOneForm(t, bytes) })
}
