package code

import (
	"bytes"
	"encoding/binary"
	"hash/crc32"
	"math/rand/v2"
	"slices"
	"testing"

	"haywain/api"
)

const (
	greatest = 1<<63 - 1
	lowest   = -1 << 63
)

// edges answers numbers of all kinds: the ends, the powers of two, and the neighbours of these.
func edges() []int64 {
	var l []int64
	for d := int64(-2); d <= 2; d++ {
		for shift := range 64 {
			l = append(l, 1<<shift+d, -1<<shift+d)
		}
	}
	l = append(l, 0, lowest, greatest, 0x0102030405060708, -0x0102030405060708)
	slices.Sort(l)
	return slices.Compact(l)
}

// some answers n bytes without a plain order, the same ones each time.
func some(n int) []byte {
	r := rand.New(rand.NewPCG(uint64(n), 7))
	b := make([]byte, n)
	for i := range b {
		b[i] = byte(r.Uint32())
	}
	return b
}

// tails answers what may stand behind something that is taken.
func tails() [][]byte {
	return [][]byte{nil, {}, {0}, {255}, some(7), some(8), some(9), make([]byte, 20), some(api.MaxFrame + 9)}
}

func join(l ...[]byte) []byte {
	return bytes.Join(l, nil)
}

func mustFrame(t *testing.T, b []byte) []byte {
	t.Helper()
	f, e := Frame(b)
	if e != api.OK {
		t.Fatalf("Frame of %d bytes: %d", len(b), e)
	}
	return f
}

// head answers a frame's first eight bytes, as they are told.
func head(size, sum uint32) []byte {
	return binary.BigEndian.AppendUint32(binary.BigEndian.AppendUint32(nil, size), sum)
}

// framed answers the frame of a payload of any length, by the library's own means.
func framed(b []byte) []byte {
	size := binary.BigEndian.AppendUint32(nil, uint32(len(b)))
	return join(head(uint32(len(b)), crc32.ChecksumIEEE(join(size, b))), b)
}

func checkNum(t *testing.T, b []byte, want int64, behind []byte, err api.Errno) {
	t.Helper()
	n, r, e := TakeNum(b)
	if n != want || !bytes.Equal(r, behind) || e != err {
		t.Errorf("TakeNum(%x): %d, %x, %d; want %d, %x, %d", b, n, r, e, want, behind, err)
	}
}

func checkText(t *testing.T, b []byte, want string, behind []byte, err api.Errno) {
	t.Helper()
	s, r, e := TakeText(b)
	if s != want || !bytes.Equal(r, behind) || e != err {
		t.Errorf("TakeText(%x): %q, %x, %d; want %q, %x, %d", b, s, r, e, want, behind, err)
	}
}

func checkFrame(t *testing.T, b, want, behind []byte, err api.Errno) {
	t.Helper()
	p, r, e := TakeFrame(b)
	if !bytes.Equal(p, want) || !bytes.Equal(r, behind) || e != err {
		t.Errorf("TakeFrame(%x): %x, %x, %d; want %x, %x, %d", b, p, r, e, want, behind, err)
	}
}

// P2.1: sums, against those that are published.
func TestSum(t *testing.T) {
	for _, c := range []struct {
		s    string
		want uint32
	}{
		{"123456789", 0xcbf43926}, {"", 0}, {"a", 0xe8b7be43}, {"abc", 0x352441c2}, {"\x00", 0xd202ef8d}, {"\xff", 0xff000000},
		{"\x00\x00\x00\x00", 0x2144df1c}, {"\xff\xff\xff\xff", 0xffffffff}, {"The quick brown fox jumps over the lazy dog", 0x414fa339},
	} {
		if got := Sum([]byte(c.s)); got != c.want {
			t.Errorf("Sum(%q): %x; want %x", c.s, got, c.want)
		}
	}
	if got := Sum(nil); got != 0 {
		t.Errorf("Sum(nil): %x", got)
	}
	for n := range 300 {
		if got, want := Sum(some(n)), crc32.ChecksumIEEE(some(n)); got != want {
			t.Errorf("Sum of %d bytes: %x; want %x", n, got, want)
		}
	}
	for x := range 256 {
		b := []byte{byte(x)}
		if got, want := Sum(b), crc32.ChecksumIEEE(b); got != want {
			t.Errorf("Sum(%x): %x; want %x", b, got, want)
		}
	}
	if got, want := Sum(some(100000)), crc32.ChecksumIEEE(some(100000)); got != want {
		t.Errorf("Sum of many: %x; want %x", got, want)
	}
}

// P2.1: a number's bytes.
func TestNum(t *testing.T) {
	for _, c := range []struct {
		n    int64
		want string
	}{
		{0, "\x00\x00\x00\x00\x00\x00\x00\x00"}, {1, "\x00\x00\x00\x00\x00\x00\x00\x01"}, {-1, "\xff\xff\xff\xff\xff\xff\xff\xff"},
		{greatest, "\x7f\xff\xff\xff\xff\xff\xff\xff"}, {lowest, "\x80\x00\x00\x00\x00\x00\x00\x00"}, {lowest + 1, "\x80\x00\x00\x00\x00\x00\x00\x01"},
		{256, "\x00\x00\x00\x00\x00\x00\x01\x00"}, {-256, "\xff\xff\xff\xff\xff\xff\xff\x00"}, {0x0102030405060708, "\x01\x02\x03\x04\x05\x06\x07\x08"},
	} {
		if got := Num(c.n); string(got) != c.want {
			t.Errorf("Num(%d): %x; want %x", c.n, got, c.want)
		}
	}
	for _, n := range edges() {
		if got, want := Num(n), binary.BigEndian.AppendUint64(nil, uint64(n)); !bytes.Equal(got, want) {
			t.Errorf("Num(%d): %x; want %x", n, got, want)
		}
	}
}

// P2.1: a text's bytes; it may have any bytes, and more than a frame.
func TestText(t *testing.T) {
	for _, c := range []struct{ s, want string }{
		{"ab", "\x00\x00\x00\x00\x00\x00\x00\x02ab"}, {"", "\x00\x00\x00\x00\x00\x00\x00\x00"}, {"\x00", "\x00\x00\x00\x00\x00\x00\x00\x01\x00"},
		{"\xff\xfe", "\x00\x00\x00\x00\x00\x00\x00\x02\xff\xfe"}, {"ä", "\x00\x00\x00\x00\x00\x00\x00\x02\xc3\xa4"},
	} {
		if got := Text(c.s); string(got) != c.want {
			t.Errorf("Text(%q): %x; want %x", c.s, got, c.want)
		}
	}
	for _, n := range []int{1, 7, 8, 9, 255, 256, 257, api.MaxFrame, api.MaxFrame + 1, 65536, 70000} {
		s := some(n)
		if got, want := Text(string(s)), join(binary.BigEndian.AppendUint64(nil, uint64(n)), s); !bytes.Equal(got, want) {
			t.Errorf("Text of %d bytes is another one", n)
		}
	}
}

// P2.2: numbers that are taken, with what is behind.
func TestTakeNum(t *testing.T) {
	for _, n := range edges() {
		b := binary.BigEndian.AppendUint64(nil, uint64(n))
		for _, tail := range tails() {
			checkNum(t, join(b, tail), n, tail, api.OK)
		}
	}
	checkNum(t, []byte("\x80\x00\x00\x00\x00\x00\x00\x00"), lowest, nil, api.OK)
	checkNum(t, []byte("\x7f\xff\xff\xff\xff\xff\xff\xff"), greatest, nil, api.OK)
	checkNum(t, []byte("\x01\x02\x03\x04\x05\x06\x07\x08\x09"), 0x0102030405060708, []byte{9}, api.OK)
}

// P2.2: fewer than 8 bytes are no number, and no text.
func TestTooFewBytes(t *testing.T) {
	checkNum(t, nil, 0, nil, api.ErrForm)
	checkText(t, nil, "", nil, api.ErrForm)
	for n := range 8 {
		for _, b := range [][]byte{make([]byte, n), bytes.Repeat([]byte{255}, n), some(n), make([]byte, n, 20)} {
			checkNum(t, b, 0, nil, api.ErrForm)
			checkText(t, b, "", nil, api.ErrForm)
		}
	}
	checkNum(t, make([]byte, 8), 0, nil, api.OK)
	checkText(t, make([]byte, 8), "", nil, api.OK)
}

// P2.2: texts that are taken, with what is behind.
func TestTakeText(t *testing.T) {
	for _, s := range []string{"", "a", "ab", "\x00", "\xff\xfe\xfd", "ä€", string(some(255)), string(some(256)), string(some(api.MaxFrame + 1)), string(some(70000))} {
		b := join(binary.BigEndian.AppendUint64(nil, uint64(len(s))), []byte(s))
		for _, tail := range tails() {
			checkText(t, join(b, tail), s, tail, api.OK)
		}
	}
}

// P2.2: a text's number below 0, just as great as what is behind, and greater.
func TestTakeTextOfWrongNumbers(t *testing.T) {
	for _, behind := range [][]byte{nil, {1}, some(7), some(8), some(300)} {
		have := int64(len(behind))
		for _, n := range edges() {
			b := join(Num(n), behind)
			if n < 0 || n > have {
				checkText(t, b, "", nil, api.ErrForm)
			} else {
				checkText(t, b, string(behind[:n]), behind[n:], api.OK)
			}
		}
		checkText(t, join(Num(have), behind), string(behind), nil, api.OK)
		checkText(t, join(Num(have+1), behind), "", nil, api.ErrForm)
		// What the lower half of a number says doesn't count alone.
		checkText(t, join(Num(1<<32), behind), "", nil, api.ErrForm)
		checkText(t, join(Num(lowest+have), behind), "", nil, api.ErrForm)
	}
	// The spare room of what is handed in isn't behind.
	checkText(t, join(Num(1), some(20))[:8], "", nil, api.ErrForm)
}

// P2.3: frames, up to MaxFrame bytes.
func TestFrame(t *testing.T) {
	for _, c := range []struct{ s, want string }{
		{"", "\x00\x00\x00\x00\x21\x44\xdf\x1c"}, {"hay", "\x00\x00\x00\x03\x9c\x22\x79\x76hay"},
	} {
		f, e := Frame([]byte(c.s))
		if string(f) != c.want || e != api.OK {
			t.Errorf("Frame(%q): %x, %d; want %x", c.s, f, e, c.want)
		}
	}
	for _, n := range []int{0, 1, 2, 3, 4, 7, 8, 9, 255, 256, 257, 1000, api.MaxFrame - 1, api.MaxFrame} {
		f, e := Frame(some(n))
		if !bytes.Equal(f, framed(some(n))) || e != api.OK {
			t.Errorf("Frame of %d bytes: %x, %d", n, f, e)
		}
	}
	if f, e := Frame(nil); string(f) != "\x00\x00\x00\x00\x21\x44\xdf\x1c" || e != api.OK {
		t.Errorf("Frame(nil): %x, %d", f, e)
	}
}

// P2.3: more than MaxFrame bytes have no frame.
func TestFrameTooGreat(t *testing.T) {
	for _, n := range []int{api.MaxFrame + 1, api.MaxFrame + 2, 2 * api.MaxFrame, 65536, 65537, 1 << 20} {
		if f, e := Frame(make([]byte, n)); len(f) != 0 || e != api.ErrFull {
			t.Errorf("Frame of %d bytes: %d bytes, %d", n, len(f), e)
		}
	}
}

// P2.3: frames that are taken, with what is behind.
func TestTakeFrame(t *testing.T) {
	for _, n := range []int{0, 1, 3, 8, 255, 256, 257, api.MaxFrame - 1, api.MaxFrame} {
		for _, tail := range tails() {
			checkFrame(t, join(framed(some(n)), tail), some(n), tail, api.OK)
		}
	}
}

// P2.3: fewer than 8 bytes, a number above MaxFrame, and one greater than what is behind, are no frame.
func TestTakeFrameOfWrongForm(t *testing.T) {
	checkFrame(t, nil, nil, nil, api.ErrForm)
	for n := range 8 {
		checkFrame(t, make([]byte, n), nil, nil, api.ErrForm)
		checkFrame(t, framed(nil)[:n], nil, nil, api.ErrForm)
		checkFrame(t, some(n), nil, nil, api.ErrForm)
	}
	// The sums are right: the number alone is wrong.
	for _, n := range []int{api.MaxFrame + 1, api.MaxFrame + 2, 65536, 1 << 20} {
		checkFrame(t, framed(make([]byte, n)), nil, nil, api.ErrForm)
		checkFrame(t, join(framed(make([]byte, n)), some(5)), nil, nil, api.ErrForm)
	}
	for _, size := range []uint32{api.MaxFrame + 1, 1 << 16, 1 << 31, 1<<31 - 1, 1<<31 + 1, 1<<32 - 1, 1<<32 - 8} {
		for _, tail := range tails() {
			checkFrame(t, join(head(size, 0), tail), nil, nil, api.ErrForm)
		}
	}
	for _, behind := range []int{0, 1, 7, 8, 300, api.MaxFrame - 1} {
		b := some(behind)
		checkFrame(t, join(head(uint32(behind+1), 0), b), nil, nil, api.ErrForm)
		whole := framed(some(behind + 1))
		checkFrame(t, whole[:len(whole)-1], nil, nil, api.ErrForm)
	}
}

// P2.3: a sum that is another one; a frame whose form is wrong as well is ErrForm.
func TestTakeFrameOfWrongSum(t *testing.T) {
	checkFrame(t, make([]byte, 8), nil, nil, api.ErrSum)
	for _, n := range []int{0, 1, 3, 100, api.MaxFrame} {
		p := some(n)
		right := binary.BigEndian.Uint32(framed(p)[4:])
		for _, sum := range []uint32{0, 1, 1<<32 - 1, right + 1, right - 1, ^right, right<<16 | right>>16, right ^ 1<<31, crc32.ChecksumIEEE(p)} {
			if sum != right {
				checkFrame(t, join(head(uint32(n), sum), p), nil, nil, api.ErrSum)
				checkFrame(t, join(head(uint32(n), sum), p, some(9)), nil, nil, api.ErrSum)
				checkFrame(t, join(head(uint32(n+1), sum), p), nil, nil, api.ErrForm)
			}
		}
	}
	// The sum is of the payload, not of what is behind it too.
	f := framed([]byte("hay"))
	checkFrame(t, join(head(2, binary.BigEndian.Uint32(f[4:])), []byte("hay")), nil, nil, api.ErrSum)
}

// P2.4: what was written is taken as it was, with what stands behind it.
func TestBack(t *testing.T) {
	for _, tail := range tails() {
		for _, n := range edges() {
			checkNum(t, join(Num(n), tail), n, tail, api.OK)
		}
		for _, n := range []int{0, 1, 2, 7, 8, 9, 255, 256, api.MaxFrame - 1, api.MaxFrame} {
			checkText(t, join(Text(string(some(n))), tail), string(some(n)), tail, api.OK)
			checkFrame(t, join(mustFrame(t, some(n)), tail), some(n), tail, api.OK)
		}
		checkText(t, join(Text(string(some(api.MaxFrame+1))), tail), string(some(api.MaxFrame+1)), tail, api.OK)
	}
}

// P2.4: things of several kinds, one behind the other, come back in their order.
func TestBackInOrder(t *testing.T) {
	b := join(Num(lowest), Text("hay"), Num(-1), Text(""), mustFrame(t, join(Num(5), Text("wain"))), Num(greatest))
	_, b, _ = TakeNum(b)
	s, b, e := TakeText(b)
	if s != "hay" || e != api.OK {
		t.Errorf("text: %q, %d", s, e)
	}
	n, b, e := TakeNum(b)
	if n != -1 || e != api.OK {
		t.Errorf("number: %d, %d", n, e)
	}
	s, b, e = TakeText(b)
	if s != "" || e != api.OK {
		t.Errorf("text: %q, %d", s, e)
	}
	p, b, e := TakeFrame(b)
	if e != api.OK {
		t.Errorf("frame: %d", e)
	}
	checkNum(t, p, 5, Text("wain"), api.OK)
	checkNum(t, b, greatest, nil, api.OK)
}

// P2.5: no bit behind the first four bytes may be turned.
func TestTurnedBit(t *testing.T) {
	for _, c := range []struct{ n, stride int }{{0, 1}, {1, 1}, {3, 1}, {8, 1}, {100, 1}, {api.MaxFrame, 61}} {
		for _, tail := range [][]byte{nil, some(9)} {
			f := mustFrame(t, some(c.n))
			for bit := 32; bit < 8*len(f); bit += c.stride {
				f[bit/8] ^= 1 << (bit % 8)
				if p, r, e := TakeFrame(join(f, tail)); len(p) != 0 || len(r) != 0 || e != api.ErrSum {
					t.Errorf("%d bytes, bit %d turned: %x, %x, %d", c.n, bit, p, r, e)
				}
				f[bit/8] ^= 1 << (bit % 8)
			}
			checkFrame(t, join(f, tail), some(c.n), tail, api.OK)
		}
	}
}

// P2.6: frames one behind the other are taken one by one.
func TestFramesInARow(t *testing.T) {
	sizes := []int{3, 0, 0, api.MaxFrame, 1, 8, 0, api.MaxFrame, 257}
	var b []byte
	for _, n := range sizes {
		b = append(b, mustFrame(t, some(n))...)
	}
	for _, n := range sizes {
		p, behind, e := TakeFrame(b)
		if !bytes.Equal(p, some(n)) || !bytes.Equal(behind, b[8+n:]) || e != api.OK {
			t.Fatalf("frame of %d bytes: %d bytes, %d behind, %d", n, len(p), len(behind), e)
		}
		b = behind
	}
	checkFrame(t, b, nil, nil, api.ErrForm)
}

// P2.6: a beginning of a frame that isn't all of it is ErrForm, also behind a whole one.
func TestCutFrame(t *testing.T) {
	first := mustFrame(t, []byte("hay"))
	for _, n := range []int{0, 1, 3, 8, 300, api.MaxFrame} {
		f := mustFrame(t, some(n))
		for cut := range len(f) {
			checkFrame(t, f[:cut], nil, nil, api.ErrForm)
			if cut%7 == 0 {
				_, behind, e := TakeFrame(join(first, f[:cut]))
				if e != api.OK {
					t.Errorf("ahead of a cut frame: %d", e)
				}
				checkFrame(t, behind, nil, nil, api.ErrForm)
			}
		}
		checkFrame(t, f, some(n), nil, api.OK)
	}
}

// takenText is what the document says of TakeText, by the library's own means.
func takenText(b []byte) (string, []byte, api.Errno) {
	if len(b) < 8 {
		return "", nil, api.ErrForm
	}
	size := binary.BigEndian.Uint64(b)
	if size > uint64(len(b)-8) {
		return "", nil, api.ErrForm
	}
	return string(b[8 : 8+size]), b[8+size:], api.OK
}

// takenFrame is what the document says of TakeFrame, by the library's own means.
func takenFrame(b []byte) ([]byte, []byte, api.Errno) {
	if len(b) < 8 {
		return nil, nil, api.ErrForm
	}
	size := uint64(binary.BigEndian.Uint32(b))
	if size > api.MaxFrame || size > uint64(len(b)-8) {
		return nil, nil, api.ErrForm
	}
	if crc32.ChecksumIEEE(join(b[:4], b[8:8+size])) != binary.BigEndian.Uint32(b[4:]) {
		return nil, nil, api.ErrSum
	}
	return b[8 : 8+size], b[8+size:], api.OK
}

func checkAny(t *testing.T, b []byte) {
	t.Helper()
	if got, want := Sum(b), crc32.ChecksumIEEE(b); got != want {
		t.Errorf("Sum(%x): %x; want %x", b, got, want)
	}
	if len(b) < 8 {
		checkNum(t, b, 0, nil, api.ErrForm)
	} else {
		checkNum(t, b, int64(binary.BigEndian.Uint64(b)), b[8:], api.OK)
	}
	s, behind, e := takenText(b)
	checkText(t, b, s, behind, e)
	p, behind, e := takenFrame(b)
	checkFrame(t, b, p, behind, e)
}

// R1, P2.1 to P2.3: any bytes are answered, and as the document says; most of them are small, so that the numbers fit at times.
func TestAnyBytes(t *testing.T) {
	r := rand.New(rand.NewPCG(1, 2))
	seen := map[api.Errno]int{}
	for range 20000 {
		b := make([]byte, r.IntN(40))
		for i := range b {
			if r.IntN(4) == 0 {
				b[i] = byte(r.IntN(256))
			} else {
				b[i] = byte(r.IntN(8) / 7 * r.IntN(30))
			}
		}
		if r.IntN(3) == 0 && len(b) > 8 {
			f := framed(b[8:])
			f[r.IntN(len(f))] ^= byte(r.IntN(2)) << r.IntN(8)
			b = append(f, b[:r.IntN(9)]...)
		}
		checkAny(t, b)
		_, _, e := TakeFrame(b)
		seen[e]++
	}
	for _, e := range []api.Errno{api.OK, api.ErrForm, api.ErrSum} {
		if seen[e] == 0 {
			t.Errorf("no bytes were answered by %d", e)
		}
	}
}

func FuzzAnyBytes(f *testing.F) {
	for _, b := range [][]byte{nil, make([]byte, 8), framed([]byte("hay")), Text("hay"), Num(lowest), bytes.Repeat([]byte{255}, 9)} {
		f.Add(b)
	}
	f.Fuzz(checkAny)
}

// roomy answers a copy of b with spare room behind it, and all of that memory.
func roomy(b []byte) (handed, all []byte) {
	all = append(slices.Clone(b), bytes.Repeat([]byte{0x5a}, 16)...)
	return all[:len(b)], all
}

// spoil writes over a list that was answered, and over its spare room.
func spoil(b []byte) {
	b = b[:cap(b)]
	for i := range b {
		b[i] ^= 0xff
	}
}

// R3: what is handed in isn't changed, and what is answered shares no memory with it, nor with the other answer.
func TestMemory(t *testing.T) {
	takes := map[string]func([]byte) [][]byte{
		"Sum":       func(b []byte) [][]byte { Sum(b); return nil },
		"TakeNum":   func(b []byte) [][]byte { _, r, _ := TakeNum(b); return [][]byte{r} },
		"TakeText":  func(b []byte) [][]byte { _, r, _ := TakeText(b); return [][]byte{r} },
		"Frame":     func(b []byte) [][]byte { f, _ := Frame(b); return [][]byte{f} },
		"TakeFrame": func(b []byte) [][]byte { p, r, _ := TakeFrame(b); return [][]byte{p, r} },
	}
	for name, take := range takes {
		for _, b := range [][]byte{{}, Num(0), Num(-1), join(Num(3), []byte("haywain")), Text("hay"), join(Text(""), some(3)), framed(nil), join(framed(nil), some(9)), framed([]byte("hay")), join(framed([]byte("hay")), some(9)), some(50)} {
			handed, all := roomy(b)
			before := slices.Clone(all)
			l := take(handed)
			if !bytes.Equal(all, before) {
				t.Errorf("%s(%x) changed what was handed in", name, b)
			}
			want := take(slices.Clone(b))
			spoil(all)
			for i := range l {
				if !bytes.Equal(l[i], want[i]) {
					t.Errorf("%s(%x): answer %d kept what was handed in", name, b, i)
				}
			}
			spoil(all)
			for i := range l {
				spoil(l[i])
				for j := i + 1; j < len(l); j++ {
					if !bytes.Equal(l[j], want[j]) {
						t.Errorf("%s(%x): answers %d and %d share memory", name, b, i, j)
					}
				}
			}
			if !bytes.Equal(all, before) {
				t.Errorf("%s(%x): an answer shares memory with what was handed in", name, b)
			}
		}
	}
}

// R3: a text that was taken doesn't change with the bytes that it was taken from, nor with those behind it.
func TestMemoryOfText(t *testing.T) {
	b := join(Text("hay"), some(5))
	s, behind, _ := TakeText(b)
	spoil(b)
	spoil(behind)
	if s != "hay" {
		t.Errorf("%q", s)
	}
}

// R3: each answer of Num, Text and Frame is memory of its own.
func TestMemoryOfAnswers(t *testing.T) {
	spoil(Num(5))
	spoil(Text("hay"))
	spoil(mustFrame(t, []byte("hay")))
	if !bytes.Equal(Num(5), []byte{0, 0, 0, 0, 0, 0, 0, 5}) || !bytes.Equal(Text("hay"), []byte("\x00\x00\x00\x00\x00\x00\x00\x03hay")) || !bytes.Equal(mustFrame(t, []byte("hay")), framed([]byte("hay"))) {
		t.Error("an answer's memory is used again")
	}
}

// R3, R4: nil and empty lists, and lists with and without spare room, are answered alike.
func TestSameOfSameBytes(t *testing.T) {
	for _, b := range [][]byte{nil, {}, make([]byte, 0, 20), roomyOf(nil)} {
		f, e := Frame(b)
		if Sum(b) != 0 || !bytes.Equal(f, framed(nil)) || e != api.OK {
			t.Errorf("no bytes: %x, %x, %d", Sum(b), f, e)
		}
		checkAny(t, b)
	}
	for _, b := range [][]byte{Num(7), join(Num(20), some(12)), framed(some(30))[:20], framed(some(30))} {
		checkAny(t, b)
		checkAny(t, roomyOf(b))
		checkAny(t, slices.Clip(slices.Clone(b)))
	}
}

func roomyOf(b []byte) []byte {
	handed, _ := roomy(b)
	return handed
}
