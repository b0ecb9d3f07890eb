package disk

import (
	"bytes"
	"fmt"
	"maps"
	"math/rand/v2"
	"slices"
	"sort"
	"strings"
	"testing"

	"haywain/api"
)

const (
	greatest = 1<<63 - 1
	lowest   = -1 << 63
)

// of answers a disk of files.
func of(l ...File) Disk {
	return Disk{l}
}

// file answers a file of a text.
func file(name, text string, safe int) File {
	return File{name, []byte(text), safe}
}

// long answers a text of n bytes, of all values.
func long(n int) string {
	b := make([]byte, n)
	for i := range b {
		b[i] = byte(i*7 + i/256)
	}
	return string(b)
}

// tellBytes answers bytes as a failed test shows them: of many but the first ones.
func tellBytes(b []byte) string {
	if len(b) > 20 {
		return fmt.Sprintf("%q.. of %d bytes", b[:20], len(b))
	}
	return fmt.Sprintf("%q", b)
}

// tell answers a disk as a failed test shows it: of many files but the first ones.
func tell(d Disk) string {
	var s strings.Builder
	for _, f := range d.Files[:min(6, len(d.Files))] {
		fmt.Fprintf(&s, "[%s %s %d]", tellBytes([]byte(f.Name)), tellBytes(f.Data), f.Safe)
	}
	return fmt.Sprintf("disk of %d files%s", len(d.Files), s.String())
}

func sameFile(a, b File) bool {
	return a.Name == b.Name && bytes.Equal(a.Data, b.Data) && a.Safe == b.Safe
}

func same(a, b Disk) bool {
	return slices.EqualFunc(a.Files, b.Files, sameFile)
}

func checkRight(t *testing.T, d Disk, want bool) {
	t.Helper()
	if Right(d) != want {
		t.Errorf("Right(%s): %v; want %v", tell(d), !want, want)
	}
}

func checkGet(t *testing.T, d Disk, name, want string, err api.Errno) {
	t.Helper()
	if got, e := Get(d, name); string(got) != want || e != err {
		t.Errorf("Get(%s, %q): %s, %d; want %s, %d", tell(d), name, tellBytes(got), e, tellBytes([]byte(want)), err)
	}
}

func checkNames(t *testing.T, d Disk, want ...string) {
	t.Helper()
	if got := Names(d); !slices.Equal(got, want) {
		t.Errorf("Names(%s): %q; want %q", tell(d), got, want)
	}
}

func checkDisk(t *testing.T, call string, got Disk, e api.Errno, want Disk, err api.Errno) {
	t.Helper()
	if !same(got, want) || e != err {
		t.Errorf("%s: %s, %d; want %s, %d", call, tell(got), e, tell(want), err)
	}
}

func checkPut(t *testing.T, d Disk, name, text string, want Disk, err api.Errno) {
	t.Helper()
	got, e := Put(d, name, []byte(text))
	checkDisk(t, fmt.Sprintf("Put(%s, %q, %s)", tell(d), name, tellBytes([]byte(text))), got, e, want, err)
}

func checkSync(t *testing.T, d Disk, name string, want Disk, err api.Errno) {
	t.Helper()
	got, e := Sync(d, name)
	checkDisk(t, fmt.Sprintf("Sync(%s, %q)", tell(d), name), got, e, want, err)
}

func checkCut(t *testing.T, d Disk, name string, n int, want Disk, err api.Errno) {
	t.Helper()
	got, e := Cut(d, name, n)
	checkDisk(t, fmt.Sprintf("Cut(%s, %q, %d)", tell(d), name, n), got, e, want, err)
}

func checkDrop(t *testing.T, d Disk, name string, want Disk, err api.Errno) {
	t.Helper()
	got, e := Drop(d, name)
	checkDisk(t, fmt.Sprintf("Drop(%s, %q)", tell(d), name), got, e, want, err)
}

func checkCrash(t *testing.T, d Disk, keep []int, want Disk) {
	t.Helper()
	checkDisk(t, fmt.Sprintf("Crash(%s, %v)", tell(d), keep), Crash(d, keep), api.OK, want, api.OK)
}

// sheet is a file by other means: its bytes are a text that is never written to.
type sheet struct {
	text string
	safe int
}

// shelf is a disk by other means: sheets by their names, in no order.
type shelf map[string]sheet

// names answers the names of a shelf's sheets, rising by bytes.
func (s shelf) names() []string {
	var l []string
	for name := range s {
		l = append(l, name)
	}
	sort.Slice(l, func(i, k int) bool { return bytes.Compare([]byte(l[i]), []byte(l[k])) < 0 })
	return l
}

// disk answers the disk of a shelf.
func (s shelf) disk() Disk {
	var d Disk
	for _, name := range s.names() {
		d.Files = append(d.Files, file(name, s[name].text, s[name].safe))
	}
	return d
}

// shelfOf answers the shelf that a disk's files make; of a disk that isn't right an empty one, and false: such a disk has files that may not be or too many of them, or its shelf's disk is another one, as names fall or stand twice.
func shelfOf(d Disk) (shelf, bool) {
	s := shelf{}
	for _, f := range d.Files {
		if f.Name == "" || len(f.Name) > 16 || len(f.Data) > 20000 || f.Safe < 0 || f.Safe > len(f.Data) {
			return shelf{}, false
		}
		s[f.Name] = sheet{string(f.Data), f.Safe}
	}
	if len(d.Files) > 40 || !same(s.disk(), d) {
		return shelf{}, false
	}
	return s, true
}

// with answers a shelf on which a sheet is another one.
func (s shelf) with(name string, x sheet) shelf {
	now := maps.Clone(s)
	now[name] = x
	return now
}

// put is what the document says of Put.
func (s shelf) put(name, text string) (shelf, api.Errno) {
	if name == "" || len(name) > 16 {
		return s, api.ErrArg
	}
	old, there := s[name]
	if !there && len(s) >= 40 {
		return s, api.ErrFull
	}
	if len(old.text+text) > 20000 {
		return s, api.ErrFull
	}
	return s.with(name, sheet{old.text + text, old.safe}), api.OK
}

// sync is what the document says of Sync.
func (s shelf) sync(name string) (shelf, api.Errno) {
	old, there := s[name]
	if !there {
		return s, api.ErrNone
	}
	return s.with(name, sheet{old.text, len(old.text)}), api.OK
}

// cut is what the document says of Cut.
func (s shelf) cut(name string, n int) (shelf, api.Errno) {
	old, there := s[name]
	if !there {
		return s, api.ErrNone
	}
	if n < 0 || n > len(old.text) {
		return s, api.ErrArg
	}
	return s.with(name, sheet{old.text[:n], n}), api.OK
}

// drop is what the document says of Drop.
func (s shelf) drop(name string) (shelf, api.Errno) {
	if _, there := s[name]; !there {
		return s, api.ErrNone
	}
	now := maps.Clone(s)
	delete(now, name)
	return now, api.OK
}

// crash is what the document says of Crash, byte by byte.
func (s shelf) crash(keep []int) shelf {
	now := shelf{}
	for i, name := range s.names() {
		text, left := s[name].text, s[name].safe
		if i < len(keep) {
			for more := keep[i]; more > 0 && left < len(text); more-- {
				left++
			}
		}
		now[name] = sheet{text[:left], left}
	}
	return now
}

// ask is what calls are asked with.
type ask struct {
	name, text string
	n          int
	keep       []int
}

// ends is how the calls end that may have an error.
type ends struct {
	get, put, sync, cut, drop api.Errno
}

// checkAll: what all calls say of a disk.
func checkAll(t *testing.T, d Disk, a ask) ends {
	t.Helper()
	s, fine := shelfOf(d)
	checkRight(t, d, fine)
	checkNames(t, d, s.names()...)
	var e ends
	x, there := s[a.name]
	if !there {
		e.get = api.ErrNone
	}
	checkGet(t, d, a.name, x.text, e.get)
	var now shelf
	now, e.put = s.put(a.name, a.text)
	checkPut(t, d, a.name, a.text, now.disk(), e.put)
	now, e.sync = s.sync(a.name)
	checkSync(t, d, a.name, now.disk(), e.sync)
	now, e.cut = s.cut(a.name, a.n)
	checkCut(t, d, a.name, a.n, now.disk(), e.cut)
	now, e.drop = s.drop(a.name)
	checkDrop(t, d, a.name, now.disk(), e.drop)
	checkCrash(t, d, a.keep, s.crash(a.keep).disk())
	return e
}

func anyOf[T any](r *rand.Rand, l ...T) T {
	return l[r.IntN(len(l))]
}

// many answers a disk of as many small files as told, their names f00, f01 and so on.
func many(files int) Disk {
	var d Disk
	for i := range files {
		d.Files = append(d.Files, file(fmt.Sprintf("f%02d", i), long(i%5), i%5*(i%3)/2))
	}
	return d
}

// shortNames answers names that are right, rising by bytes: some are beginnings of others, some are no text of runes.
func shortNames() []string {
	return []string{"\x00", "\x00\x00", "\x01", " ", ".", "/", "0", "A", "Z", "a", "a\x00", "a\x00b", "a\x01", "aa", "aaaaaaaaaaaaaaa", "aaaaaaaaaaaaaaaa", "aa\x7f", "aa\x80", "ab", "b",
		"c1", "c10", "c2", "m", "z", "\x7f", "\x80", "\xc3", "\xc3\xa9", "\xfe\xff", "\xff", "\xff\x00", "\xff\xff"}
}

// wrongNames answers names that aren't right.
func wrongNames() []string {
	return []string{"", "aaaaaaaaaaaaaaaaa", "\x00\x00\x00\x00\x00\x00\x00\x00\x00\x00\x00\x00\x00\x00\x00\x00\x00", "\xff\xff\xff\xff\xff\xff\xff\xff\xff\xff\xff\xff\xff\xff\xff\xff\xff",
		"\u00e9\u00e9\u00e9\u00e9\u00e9\u00e9\u00e9\u00e9\u00e9", strings.Repeat("m", 256), strings.Repeat("m", 257), strings.Repeat("z", 70000)}
}

// sizes answers how many bytes files have, at the edges.
func sizes() []int {
	return []int{0, 1, 2, 5, 100, MaxBytes - 1, MaxBytes}
}

// rightDisks answers disks that are right, at the edges.
func rightDisks() []Disk {
	l := []Disk{{}, {[]File{}}}
	for _, files := range []int{1, 2, 3, 39, 40} {
		l = append(l, many(files))
	}
	for _, name := range shortNames() {
		l = append(l, of(File{Name: name}), of(file(name, "hay", 2)))
	}
	for _, size := range sizes() {
		text := long(size)
		for _, safe := range []int{0, min(1, size), size / 2, max(0, size-1), size} {
			l = append(l, of(file("m", text, safe)), of(file("a", "hay", 1), file("m", text, safe), file("z", "", 0)))
		}
	}
	var all Disk
	for i, name := range shortNames() {
		all.Files = append(all.Files, file(name, long(i%4), i%4/2))
	}
	return append(l, all,
		of(file("a", "", 0), file("ab", "x", 1), file("abc", "xy", 1)), of(file("a", "x", 0), file("a\x00", "y", 0)), of(file("aaaaaaaaaaaaaaa", "x", 0), file("aaaaaaaaaaaaaaaa", "y", 1)),
		of(file("Z", "x", 0), file("a", "y", 0)), of(file("c10", "x", 0), file("c9", "y", 0)), of(file("\x7f", "x", 0), file("\x80", "y", 0)), of(file("z", "x", 0), file("\u00e9", "y", 0)))
}

// wrongFiles answers files that may not be, each in another way; where it has another fault than its name, it is called m.
func wrongFiles() []File {
	var l []File
	for _, name := range wrongNames() {
		l = append(l, file(name, "hay", 1), File{Name: name})
	}
	for _, size := range sizes() {
		for _, safe := range []int{lowest, -MaxBytes, -1 << 32, -1, size + 1, size + 2, 1 << 32, greatest} {
			l = append(l, file("m", long(size), safe))
		}
	}
	for _, size := range []int{MaxBytes + 1, MaxBytes + 2, 1 << 16} {
		for _, safe := range []int{-1, 0, 1, MaxBytes, size, size + 1} {
			l = append(l, file("m", long(size), safe))
		}
	}
	return l
}

// wrongOrders answers disks whose names fall, or of which one stands twice.
func wrongOrders() []Disk {
	a, b, c := file("a", "hay", 1), file("b", "corn", 2), file("c", "oats", 3)
	return []Disk{of(b, a), of(c, b, a), of(a, c, b), of(b, a, c), of(a, a), of(a, a, b), of(a, b, b), of(a, b, a), of(a, file("a", "corn", 2)), of(a, file("a", "", 0), b), of(a, b, c, c), of(a, b, c, b),
		of(file("ab", "x", 1), file("a", "y", 1)), of(file("a\x00", "x", 1), file("a", "y", 1)), of(a, file("aa", "x", 1), file("a", "y", 1)), of(file("aaaaaaaaaaaaaaaa", "x", 1), file("aaaaaaaaaaaaaaa", "y", 1)),
		of(a, file("Z", "x", 0)), of(file("c9", "x", 0), file("c10", "y", 0)), of(file("\x80", "x", 0), file("\x7f", "y", 0)), of(file("\xff", "x", 0), file("\x00", "y", 0)), of(file("\u00e9", "x", 0), file("z", "y", 0))}
}

// wrongDisks answers disks that aren't right, each in another way.
func wrongDisks() []Disk {
	l := wrongOrders()
	a, z := file("a", "hay", 1), file("z", "corn", 2)
	for _, f := range wrongFiles() {
		l = append(l, of(f), of(f, z), of(a, f), of(a, f, z))
	}
	for _, files := range []int{41, 42, 80, 99} {
		d := many(files)
		l = append(l, d, of(append([]File{a}, d.Files...)...), of(append([]File{{}}, d.Files...)...))
	}
	last := many(40)
	last.Files[39].Safe = -1
	first := many(40)
	first.Files[0].Safe = 9
	return append(l, last, first, of(File{}), of(File{}, a), of(a, File{}), Disk{make([]File, 40)}, Disk{make([]File, 1000)}, Disk{slices.Repeat([]File{a}, 41)})
}

// numbers answers numbers of bytes at the edges of a file of which some are safe, and others.
func numbers(size, safe int) []int {
	return []int{lowest, lowest + 1, -1 << 32, -MaxBytes, -2, -1, 0, 1, 2, safe - 1, safe, safe + 1, size - safe - 1, size - safe, size - safe + 1, size - 1, size, size + 1,
		MaxBytes - 1, MaxBytes, MaxBytes + 1, 1 << 32, 1<<32 + 1, greatest - MaxBytes, greatest - 1, greatest}
}

// The chapter's example, and what the shared document says of it.
func TestExamples(t *testing.T) {
	d, err := Put(Disk{}, "a", []byte("xy"))
	checkDisk(t, "Put", d, err, of(file("a", "xy", 0)), api.OK)
	d, err = Sync(d, "a")
	checkDisk(t, "Sync", d, err, of(file("a", "xy", 2)), api.OK)
	d, err = Put(d, "a", []byte("zw"))
	checkDisk(t, "Put", d, err, of(file("a", "xyzw", 2)), api.OK)
	checkGet(t, d, "a", "xyzw", api.OK)
	checkCrash(t, d, []int{1}, of(file("a", "xyz", 3)))
	checkCrash(t, d, nil, of(file("a", "xy", 2)))
}

func TestMaxBytes(t *testing.T) {
	if MaxBytes != 20000 {
		t.Errorf("MaxBytes: %d", MaxBytes)
	}
}

// P13.1: disks at the edges.
func TestRight(t *testing.T) {
	for _, d := range rightDisks() {
		checkRight(t, d, true)
	}
	for _, d := range wrongDisks() {
		checkRight(t, d, false)
	}
	for files := range 50 {
		checkRight(t, many(files), files <= api.MaxFiles)
	}
	for size := range 40 {
		checkRight(t, of(file(long(size), "x", 0)), size >= 1 && size <= api.MaxName)
	}
	for size := MaxBytes - 3; size <= MaxBytes+3; size++ {
		checkRight(t, of(file("a", long(size), 0)), size <= MaxBytes)
		checkRight(t, of(file("a", long(size), size)), size <= MaxBytes)
	}
	for safe := -3; safe <= 10; safe++ {
		checkRight(t, of(file("a", "hay", safe)), safe >= 0 && safe <= 3)
		checkRight(t, of(file("a", "", safe)), safe == 0)
	}
}

// P13.1: each fault at each place of a disk, with others ahead and behind.
func TestRightPlaces(t *testing.T) {
	for place := range api.MaxFiles {
		for _, f := range wrongFiles() {
			d := many(api.MaxFiles)
			if f.Name == "m" {
				f.Name = d.Files[place].Name
			}
			d.Files[place] = f
			checkRight(t, d, false)
		}
		for i := range api.MaxFiles {
			d := many(api.MaxFiles)
			d.Files[place].Name = fmt.Sprintf("f%02d", i)
			checkRight(t, d, i == place)
			d.Files[place].Name += "+"
			checkRight(t, d, i == place || i == place-1)
		}
	}
}

// P13.1: bytes of any value in names, and what is less by bytes.
func TestRightNames(t *testing.T) {
	for a := range 256 {
		for b := range 256 {
			one, other := string([]byte{byte(a)}), string([]byte{byte(b)})
			checkRight(t, of(File{Name: one}, File{Name: other}), a < b)
			checkRight(t, of(File{Name: "x" + one + "y"}, File{Name: "x" + other}), a < b)
			checkRight(t, of(File{Name: one + other}, File{Name: one}), false)
			checkRight(t, of(File{Name: one}, File{Name: one + other}), true)
		}
	}
	for i, one := range shortNames() {
		for k, other := range shortNames() {
			checkRight(t, of(file(one, "x", 0), file(other, "y", 0)), i < k)
		}
	}
}

// P13.1: the files that are there, with all their bytes, and those that aren't.
func TestGetAndNames(t *testing.T) {
	for _, d := range rightDisks() {
		var names []string
		is := map[string]string{}
		for _, f := range d.Files {
			names = append(names, f.Name)
			is[f.Name] = string(f.Data)
		}
		checkNames(t, d, names...)
		for _, name := range slices.Concat(shortNames(), wrongNames(), []string{"f00", "f000", "f0", "f", "f39", "f40", "abc", "abcd"}) {
			text, there := is[name]
			err := api.OK
			if !there {
				err = api.ErrNone
			}
			checkGet(t, d, name, text, err)
		}
	}
	d := of(file("a", "", 0), file("ab", "hay", 0), file("abc", "corn", 4))
	checkNames(t, d, "a", "ab", "abc")
	checkGet(t, d, "a", "", api.OK)
	checkGet(t, d, "ab", "hay", api.OK)
	checkGet(t, d, "abc", "corn", api.OK)
	checkGet(t, d, "abcd", "", api.ErrNone)
	checkGet(t, d, "", "", api.ErrNone)
	checkGet(t, d, "b", "", api.ErrNone)
}

// P13.1 to P13.3: of a disk that isn't right all calls say what they say of the one without files, whatever is on it.
func TestWrongDisks(t *testing.T) {
	for _, d := range wrongDisks() {
		checkNames(t, d)
		for _, keep := range [][]int{nil, {0}, {9, 9, 9}, {greatest, greatest}} {
			checkCrash(t, d, keep, Disk{})
		}
		for _, name := range []string{"", "a", "b", "m", "z", "f00", "f39", "aaaaaaaaaaaaaaaa", "aaaaaaaaaaaaaaaaa"} {
			checkGet(t, d, name, "", api.ErrNone)
			checkSync(t, d, name, Disk{}, api.ErrNone)
			checkDrop(t, d, name, Disk{}, api.ErrNone)
			for _, n := range []int{-1, 0, 1, 3, 4} {
				checkCut(t, d, name, n, Disk{}, api.ErrNone)
			}
			if name == "" || len(name) > 16 {
				checkPut(t, d, name, "hay", Disk{}, api.ErrArg)
				continue
			}
			checkPut(t, d, name, "hay", of(file(name, "hay", 0)), api.OK)
			checkPut(t, d, name, "", of(file(name, "", 0)), api.OK)
		}
		checkPut(t, d, "m", long(MaxBytes), of(file("m", long(MaxBytes), 0)), api.OK)
		checkPut(t, d, "m", long(MaxBytes+1), Disk{}, api.ErrFull)
	}
}

// P13.2: a file that comes ahead of all others, between two, and behind all; of no bytes, of some, and of as many as may be.
func TestPutPlaces(t *testing.T) {
	b, d, f := file("b", "hay", 1), file("d", "", 0), file("f", "corn", 4)
	for _, size := range []int{0, 1, 9, MaxBytes - 1, MaxBytes} {
		x := func(name string) File { return file(name, long(size), 0) }
		for _, name := range shortNames() {
			checkPut(t, Disk{}, name, long(size), of(x(name)), api.OK)
		}
		for _, name := range []string{"\x00", "A", "a", "a\xff", "az"} {
			checkPut(t, of(b, d, f), name, long(size), of(x(name), b, d, f), api.OK)
		}
		for _, name := range []string{"b\x00", "ba", "bbbbbbbbbbbbbbbb", "c", "c\xff"} {
			checkPut(t, of(b, d, f), name, long(size), of(b, x(name), d, f), api.OK)
		}
		for _, name := range []string{"d\x00", "dd", "e"} {
			checkPut(t, of(b, d, f), name, long(size), of(b, d, x(name), f), api.OK)
		}
		for _, name := range []string{"f\x00", "ff", "g", "z", "\x80", "\xff\xff"} {
			checkPut(t, of(b, d, f), name, long(size), of(b, d, f, x(name)), api.OK)
		}
	}
}

// P13.2: bytes behind a file's end, up to just as many as may be, and beyond; how many of them are safe stays.
func TestPutBehind(t *testing.T) {
	a, z := file("a", "hay", 1), file("z", "corn", 2)
	for _, had := range sizes() {
		for _, safe := range []int{0, had / 2, had} {
			d := of(a, file("m", long(had), safe), z)
			for _, size := range []int{0, 1, 2, 9, MaxBytes - had - 1, MaxBytes - had} {
				if size < 0 || had+size > MaxBytes {
					continue
				}
				text := strings.Repeat("\xff", size)
				checkPut(t, d, "m", text, of(a, file("m", long(had)+text, safe), z), api.OK)
			}
			for _, size := range []int{MaxBytes - had + 1, MaxBytes - had + 2, MaxBytes + 1, 1 << 16, 1<<16 + 1} {
				checkPut(t, d, "m", long(size), d, api.ErrFull)
			}
		}
	}
	for _, size := range []int{MaxBytes + 1, MaxBytes + 2, 1 << 16, 1<<16 + 1} {
		checkPut(t, Disk{}, "m", long(size), Disk{}, api.ErrFull)
		checkPut(t, of(a, z), "m", long(size), of(a, z), api.ErrFull)
	}
}

// P13.2: a disk with as many files as may be takes no other one, even of no bytes, but what comes to one of its own.
func TestPutFull(t *testing.T) {
	full := many(api.MaxFiles)
	for _, text := range []string{"", "x", long(100), long(MaxBytes), long(MaxBytes + 1)} {
		for _, name := range shortNames() {
			checkPut(t, full, name, text, full, api.ErrFull)
		}
		for _, name := range []string{"f", "f0", "f000", "f00\x00", "f17 ", "f39\x00", "f40", "e", "g"} {
			checkPut(t, full, name, text, full, api.ErrFull)
		}
	}
	for i := range full.Files {
		for _, size := range []int{0, 1, 9, MaxBytes - i%5} {
			want := many(api.MaxFiles)
			want.Files[i].Data = append(want.Files[i].Data, long(size)...)
			checkPut(t, full, full.Files[i].Name, long(size), want, api.OK)
		}
		checkPut(t, full, full.Files[i].Name, long(MaxBytes-i%5+1), full, api.ErrFull)
		room := of(slices.Delete(many(api.MaxFiles).Files, i, i+1)...)
		want := many(api.MaxFiles)
		want.Files[i] = File{Name: want.Files[i].Name}
		checkPut(t, room, want.Files[i].Name, "", want, api.OK)
		checkPut(t, room, want.Files[i].Name, long(MaxBytes+1), room, api.ErrFull)
	}
}

// P13.2: that a name isn't right is told ahead of all else.
func TestPutWrong(t *testing.T) {
	for _, d := range []Disk{{}, many(1), many(api.MaxFiles - 1), many(api.MaxFiles), of(file("m", long(MaxBytes), 7))} {
		for _, name := range wrongNames() {
			for _, text := range []string{"", "hay", long(MaxBytes), long(MaxBytes + 1)} {
				checkPut(t, d, name, text, d, api.ErrArg)
			}
		}
	}
	for size := range 40 {
		name := strings.Repeat("\xff", size)
		if size >= 1 && size <= api.MaxName {
			checkPut(t, Disk{}, name, "hay", of(file(name, "hay", 0)), api.OK)
		} else {
			checkPut(t, Disk{}, name, "hay", Disk{}, api.ErrArg)
		}
	}
}

// P13.2: all of a file is safe, of whatever size it is and wherever it stands; the others stay.
func TestSync(t *testing.T) {
	a, z := file("a", "hay", 1), file("z", "corn", 2)
	for _, size := range sizes() {
		for _, safe := range []int{0, size / 2, max(0, size-1), size} {
			before, behind := file("m", long(size), safe), file("m", long(size), size)
			checkSync(t, of(before), "m", of(behind), api.OK)
			checkSync(t, of(a, before, z), "m", of(a, behind, z), api.OK)
		}
	}
	for _, files := range []int{1, 2, 7, api.MaxFiles} {
		for i := range files {
			want := many(files)
			want.Files[i].Safe = i % 5
			checkSync(t, many(files), want.Files[i].Name, want, api.OK)
		}
	}
}

// P13.2: what a file is cut to is all safe, also of what wasn't, and none is more than all; the others stay.
func TestCut(t *testing.T) {
	a, z := file("a", "hay", 1), file("z", "corn", 2)
	for _, size := range sizes() {
		for _, safe := range []int{0, size / 2, max(0, size-1), size} {
			x := file("m", long(size), safe)
			for _, n := range numbers(size, safe) {
				if n < 0 || n > size {
					checkCut(t, of(x), "m", n, of(x), api.ErrArg)
					checkCut(t, of(a, x, z), "m", n, of(a, x, z), api.ErrArg)
					continue
				}
				y := file("m", long(size)[:n], n)
				checkCut(t, of(x), "m", n, of(y), api.OK)
				checkCut(t, of(a, x, z), "m", n, of(a, y, z), api.OK)
			}
		}
	}
	d := of(file("a", "haywain", 5))
	checkCut(t, d, "a", -1, d, api.ErrArg)
	checkCut(t, d, "a", 0, of(file("a", "", 0)), api.OK)
	checkCut(t, d, "a", 3, of(file("a", "hay", 3)), api.OK)
	checkCut(t, d, "a", 6, of(file("a", "haywai", 6)), api.OK)
	checkCut(t, d, "a", 7, of(file("a", "haywain", 7)), api.OK)
	checkCut(t, d, "a", 8, d, api.ErrArg)
}

// P13.2: each file of disks of each size is no more, the last one too.
func TestDrop(t *testing.T) {
	for _, files := range []int{1, 2, 3, 7, api.MaxFiles - 1, api.MaxFiles} {
		for i := range files {
			d := many(files)
			checkDrop(t, d, d.Files[i].Name, of(slices.Delete(many(files).Files, i, i+1)...), api.OK)
		}
	}
	checkDrop(t, of(file("m", long(MaxBytes), MaxBytes)), "m", Disk{}, api.OK)
}

// P13.2: what isn't there is told ahead of all else, whatever the name is, and the disk stays.
func TestNone(t *testing.T) {
	names := slices.Concat(wrongNames(), []string{"\x00", "a", "e", "f", "f0", "f00\x00", "f0\xff", "f10 ", "f40", "f99", "g", "\xff"})
	for _, files := range []int{0, 1, 2, 7, 39, 40} {
		d := many(files)
		for _, name := range names {
			checkGet(t, d, name, "", api.ErrNone)
			checkSync(t, d, name, d, api.ErrNone)
			checkDrop(t, d, name, d, api.ErrNone)
			for _, n := range numbers(3, 1) {
				checkCut(t, d, name, n, d, api.ErrNone)
			}
		}
	}
}

// P13.3: of one file what is safe is left, and as much of the other bytes as is kept; all of it is safe.
func TestCrashOne(t *testing.T) {
	for _, size := range sizes() {
		for _, safe := range []int{0, min(1, size), size / 2, max(0, size-1), size} {
			d := of(file("m", long(size), safe))
			checkCrash(t, d, nil, of(file("m", long(size)[:safe], safe)))
			for _, keep := range numbers(size, safe) {
				left := safe
				if keep > 0 {
					left += min(keep, size-safe)
				}
				checkCrash(t, d, []int{keep}, of(file("m", long(size)[:left], left)))
				checkCrash(t, d, []int{keep, 1, greatest}, of(file("m", long(size)[:left], left)))
			}
		}
	}
	d := of(file("a", "haywain", 3))
	checkCrash(t, d, []int{-1}, of(file("a", "hay", 3)))
	checkCrash(t, d, []int{0}, of(file("a", "hay", 3)))
	checkCrash(t, d, []int{1}, of(file("a", "hayw", 4)))
	checkCrash(t, d, []int{3}, of(file("a", "haywai", 6)))
	checkCrash(t, d, []int{4}, of(file("a", "haywain", 7)))
	checkCrash(t, d, []int{5}, of(file("a", "haywain", 7)))
}

// P13.3: of several files each is kept what its own number says; less numbers than files, and more.
func TestCrashMany(t *testing.T) {
	d := of(file("a", "hay", 1), file("b", "corn", 4), file("c", "oats", 0), file("d", "", 0), file("e", "straw", 2))
	checkCrash(t, d, nil, of(file("a", "h", 1), file("b", "corn", 4), file("c", "", 0), file("d", "", 0), file("e", "st", 2)))
	checkCrash(t, d, []int{1}, of(file("a", "ha", 2), file("b", "corn", 4), file("c", "", 0), file("d", "", 0), file("e", "st", 2)))
	checkCrash(t, d, []int{2, 2}, of(file("a", "hay", 3), file("b", "corn", 4), file("c", "", 0), file("d", "", 0), file("e", "st", 2)))
	checkCrash(t, d, []int{-1, 9, 3}, of(file("a", "h", 1), file("b", "corn", 4), file("c", "oat", 3), file("d", "", 0), file("e", "st", 2)))
	checkCrash(t, d, []int{0, 0, 0, 7, 1}, of(file("a", "h", 1), file("b", "corn", 4), file("c", "", 0), file("d", "", 0), file("e", "str", 3)))
	checkCrash(t, d, []int{9, 9, 9, 9, 9, 9, 9}, of(file("a", "hay", 3), file("b", "corn", 4), file("c", "oats", 4), file("d", "", 0), file("e", "straw", 5)))
	checkCrash(t, Disk{}, nil, Disk{})
	checkCrash(t, Disk{}, []int{1, 2, 3}, Disk{})
	r := rand.New(rand.NewPCG(13, 1))
	for _, d := range rightDisks() {
		s, _ := shelfOf(d)
		for numbered := range len(d.Files) + 3 {
			keep := make([]int, numbered)
			for i := range keep {
				keep[i] = anyOf(r, lowest, -1, 0, 1, 2, 3, 4, MaxBytes, greatest)
			}
			checkCrash(t, d, keep, s.crash(keep).disk())
		}
	}
}

// P13.3: behind a crash all that is left is safe, so a second one changes nothing.
func TestCrashTwice(t *testing.T) {
	for _, d := range rightDisks() {
		for _, keep := range [][]int{nil, {1}, {0, 2, 1}, slices.Repeat([]int{1}, 50), slices.Repeat([]int{greatest}, 50)} {
			once := Crash(d, keep)
			for _, f := range once.Files {
				if f.Safe != len(f.Data) {
					t.Errorf("Crash(%s, %v): %s", tell(d), keep, tell(once))
				}
			}
			checkCrash(t, once, nil, once)
			checkCrash(t, once, keep, once)
		}
	}
}

// P13.1 to P13.3: all calls of all disks at the edges, with names of files that are there and of others.
func TestEdges(t *testing.T) {
	for _, d := range append(rightDisks(), wrongDisks()...) {
		names := []string{"", "a", "m", "zz"}
		if len(d.Files) > 0 {
			names = append(names, d.Files[0].Name, d.Files[len(d.Files)-1].Name, d.Files[len(d.Files)/2].Name+"\x00")
		}
		for _, name := range names {
			for _, n := range []int{-1, 0, 1, 3} {
				checkAll(t, d, ask{name, long(n + 1), n, []int{n, 2}})
			}
		}
	}
}

// drawnName answers a name: mostly one of few, so that it is often there.
func drawnName(r *rand.Rand) string {
	switch r.IntN(20) {
	case 0:
		return anyOf(r, wrongNames()...)
	case 1, 2, 3, 4:
		return anyOf(r, shortNames()...)
	case 5:
		b := make([]byte, 1+r.IntN(16))
		for i := range b {
			b[i] = byte(r.IntN(256))
		}
		return string(b)
	}
	return anyOf(r, "a", "ab", "c1", "c2", "m")
}

// drawnText answers bytes: mostly few.
func drawnText(r *rand.Rand) string {
	if r.IntN(40) == 0 {
		return long(anyOf(r, 5000, 9999, 10000, 10001, MaxBytes-1, MaxBytes, MaxBytes+1))
	}
	text := long(600)
	from := r.IntN(500)
	return text[from : from+r.IntN(anyOf(r, 1, 5, 90))]
}

// drawnKeep answers what a crash keeps.
func drawnKeep(r *rand.Rand) []int {
	keep := make([]int, anyOf(r, 0, 1, 3, r.IntN(50)))
	for i := range keep {
		keep[i] = anyOf(r, lowest, -1, 0, 1, 2, r.IntN(10), r.IntN(100), MaxBytes, greatest)
	}
	return keep
}

// drawnDisk answers a disk that is right.
func drawnDisk(r *rand.Rand) Disk {
	s := shelf{}
	if r.IntN(4) == 0 {
		s, _ = shelfOf(many(anyOf(r, 36, 38, 39, 40)))
	}
	for range r.IntN(anyOf(r, 1, 3, 9)) {
		text := drawnText(r)
		if len(text) > 600 && len(s) > 5 {
			continue
		}
		if now, err := s.put(drawnName(r), text); err == api.OK {
			s = now
		}
	}
	for name, x := range s {
		s[name] = sheet{x.text, anyOf(r, 0, len(x.text)/2, len(x.text), r.IntN(len(x.text)+1))}
	}
	return s.disk()
}

// drawnNumber answers a number for a file that is perhaps there.
func drawnNumber(r *rand.Rand, d Disk, name string) int {
	for _, f := range d.Files {
		if f.Name == name && r.IntN(5) > 0 {
			return anyOf(r, -1, 0, f.Safe, len(f.Data)-1, len(f.Data), len(f.Data)+1, r.IntN(len(f.Data)+1))
		}
	}
	return anyOf(r, lowest, -1, 0, 1, 2, r.IntN(100), greatest)
}

// count is how often which error was told.
type count [api.ErrStale + 1]int

// checkOften: of what is drawn, does a call end often in each of these ways?
func checkOften(t *testing.T, call string, c count, often int, ends ...api.Errno) {
	t.Helper()
	for _, err := range ends {
		if c[err] < often {
			t.Errorf("%s ends with %d but %d times: %v", call, err, c[err], c)
		}
	}
}

// P13.1 to P13.3: disks that are drawn, asked of files that are there and of others.
func TestDrawn(t *testing.T) {
	r := rand.New(rand.NewPCG(13, 2))
	var gets, puts, syncs, cuts, drops count
	for range 8000 {
		d := drawnDisk(r)
		name := drawnName(r)
		if len(d.Files) > 0 && r.IntN(4) == 0 {
			name = anyOf(r, d.Files...).Name
		}
		e := checkAll(t, d, ask{name, drawnText(r), drawnNumber(r, d, name), drawnKeep(r)})
		gets[e.get]++
		puts[e.put]++
		syncs[e.sync]++
		cuts[e.cut]++
		drops[e.drop]++
		if t.Failed() {
			t.FailNow()
		}
	}
	checkOften(t, "Get", gets, 200, api.OK, api.ErrNone)
	checkOften(t, "Put", puts, 200, api.OK, api.ErrArg, api.ErrFull)
	checkOften(t, "Sync", syncs, 200, api.OK, api.ErrNone)
	checkOften(t, "Cut", cuts, 200, api.OK, api.ErrNone, api.ErrArg)
	checkOften(t, "Drop", drops, 200, api.OK, api.ErrNone)
}

// deed is one thing that may be done to a disk.
type deed struct {
	call string
	ask
}

// String answers a deed as a failed test shows it.
func (x deed) String() string {
	return fmt.Sprintf("%s(%s, %s, %d, %v)", x.call, tellBytes([]byte(x.name)), tellBytes([]byte(x.text)), x.n, x.keep)
}

// do does a deed.
func (x deed) do(d Disk) (Disk, api.Errno) {
	switch x.call {
	case "Put":
		return Put(d, x.name, []byte(x.text))
	case "Sync":
		return Sync(d, x.name)
	case "Cut":
		return Cut(d, x.name, x.n)
	case "Drop":
		return Drop(d, x.name)
	}
	return Crash(d, x.keep), api.OK
}

// done is a deed, how it ended, and the disks ahead of it and behind it.
type done struct {
	deed
	before, after Disk
	err           api.Errno
}

// row answers deeds that are drawn and done to a disk, one behind the other.
func row(r *rand.Rand, d Disk, deeds int) []done {
	var l []done
	for range deeds {
		name := drawnName(r)
		if len(d.Files) > 0 && r.IntN(3) == 0 {
			name = anyOf(r, d.Files...).Name
		}
		call := anyOf(r, "Put", "Put", "Put", "Put", "Sync", "Sync", "Cut", "Drop", "Crash")
		x := deed{call, ask{name, drawnText(r), drawnNumber(r, d, name), drawnKeep(r)}}
		now, err := x.do(d)
		l = append(l, done{x, d, now, err})
		d = now
	}
	return l
}

// rows calls a function with rows of deeds that are drawn: some begin with an empty disk, some with a full one, some with one that isn't right.
func rows(t *testing.T, draw uint64, f func([]done)) {
	t.Helper()
	r := rand.New(rand.NewPCG(13, draw))
	wrong := wrongDisks()
	var c count
	for i := range 300 {
		var d Disk
		switch i % 3 {
		case 1:
			d = drawnDisk(r)
		case 2:
			d = anyOf(r, many(39), many(40), anyOf(r, wrong...))
		}
		l := row(r, d, 60)
		for _, x := range l {
			c[x.err]++
		}
		f(l)
		if t.Failed() {
			t.FailNow()
		}
	}
	checkOften(t, "what is done", c, 100, api.OK, api.ErrArg, api.ErrFull, api.ErrNone)
}

// P13.1 to P13.3: what is done, one behind the other, is what the document says.
func TestRows(t *testing.T) {
	rows(t, 3, func(l []done) {
		s, _ := shelfOf(l[0].before)
		for i, x := range l {
			err := api.OK
			switch x.call {
			case "Put":
				s, err = s.put(x.name, x.text)
			case "Sync":
				s, err = s.sync(x.name)
			case "Cut":
				s, err = s.cut(x.name, x.n)
			case "Drop":
				s, err = s.drop(x.name)
			case "Crash":
				s = s.crash(x.keep)
			}
			checkDisk(t, fmt.Sprintf("the row's place %d: %v of %s", i, x.deed, tell(x.before)), x.after, x.err, s.disk(), err)
		}
	})
}

// past is what became of a file: all that it has, and what of it was synced.
type past struct {
	all, synced string
}

// follow brings what became of files on by a deed that was no crash and had no error.
func follow(of map[string]past, x done) {
	all := of[x.name].all
	switch x.call {
	case "Put":
		of[x.name] = past{all + x.text, of[x.name].synced}
	case "Sync":
		of[x.name] = past{all, all}
	case "Cut":
		of[x.name] = past{all[:x.n], all[:x.n]}
	case "Drop":
		delete(of, x.name)
	}
}

// checkLeft: P13.4 of a disk behind a crash; it answers of how many files something that wasn't synced is left, but not all.
func checkLeft(t *testing.T, of map[string]past, d Disk) int {
	t.Helper()
	if len(Names(d)) != len(of) {
		t.Errorf("behind a crash there are %q; there were %q", Names(d), slices.Sorted(maps.Keys(of)))
	}
	some := 0
	for name, x := range of {
		got, err := Get(d, name)
		left := string(got)
		if err != api.OK || !strings.HasPrefix(left, x.synced) || !strings.HasPrefix(x.all, left) {
			t.Errorf("%q: %s is left, %d; it had %s, of which %d bytes were synced", name, tellBytes(got), err, tellBytes([]byte(x.all)), len(x.synced))
		}
		if len(left) > len(x.synced) && len(left) < len(x.all) {
			some++
		}
	}
	return some
}

// P13.4: what was synced is there behind any crash, those of the row and others at each of its places, with a beginning of what was put behind it.
func TestSyncedStays(t *testing.T) {
	r := rand.New(rand.NewPCG(13, 4))
	some := 0
	rows(t, 5, func(l []done) {
		of := map[string]past{}
		s, _ := shelfOf(l[0].before)
		for name, x := range s {
			of[name] = past{x.text, x.text[:x.safe]}
		}
		for _, x := range l {
			if x.call == "Crash" {
				some += checkLeft(t, of, x.after)
				for name := range of {
					left, _ := Get(x.after, name)
					of[name] = past{string(left), string(left)}
				}
			} else if x.err == api.OK {
				follow(of, x)
			}
			some += checkLeft(t, of, Crash(x.after, drawnKeep(r)))
			checkLeft(t, of, Crash(x.after, nil))
			checkLeft(t, of, Crash(x.after, slices.Repeat([]int{greatest}, 50)))
		}
	})
	if some < 1000 {
		t.Errorf("some bytes that weren't synced are left %d times", some)
	}
}

// others answers the files of a disk but one.
func others(d Disk, name string) Disk {
	return of(slices.DeleteFunc(slices.Clone(d.Files), func(f File) bool { return f.Name == name })...)
}

// P13.5: what is refused changes nothing; what is done to one file changes no other one.
func TestOthersStay(t *testing.T) {
	refused, among := 0, 0
	rows(t, 6, func(l []done) {
		for _, x := range l {
			before := x.before
			if !Right(before) {
				before = Disk{}
			}
			if x.err != api.OK {
				refused++
				if !same(x.after, before) {
					t.Errorf("%v is refused with %d: %s became %s", x.deed, x.err, tell(before), tell(x.after))
				}
			}
			if x.call == "Crash" {
				continue
			}
			if len(before.Files) > 2 && x.err == api.OK {
				among++
			}
			if !same(others(x.after, x.name), others(before, x.name)) {
				t.Errorf("%v: %s became %s", x.deed, tell(before), tell(x.after))
			}
		}
	})
	if refused < 1000 || among < 1000 {
		t.Errorf("%d times something is refused, %d times done to one among others", refused, among)
	}
}

// P13.6: a disk stays right, whatever is done, and one that isn't right becomes so.
func TestStaysRight(t *testing.T) {
	full, great := 0, 0
	rows(t, 7, func(l []done) {
		for _, x := range l {
			checkRight(t, x.after, true)
			if len(x.after.Files) == api.MaxFiles {
				full++
			}
			if slices.ContainsFunc(x.after.Files, func(f File) bool { return len(f.Data) > MaxBytes-200 }) {
				great++
			}
		}
	})
	if full < 100 || great < 100 {
		t.Errorf("a disk is full %d times, a file on it %d times, or nearly so", full, great)
	}
}

// roomy answers a disk in lists that have spare room, with something in it.
func roomy(d Disk) Disk {
	files := make([]File, 0, len(d.Files)+3)
	for _, f := range d.Files {
		data := append(make([]byte, 0, len(f.Data)+9), f.Data...)
		copy(data[len(data):cap(data)], "spareroom")
		files = append(files, File{f.Name, data, f.Safe})
	}
	for i := range files[len(files):cap(files)] {
		files[:cap(files)][len(files)+i] = file(fmt.Sprintf("~%d", i), "spare", 3)
	}
	return Disk{files}
}

// whole answers all that is in a disk's lists, in their spare room too.
func whole(d Disk) string {
	var s strings.Builder
	for _, f := range d.Files[:cap(d.Files)] {
		fmt.Fprintf(&s, "%q %d %d\n%s\n", f.Name, f.Safe, len(f.Data), f.Data[:cap(f.Data)])
	}
	return s.String()
}

// spoil writes over a list, and over its spare room.
func spoil[T any](l []T, by T) {
	l = l[:cap(l)]
	for i := range l {
		l[i] = by
	}
}

// spoilDisk writes over all that is in a disk's lists.
func spoilDisk(d Disk, by byte) {
	for _, f := range d.Files[:cap(d.Files)] {
		spoil(f.Data, by)
	}
	spoil(d.Files, File{string(by), nil, int(by)})
}

// checkApart: R3 of a call that answers a disk, or bytes as a disk's file: what is handed in stays as it was, and shares nothing with what is answered; nor does a second answer.
func checkApart(t *testing.T, what string, call func(d Disk, b []byte, keep []int) Disk, d Disk, text string, keep []int) {
	t.Helper()
	d = roomy(d)
	b := roomy(of(file("b", text, 0))).Files[0].Data
	keeps := append(slices.Clone(keep), 5, 5, 5)
	keep = keeps[:len(keep)]
	before, bytesBefore, keepsBefore := whole(d), string(b[:cap(b)]), slices.Clone(keeps)
	unchanged := func(when string) {
		t.Helper()
		if whole(d) != before || string(b[:cap(b)]) != bytesBefore || !slices.Equal(keeps, keepsBefore) {
			t.Fatalf("%s %s: %s, %q, %v changed", what, when, tell(d), text, keeps)
		}
	}
	first, second := call(d, b, keep), call(d, b, keep)
	unchanged("by the call")
	want := whole(second)
	if whole(first) != want {
		t.Fatalf("%s of %s: %s, the second time %s", what, tell(d), tell(first), tell(second))
	}
	spoilDisk(first, '#')
	unchanged("with what was answered")
	spoilDisk(d, '!')
	spoil(b, '!')
	spoil(keeps, 1000)
	if whole(second) != want {
		t.Fatalf("%s: the answer became %s with what was handed in", what, tell(second))
	}
	checkLists(t, what, second)
}

// checkLists: R3: no two lists of one answer share any memory, those in its spare room among them.
func checkLists(t *testing.T, what string, d Disk) {
	t.Helper()
	files := d.Files[:cap(d.Files)]
	for i := range files {
		spoil(files[i].Data, byte(i))
	}
	for i, f := range files {
		if slices.ContainsFunc(f.Data[:cap(f.Data)], func(x byte) bool { return x != byte(i) }) {
			t.Fatalf("%s: the file %d of %s shares its bytes with another one", what, i, tell(d))
		}
	}
}

// R3: what is handed in stays as it was, its spare room too; what is answered shares no memory with it, nor with other answers, also where it is the disk as it was.
func TestMemory(t *testing.T) {
	r := rand.New(rand.NewPCG(13, 8))
	disks := append(rightDisks(), wrongDisks()...)
	for range 300 {
		disks = append(disks, drawnDisk(r))
	}
	for _, d := range disks {
		names := []string{"", "a", "m"}
		if len(d.Files) > 0 {
			names = append(names, anyOf(r, d.Files...).Name, d.Files[len(d.Files)-1].Name)
		}
		for _, name := range names {
			text, n, keep := anyOf(r, "", "x", long(30), drawnText(r)), drawnNumber(r, d, name), drawnKeep(r)
			apart := func(what string, call func(d Disk, b []byte, keep []int) Disk) {
				t.Helper()
				checkApart(t, what, call, d, text, keep)
			}
			apart("Put", func(d Disk, b []byte, _ []int) Disk { d, _ = Put(d, name, b); return d })
			apart("Sync", func(d Disk, _ []byte, _ []int) Disk { d, _ = Sync(d, name); return d })
			apart("Cut", func(d Disk, _ []byte, _ []int) Disk { d, _ = Cut(d, name, n); return d })
			apart("Drop", func(d Disk, _ []byte, _ []int) Disk { d, _ = Drop(d, name); return d })
			apart("Crash", func(d Disk, _ []byte, keep []int) Disk { return Crash(d, keep) })
			apart("Get", func(d Disk, _ []byte, _ []int) Disk { b, _ := Get(d, name); return of(File{Data: b}) })
			apart("Right", func(d Disk, _ []byte, _ []int) Disk { Right(d); return Disk{} })
			apart("Names", func(d Disk, _ []byte, _ []int) Disk { spoil(Names(d), "#"); return Disk{} })
		}
	}
}

// R3: a file's own bytes, put behind it or to another file.
func TestPutOwnBytes(t *testing.T) {
	d := roomy(of(file("a", "hay", 1), file("b", "corn", 2)))
	for i := range d.Files {
		own := d.Files[i].Data
		got, err := Put(d, "a", own)
		checkDisk(t, "Put", got, err, of(file("a", "hay"+string(own), 1), file("b", "corn", 2)), api.OK)
		got, err = Put(d, "c", own)
		checkDisk(t, "Put", got, err, of(file("a", "hay", 1), file("b", "corn", 2), file("c", string(own), 0)), api.OK)
		checkLists(t, "Put", got)
	}
	// Two files, one behind the other in one list.
	both := []byte("haycorn")
	shared := of(File{"a", both[:3], 1}, File{"b", both[3:], 2})
	got, err := Put(shared, "a", []byte("!!"))
	checkDisk(t, "Put", got, err, of(file("a", "hay!!", 1), file("b", "corn", 2)), api.OK)
	checkDisk(t, "Crash", Crash(shared, []int{1, 9}), api.OK, of(file("a", "ha", 2), file("b", "corn", 4)), api.OK)
	checkLists(t, "Crash", Crash(shared, []int{1, 9}))
	if string(both) != "haycorn" {
		t.Errorf("it became %q", both)
	}
}

// Ways, the third index: what a crash or a cut takes away isn't to be found behind what is left.
func TestLostForGood(t *testing.T) {
	for _, size := range sizes() {
		d := of(file("m", strings.Repeat("x", size), size/3))
		for _, n := range []int{0, size / 3, size / 2, max(0, size-1), size} {
			cut, err := Cut(d, "m", n)
			for _, d := range []Disk{cut, Crash(d, []int{n - size/3})} {
				b := d.Files[0].Data
				if err != api.OK || bytes.ContainsRune(b[len(b):cap(b)], 'x') {
					t.Errorf("of %d bytes %d are left, and others behind them; %d", size, len(b), err)
				}
			}
		}
	}
}

// R1, R2, R4: any disks, any names, any bytes and any numbers: no call panics, with an error there is the disk as it is, and the second time the answer is the same.
func TestAnyDisks(t *testing.T) {
	r := rand.New(rand.NewPCG(13, 9))
	right, wrong := 0, 0
	anyFile := func() File {
		return file(drawnName(r), drawnText(r), anyOf(r, lowest, -1, 0, 0, 0, 1, 2, r.IntN(100), greatest))
	}
	for range 5000 {
		d := drawnDisk(r)
		switch r.IntN(5) {
		case 0:
			d.Files = append(d.Files, anyFile())
		case 1:
			if len(d.Files) > 0 {
				d.Files[r.IntN(len(d.Files))] = anyFile()
			}
		case 2:
			for range r.IntN(4) {
				d.Files = slices.Insert(d.Files, r.IntN(len(d.Files)+1), anyFile())
			}
		case 3:
			if len(d.Files) > 0 {
				d.Files[r.IntN(len(d.Files))].Safe = anyOf(r, lowest, -1, 0, 1, 2, r.IntN(100), greatest)
			}
		}
		if _, fine := shelfOf(d); fine {
			right++
		} else {
			wrong++
		}
		name := drawnName(r)
		if len(d.Files) > 0 && r.IntN(2) == 0 {
			name = anyOf(r, d.Files...).Name
		}
		a := ask{name, drawnText(r), drawnNumber(r, d, name), drawnKeep(r)}
		for range 2 {
			checkAll(t, d, a)
		}
		if t.Failed() {
			t.FailNow()
		}
	}
	if right < 1000 || wrong < 1000 {
		t.Errorf("%d disks are right, %d are not", right, wrong)
	}
}
