package ckpt

import (
	"bytes"
	"encoding/binary"
	"fmt"
	"hash/crc32"
	"math/rand/v2"
	"slices"
	"strings"
	"testing"

	"haywain/api"
	"haywain/disk"
)

const (
	greatest = 1<<63 - 1
	lowest   = -1 << 63
)

// of answers a disk of files, in the order of their names.
func of(l ...disk.File) disk.Disk {
	l = slices.Clone(l)
	slices.SortStableFunc(l, func(a, b disk.File) int { return strings.Compare(a.Name, b.Name) })
	return disk.Disk{Files: l}
}

// with answers a disk and one file more.
func with(d disk.Disk, l ...disk.File) disk.Disk {
	return of(slices.Concat(d.Files, l)...)
}

// file answers a file of a text.
func file(name, text string, safe int) disk.File {
	return disk.File{Name: name, Data: []byte(text), Safe: safe}
}

// lasting answers a file of a text that is all safe.
func lasting(name, text string) disk.File {
	return file(name, text, len(text))
}

// long answers a text of n bytes, of all values.
func long(n int) string {
	b := make([]byte, n)
	for i := range b {
		b[i] = byte(i*7 + i/256)
	}
	return string(b)
}

// framed answers a payload's frame by other means; of any size.
func framed(payload string) string {
	size := binary.BigEndian.AppendUint32(nil, uint32(len(payload)))
	sum := crc32.ChecksumIEEE(append(slices.Clone(size), payload...))
	return string(binary.BigEndian.AppendUint32(size, sum)) + payload
}

// entry answers the frame of a number's bytes by other means.
func entry(num int) string {
	return framed(string(binary.BigEndian.AppendUint64(nil, uint64(num))))
}

// checkpointFile answers the file of a checkpoint.
func checkpointFile(num int, payload string) disk.File {
	return lasting(fmt.Sprintf("c%d", num), framed(payload))
}

// entries answers a list of numbers.
func entries(nums ...int) string {
	var s strings.Builder
	for _, num := range nums {
		s.WriteString(entry(num))
	}
	return s.String()
}

// upTo answers the numbers from 1 to n.
func upTo(n int) []int {
	l := make([]int, n)
	for i := range l {
		l[i] = i + 1
	}
	return l
}

// tellBytes answers bytes as a failed test shows them: of many but the first ones, and the last ones.
func tellBytes[T string | []byte](b T) string {
	if len(b) > 60 {
		return fmt.Sprintf("%q..%q of %d bytes", b[:20], b[len(b)-20:], len(b))
	}
	return fmt.Sprintf("%q", b)
}

// tell answers a disk as a failed test shows it: of many files but the first ones.
func tell(d disk.Disk) string {
	var s strings.Builder
	for _, f := range d.Files[:min(12, len(d.Files))] {
		fmt.Fprintf(&s, "[%s %s %d]", tellBytes(f.Name), tellBytes(f.Data), f.Safe)
	}
	return fmt.Sprintf("disk of %d files%s", len(d.Files), s.String())
}

// tellChanges answers changes as a failed test shows them: of many but the first ones.
func tellChanges(l []Change) string {
	var s strings.Builder
	for _, c := range l[:min(12, len(l))] {
		fmt.Fprintf(&s, "[%d %s %s]", c.Kind, tellBytes(c.Name), tellBytes(c.B))
	}
	return fmt.Sprintf("%d changes%s", len(l), s.String())
}

func sameFile(a, b disk.File) bool {
	return a.Name == b.Name && bytes.Equal(a.Data, b.Data) && a.Safe == b.Safe
}

func same(a, b disk.Disk) bool {
	return slices.EqualFunc(a.Files, b.Files, sameFile)
}

func sameChange(a, b Change) bool {
	return a.Kind == b.Kind && a.Name == b.Name && bytes.Equal(a.B, b.B)
}

func checkFile(t *testing.T, num int, want string) {
	t.Helper()
	if got := File(num); got != want {
		t.Errorf("File(%d): %q; want %q", num, got, want)
	}
}

func checkLast(t *testing.T, d disk.Disk, num int, payload string, err api.Errno) {
	t.Helper()
	got, b, e := Last(d)
	if got != num || string(b) != payload || e != err {
		t.Errorf("Last(%s): %d, %s, %d; want %d, %s, %d", tell(d), got, tellBytes(b), e, num, tellBytes(payload), err)
	}
}

func checkSave(t *testing.T, d disk.Disk, num int, payload string, want []Change, err api.Errno) {
	t.Helper()
	got, e := Save(d, num, []byte(payload))
	if !slices.EqualFunc(got, want, sameChange) || e != err {
		t.Errorf("Save(%s, %d, %s): %s, %d; want %s, %d", tell(d), num, tellBytes(payload), tellChanges(got), e, tellChanges(want), err)
	}
}

func checkDo(t *testing.T, d disk.Disk, l []Change, fuel int, want disk.Disk, n int) {
	t.Helper()
	got, done := Do(d, l, fuel)
	if !same(got, want) || done != n {
		t.Errorf("Do(%s, %s, %d): %s, %d; want %s, %d", tell(d), tellChanges(l), fuel, tell(got), done, tell(want), n)
	}
}

func checkOpen(t *testing.T, d disk.Disk, want disk.Disk, err api.Errno) {
	t.Helper()
	got, e := Open(d)
	if !same(got, want) || e != err {
		t.Errorf("Open(%s): %s, %d; want %s, %d", tell(d), tell(got), e, tell(want), err)
	}
}

// cutFrame takes a frame by other means.
func cutFrame(text string) (string, string, api.Errno) {
	if len(text) < 8 {
		return "", "", api.ErrForm
	}
	size := int(text[0])<<24 + int(text[1])<<16 + int(text[2])<<8 + int(text[3])
	if size > 4000 || size+8 > len(text) {
		return "", "", api.ErrForm
	}
	payload := text[8 : 8+size]
	if framed(payload) != text[:8+size] {
		return "", "", api.ErrSum
	}
	return payload, text[8+size:], api.OK
}

// book is a list by other means: all the payloads of its frames, and what is left behind them.
type book struct {
	payloads []string
	left     string
}

// bookOf answers the book of a list's bytes.
func bookOf(text string) book {
	payload, behind, err := cutFrame(text)
	if err != api.OK {
		return book{nil, text}
	}
	x := bookOf(behind)
	return book{append([]string{payload}, x.payloads...), x.left}
}

// nums answers the numbers of a book, and whether it is right.
func (x book) nums() ([]uint64, bool) {
	l := []uint64{0}
	for _, payload := range x.payloads {
		if len(payload) != 8 {
			return nil, false
		}
		l = append(l, binary.BigEndian.Uint64([]byte(payload)))
	}
	for i, num := range l[1:] {
		if num == 0 || num > 1<<40 || num <= l[i] {
			return nil, false
		}
	}
	_, _, err := cutFrame(x.left)
	return l[1:], err == api.ErrForm
}

// textOf answers the bytes of a file, and whether it is there.
func textOf(d disk.Disk, name string) (string, bool) {
	if disk.Right(d) {
		for _, f := range d.Files {
			if f.Name == name {
				return string(f.Data), true
			}
		}
	}
	return "", false
}

// namesOf answers what the files of a disk are called.
func namesOf(d disk.Disk) []string {
	var l []string
	if disk.Right(d) {
		for _, f := range d.Files {
			l = append(l, f.Name)
		}
	}
	return l
}

// lastOf is what the document says of Last.
func lastOf(d disk.Disk) (int, string, api.Errno) {
	text, _ := textOf(d, "m")
	nums, right := bookOf(text).nums()
	if !right {
		return 0, "", api.ErrForm
	}
	if len(nums) == 0 {
		return 0, "", api.ErrNone
	}
	last := nums[len(nums)-1]
	text, there := textOf(d, fmt.Sprintf("c%d", last))
	payload, behind, err := cutFrame(text)
	if !there || err != api.OK || behind != "" {
		return 0, "", api.ErrForm
	}
	return int(last), payload, api.OK
}

// kept answers the changes by which a checkpoint is kept beside files that are called so.
func kept(names []string, num int, payload string) []Change {
	name := fmt.Sprintf("c%d", num)
	var l, drops []Change
	for _, x := range names {
		if x == name {
			l = append(l, Change{Kind: 1, Name: x})
		} else if x[0] == 'c' {
			drops = append(drops, Change{Kind: 1, Name: x})
		}
	}
	l = append(l, Change{2, name, []byte(framed(payload))}, Change{3, name, nil}, Change{2, "m", []byte(entry(num))}, Change{3, "m", nil})
	return append(l, drops...)
}

// saved is what the document says of Save.
func saved(d disk.Disk, num int, payload string) ([]Change, api.Errno) {
	if num < 1 || num > 1<<40 {
		return nil, api.ErrArg
	}
	if len(payload) > 4000 {
		return nil, api.ErrFull
	}
	text, _ := textOf(d, "m")
	x := bookOf(text)
	nums, right := x.nums()
	if !right {
		return nil, api.ErrForm
	}
	if x.left != "" || slices.ContainsFunc(nums, func(n uint64) bool { return n >= uint64(num) }) {
		return nil, api.ErrState
	}
	return kept(namesOf(d), num, payload), api.OK
}

// asIs answers a disk as it is taken.
func asIs(d disk.Disk) disk.Disk {
	if !disk.Right(d) {
		return disk.Disk{}
	}
	return d
}

// doneOf is what the document says of Do.
func doneOf(d disk.Disk, l []Change, fuel int) (disk.Disk, int) {
	d = asIs(d)
	if fuel <= 0 || len(l) == 0 {
		return d, 0
	}
	now, err := d, api.ErrArg
	switch l[0].Kind {
	case 1:
		now, err = disk.Drop(d, l[0].Name)
	case 2:
		now, err = disk.Put(d, l[0].Name, l[0].B)
	case 3:
		now, err = disk.Sync(d, l[0].Name)
	}
	if err != api.OK {
		return d, 0
	}
	now, n := doneOf(now, l[1:], fuel-1)
	return now, n + 1
}

// opened is what the document says of Open.
func opened(d disk.Disk) (disk.Disk, api.Errno) {
	d = asIs(d)
	text, _ := textOf(d, "m")
	x := bookOf(text)
	if _, right := x.nums(); !right {
		return d, api.ErrForm
	}
	if x.left == "" {
		return d, api.OK
	}
	now := slices.Clone(d.Files)
	for i, f := range now {
		if f.Name == "m" {
			now[i] = lasting("m", text[:len(text)-len(x.left)])
		}
	}
	return of(now...), api.OK
}

// ask is what calls are asked with.
type ask struct {
	num     int
	payload string
	l       []Change
	fuel    int
}

// ends is how the calls end: Last, Save and Open with an error, Do with how many changes were done.
type ends struct {
	last, save, open api.Errno
	done             int
}

// checkAll: what all calls say of a disk.
func checkAll(t *testing.T, d disk.Disk, a ask) ends {
	t.Helper()
	var e ends
	num, payload, err := lastOf(d)
	e.last = err
	checkLast(t, d, num, payload, err)
	l, err := saved(d, a.num, a.payload)
	e.save = err
	checkSave(t, d, a.num, a.payload, l, err)
	now, n := doneOf(d, a.l, a.fuel)
	e.done = n
	checkDo(t, d, a.l, a.fuel, now, n)
	now, err = opened(d)
	e.open = err
	checkOpen(t, d, now, err)
	return e
}

func anyOf[T any](r *rand.Rand, l ...T) T {
	return l[r.IntN(len(l))]
}

// numbers answers numbers at the edges, and others.
func numbers() []int {
	l := []int{lowest, lowest + 1, -1 << 40, -1 << 32, -7, -2, -1, 0, 1, 2, 7, 1<<31 - 1, 1 << 31, 1 << 32, 1<<32 + 1, 1<<40 - 1, 1 << 40, 1<<40 + 1, 1<<40 + 7, 1 << 41, 1 << 62, greatest - 1, greatest}
	for n := 10; n < 1<<42; n *= 10 {
		l = append(l, n-1, n, n+1, -n)
	}
	return l
}

// otherNames answers names of files that are neither a list's nor that of the checkpoint 7: some begin with c.
func otherNames() []string {
	return []string{"\x00", "7", "C", "C7", "M", "a", "b", "bc7", "b\xff", "c", "c\x00", "c-7", "c0", "c07", "c1", "c10", "c1099511627776", "c6", "c7\x00", "c7.", "c70", "c8", "c99999999999999", "ca", "cat", "c\xff",
		"d", "dc7", "l", "m\x00", "m1", "mc7", "n", "\xc3\xa7", "\xff"}
}

// turned answers a text with one bit turned.
func turned(text string, bit int) string {
	b := []byte(text)
	b[bit/8] ^= 1 << (bit % 8)
	return string(b)
}

// tornEnds answers what may stand behind a list's frames that is torn.
func tornEnds() []string {
	var l []string
	for n := 1; n < 16; n++ {
		l = append(l, entry(9)[:n], entry(api.MaxNum)[:n], long(n + 100)[100:])
	}
	for n := 1; n < 8; n++ {
		l = append(l, framed("")[:n], strings.Repeat("\x00", n), strings.Repeat("\xff", n))
	}
	for _, n := range []int{8, 9, 15, 16, 17, 100, 4007} {
		l = append(l, framed(long(4000))[:n])
	}
	// Sizes above MaxFrame, with as many bytes behind them or less.
	for _, n := range []int{4001, 4002, 4100, 5000} {
		l = append(l, framed(long(n)), framed(long(n))[:8], framed(long(n))[:n], framed(long(n))+entry(9))
	}
	return append(l, strings.Repeat("\xff", 8), strings.Repeat("\xff", 16), strings.Repeat("\xff", 5000), "\x80"+framed("")[1:], "\x80"+entry(9)[1:], "\x01"+entry(9)[1:], "\x00\x01"+entry(9)[2:],
		"\x00\x00\x00\x09"+entry(9)[4:], "\x00\x00\x0f\xa0"+entry(9)[4:], "\x00\x00\x00\x01\x00\x00\x00\x00")
}

// wrongEnds answers what may stand behind frames, up to a number, and makes a list wrong.
func wrongEnds(last int) []string {
	var l []string
	// Other sums, and bytes that were changed.
	for bit := 32; bit < 128; bit++ {
		l = append(l, turned(entry(last+1), bit))
	}
	l = append(l, strings.Repeat("\x00", 8), strings.Repeat("\x00", 16), turned(framed(""), 63), turned(framed(long(4000)), 8*4008-1), "\x00\x00\x00\x07"+entry(last + 1)[4:], "\x00\x00\x00\x00"+entry(last + 1)[4:])
	// Other payloads than eight bytes.
	num := entry(last + 1)[8:]
	l = append(l, framed(""), framed("\x00"), framed(num[1:]), framed(num[:7]), framed(num+"\x00"), framed("\x00"+num), framed(num+num), framed(long(3999)), framed(long(4000)))
	// Numbers that are none's, and such as don't rise.
	for _, n := range []int{lowest, lowest + 1, lowest + last + 1, -1 << 40, -last - 1, -1, 0, last, last - 1, last / 2, 1<<40 + 1, 1<<40 + 2, 1 << 41, 1<<41 + last + 1, 1 << 62, greatest} {
		l = append(l, entry(n))
	}
	return l
}

// listing is a list that is right, and what is to be read of it.
type listing struct {
	text string
	last int
	torn string
}

// numberRows answers rows of numbers for lists.
func numberRows() [][]int {
	return [][]int{nil, {1}, {2}, {7}, {api.MaxNum - 1}, {api.MaxNum}, {1, 2}, {1, 7}, {1, api.MaxNum}, {api.MaxNum - 1, api.MaxNum}, {3, 5, 9, 255, 256, 1<<32 - 1, 1 << 32, 1 << 33}, upTo(20)}
}

// rightLists answers lists that are right, at the edges.
func rightLists() []listing {
	var l []listing
	for _, nums := range numberRows() {
		text, last := entries(nums...), 0
		if len(nums) > 0 {
			last = nums[len(nums)-1]
		}
		l = append(l, listing{text, last, ""})
		for _, torn := range tornEnds() {
			l = append(l, listing{text + torn, last, torn})
		}
	}
	l = append(l, listing{entries(upTo(1250)...), 1250, ""}, listing{entries(upTo(1249)...), 1249, ""})
	for _, torn := range []string{"x", entry(1250)[:7], entry(1250)[:8], entry(1250)[:15], strings.Repeat("\xff", 16)} {
		l = append(l, listing{entries(upTo(1249)...) + torn, 1249, torn})
	}
	return l
}

// wrongLists answers lists that aren't right, each in another way; some have something behind what is wrong.
func wrongLists() []string {
	var l []string
	for i, nums := range numberRows() {
		text, last := entries(nums...), 0
		if len(nums) > 0 {
			last = nums[len(nums)-1]
		}
		for k, wrong := range wrongEnds(last) {
			behind := []string{"", entry(min(last+2, api.MaxNum)), entry(9)[:5], "\xff\xff\xff\xff\xff\xff\xff\xff", entries(upTo(9)...)}
			l = append(l, text+wrong, text+wrong+behind[(i+k)%5])
		}
	}
	full := upTo(1250)
	full[1249] = 1249
	twice := upTo(1250)
	twice[0] = 2
	return append(l, entries(full...), entries(twice...), turned(entries(upTo(1250)...), 20000*8-1), turned(entries(upTo(1250)...), 40), entries(2, 1), entries(7, 7), entries(1, 3, 2), entries(1, 3, 2, 4), entries(5, 1, 2, 3, 6), entries(0, 1), entries(-1, 1),
		strings.Repeat("\x00", 20000), framed("hay"), framed("haywain"), framed("haywains"), framed("haywains!"))
}

// listFile answers the file of a list, of which some is safe.
func listFile(text string, i int) disk.File {
	return file("m", text, []int{0, len(text), len(text) / 2}[i%3])
}

// wrongDisks answers disks that aren't right: on most of them the files of a checkpoint 7 would be.
func wrongDisks() []disk.Disk {
	m, c := lasting("m", entry(7)), lasting("c7", framed("hay"))
	rows := func(l ...disk.File) disk.Disk { return disk.Disk{Files: l} }
	l := []disk.Disk{rows(m, c), rows(c, c, m), rows(c, m, m), rows(c, m, lasting("a", "")), rows(lasting("", ""), c, m), rows(c, m, lasting("ooooooooooooooooo", "")),
		rows(c, file("m", entry(7), -1)), rows(c, file("m", entry(7), 17)), rows(file("c7", framed("hay"), 12), m), rows(c, m, lasting("z", long(20001))), rows(lasting("c7", framed("hay")+long(20000)), m),
		rows(disk.File{}), rows(disk.File{}, c, m), {Files: make([]disk.File, 40)}, {Files: make([]disk.File, 1000)}, rows(file("m", "", 1)), rows(file("m", entry(7)+"x", 18))}
	many := rows(c, m)
	for i := range 39 {
		many.Files = append(many.Files, lasting(fmt.Sprintf("n%02d", i), ""))
	}
	return append(l, many)
}

// The chapter's examples, and what the shared document says of them.
func TestExamples(t *testing.T) {
	frame := "\x00\x00\x00\x03\x9c\x22\x79\x76hay"
	seven := "\x00\x00\x00\x08\x5e\x69\xf1\xd4\x00\x00\x00\x00\x00\x00\x00\x07"
	want := []Change{{Put, "c7", []byte(frame)}, {Sync, "c7", nil}, {Put, "m", []byte(seven)}, {Sync, "m", nil}}
	checkSave(t, disk.Disk{}, 7, "hay", want, api.OK)
	l, _ := Save(disk.Disk{}, 7, []byte("hay"))
	checkDo(t, disk.Disk{}, l, 4, of(lasting("c7", frame), lasting("m", seven)), 4)
	d, _ := Do(disk.Disk{}, l, 4)
	checkLast(t, d, 7, "hay", api.OK)
	three, n := Do(disk.Disk{}, l, 3)
	if n != 3 {
		t.Errorf("%d are done", n)
	}
	checkLast(t, disk.Crash(three, nil), 0, "", api.ErrNone)
	l, err := Save(d, 8, nil)
	if err != api.OK || len(l) != 5 {
		t.Fatalf("Save: %s, %d", tellChanges(l), err)
	}
	for i, c := range []Change{{Put, "c8", []byte("\x00\x00\x00\x00\x21\x44\xdf\x1c")}, {Sync, "c8", nil}, {Put, "m", []byte(entry(8))}, {Sync, "m", nil}, {Drop, "c7", nil}} {
		if !sameChange(l[i], c) {
			t.Errorf("Save: %s; want %s at %d", tellChanges(l), tellChanges([]Change{c}), i)
		}
	}
	d, _ = Do(d, l, 5)
	checkLast(t, d, 8, "", api.OK)
}

func TestKinds(t *testing.T) {
	if Drop != 1 || Put != 2 || Sync != 3 {
		t.Errorf("Drop, Put, Sync: %d, %d, %d", Drop, Put, Sync)
	}
}

// P14.1: the names of numbers at the edges, each of which a file may have.
func TestFile(t *testing.T) {
	checkFile(t, -1, "")
	checkFile(t, 0, "")
	checkFile(t, 1, "c1")
	checkFile(t, 10, "c10")
	checkFile(t, 1099511627775, "c1099511627775")
	checkFile(t, api.MaxNum, "c1099511627776")
	checkFile(t, api.MaxNum+1, "")
	for _, num := range numbers() {
		want := ""
		if num >= 1 && num <= 1<<40 {
			want = fmt.Sprintf("c%d", num)
			if _, err := disk.Put(disk.Disk{}, want, nil); err != api.OK {
				t.Errorf("no file may be called %q", want)
			}
		}
		checkFile(t, num, want)
	}
}

// P14.1: the last number of each list that is right, whatever is torn behind it; of one that has none there is none, whatever files there are.
func TestLastOfLists(t *testing.T) {
	for i, x := range rightLists() {
		others := []disk.File{lasting("c", framed("no")), lasting("c0", framed("no")), lasting("c99999999", framed("no"))}
		m := listFile(x.text, i)
		if x.last == 0 {
			checkLast(t, of(m), 0, "", api.ErrNone)
			checkLast(t, with(of(m), others...), 0, "", api.ErrNone)
			continue
		}
		checkLast(t, of(m, checkpointFile(x.last, "hay")), x.last, "hay", api.OK)
		checkLast(t, with(of(m, checkpointFile(x.last, "")), others...), x.last, "", api.OK)
		checkLast(t, of(m), 0, "", api.ErrForm)
		checkLast(t, with(of(m), others...), 0, "", api.ErrForm)
	}
	checkLast(t, disk.Disk{}, 0, "", api.ErrNone)
	checkLast(t, of(checkpointFile(7, "hay")), 0, "", api.ErrNone)
	checkLast(t, of(checkpointFile(7, "hay"), lasting("m", "")), 0, "", api.ErrNone)
}

// P14.1: lists that aren't right, with the files of all their numbers.
func TestLastOfWrongLists(t *testing.T) {
	for i, text := range wrongLists() {
		m := listFile(text, i)
		checkLast(t, of(m), 0, "", api.ErrForm)
		checkLast(t, of(m, checkpointFile(1, "x"), checkpointFile(2, "y"), checkpointFile(7, "hay"), checkpointFile(api.MaxNum, "z")), 0, "", api.ErrForm)
	}
}

// P14.1: the last number's file: not there, no frame, not all of one, of other bytes, with something behind it.
func TestLastOfFiles(t *testing.T) {
	m := lasting("m", entries(3, 7))
	for _, size := range []int{0, 1, 2, 3, 100, 3999, 4000} {
		payload := long(size)
		frame := framed(payload)
		for _, safe := range []int{0, 5, len(frame)} {
			checkLast(t, of(m, file("c7", frame, safe)), 7, payload, api.OK)
		}
		for n := range len(frame) {
			if n < 20 || n > len(frame)-3 {
				checkLast(t, of(m, lasting("c7", frame[:n])), 0, "", api.ErrForm)
			}
		}
		for _, behind := range []string{"\x00", "x", "hay", entry(7), entry(8), framed(""), frame, "\xff\xff\xff\xff\xff\xff\xff\xff", frame[:7]} {
			checkLast(t, of(m, lasting("c7", frame+behind)), 0, "", api.ErrForm)
		}
		for bit := range min(200, 8*len(frame)) {
			checkLast(t, of(m, lasting("c7", turned(frame, bit))), 0, "", api.ErrForm)
		}
		checkLast(t, of(m, lasting("c7", turned(frame, 8*len(frame)-1))), 0, "", api.ErrForm)
		checkLast(t, of(m, lasting("c7", payload)), 0, "", api.ErrForm)
		for _, name := range otherNames() {
			checkLast(t, of(m, lasting(name, frame)), 0, "", api.ErrForm)
			checkLast(t, of(m, lasting(name, "x"), lasting("c7", frame)), 7, payload, api.OK)
		}
	}
	checkLast(t, of(m), 0, "", api.ErrForm)
	checkLast(t, of(m, checkpointFile(3, "hay")), 0, "", api.ErrForm)
	checkLast(t, of(m, checkpointFile(8, "hay")), 0, "", api.ErrForm)
	checkLast(t, of(m, checkpointFile(3, "hay"), checkpointFile(7, "corn"), checkpointFile(8, "oats")), 7, "corn", api.OK)
	checkLast(t, of(m, lasting("c7", framed(long(4001)))), 0, "", api.ErrForm)
	checkLast(t, of(m, lasting("c7", framed(long(19992)))), 0, "", api.ErrForm)
}

// P14.2: what is kept on a disk without a list, with an empty one, and with others.
func TestSave(t *testing.T) {
	for _, size := range []int{0, 1, 3, 8, 100, 3999, 4000} {
		payload := long(size)
		for _, num := range numbers() {
			if num < 1 || num > 1<<40 {
				for _, d := range []disk.Disk{{}, of(lasting("m", "")), of(lasting("m", entry(1)))} {
					checkSave(t, d, num, payload, nil, api.ErrArg)
				}
				continue
			}
			want := kept(nil, num, payload)
			if len(want) != 4 {
				t.Fatalf("%d changes", len(want))
			}
			checkSave(t, disk.Disk{}, num, payload, want, api.OK)
			checkSave(t, of(lasting("m", "")), num, payload, want, api.OK)
			checkSave(t, of(lasting("a", "hay"), lasting("d", ""), file("m", "", 0), lasting("z", "corn")), num, payload, want, api.OK)
			if num > 1 {
				checkSave(t, of(file("m", entry(num-1), num%17)), num, payload, want, api.OK)
			}
			if num > 2 {
				checkSave(t, of(lasting("m", entries(1, num-1))), num, payload, want, api.OK)
			}
			checkSave(t, of(lasting("m", entry(num))), num, payload, nil, api.ErrState)
		}
	}
}

// P14.2: of a list that has a last number, greater ones are kept, and no others; of one that isn't right, or has something torn, none.
func TestSaveLists(t *testing.T) {
	for i, x := range rightLists() {
		d := of(listFile(x.text, i), lasting("a", "hay"))
		for _, num := range []int{1, x.last - 1, x.last, x.last + 1, x.last + 2, api.MaxNum - 1, api.MaxNum} {
			if num < 1 || num > api.MaxNum {
				checkSave(t, d, num, "hay", nil, api.ErrArg)
			} else if x.torn != "" || num <= x.last {
				checkSave(t, d, num, "hay", nil, api.ErrState)
			} else {
				checkSave(t, d, num, "hay", kept(nil, num, "hay"), api.OK)
			}
		}
	}
	for i, text := range wrongLists() {
		d := of(listFile(text, i), lasting("a", "hay"))
		for _, num := range []int{1, 8, api.MaxNum} {
			checkSave(t, d, num, "hay", nil, api.ErrForm)
		}
	}
}

// P14.2: errors in the order in which the chapter names them.
func TestSaveOrder(t *testing.T) {
	const above, not, none = 8, 7, api.MaxNum + 1
	lists := []struct {
		text        string
		right, torn bool
	}{{entries(3, 7), true, false}, {entries(3, 7) + "x", true, true}, {entries(3, 7) + framed(""), false, false}, {entries(7, 3), false, false}, {entries(7, 3) + "x", false, false}, {turned(entries(3, 7), 40), false, false}}
	for _, x := range lists {
		d := of(lasting("c7", framed("hay")), lasting("m", x.text))
		for _, num := range []int{above, not, 1, none, 0, -1, lowest, greatest} {
			for _, size := range []int{0, 4000, 4001, 4002, 20000, 20001, 1 << 16} {
				err := api.OK
				switch {
				case num < 1 || num > api.MaxNum:
					err = api.ErrArg
				case size > 4000:
					err = api.ErrFull
				case !x.right:
					err = api.ErrForm
				case x.torn || num <= 7:
					err = api.ErrState
				}
				var want []Change
				if err == api.OK {
					want = kept([]string{"c7", "m"}, num, long(size))
				}
				checkSave(t, d, num, long(size), want, err)
			}
		}
	}
}

// P14.2: a file of the number that is there already goes first, whatever it is, and isn't taken for another one.
func TestSaveFileThere(t *testing.T) {
	put, sync := Change{2, "c7", []byte(framed("hay"))}, Change{3, "c7", nil}
	list, lists := Change{2, "m", []byte(entry(7))}, Change{3, "m", nil}
	first := Change{1, "c7", nil}
	for _, text := range []string{"", "x", framed("hay"), framed("corn"), framed("hay")[:9], framed("hay") + "x", long(20000)} {
		for _, safe := range []int{0, len(text) / 2, len(text)} {
			checkSave(t, of(file("c7", text, safe)), 7, "hay", []Change{first, put, sync, list, lists}, api.OK)
			checkSave(t, of(file("c7", text, safe), lasting("m", entry(6))), 7, "hay", []Change{first, put, sync, list, lists}, api.OK)
			d := of(file("c7", text, safe), lasting("c6", framed("oats")), lasting("c70", ""), lasting("m", entry(6)))
			checkSave(t, d, 7, "hay", []Change{first, put, sync, list, lists, {1, "c6", nil}, {1, "c70", nil}}, api.OK)
		}
	}
}

// P14.2: other files go, if their names begin with c, by rising name; whatever they are.
func TestSaveOtherFiles(t *testing.T) {
	four := kept(nil, 7, "hay")
	var all disk.Disk
	var drops []Change
	for _, name := range otherNames() {
		d := of(lasting(name, "corn"), lasting("m", entry(5)))
		want := slices.Clone(four)
		if strings.HasPrefix(name, "c") {
			drops = append(drops, Change{1, name, nil})
			want = append(want, drops[len(drops)-1])
		}
		checkSave(t, d, 7, "hay", want, api.OK)
		checkSave(t, with(d, lasting("c7", "")), 7, "hay", append([]Change{{1, "c7", nil}}, want...), api.OK)
		all = with(all, file(name, long(len(name)), 0))
	}
	checkSave(t, all, 7, "hay", slices.Concat(four, drops), api.OK)
	all = with(all, file("m", entry(5), 0))
	checkSave(t, all, 7, "hay", slices.Concat(four, drops), api.OK)
	all = with(all, file("c7", "", 0))
	checkSave(t, all, 7, "hay", slices.Concat([]Change{{1, "c7", nil}}, four, drops), api.OK)
	if len(drops) != 17 {
		t.Errorf("%d files go", len(drops))
	}
	// As many files as may be, and no room for the list: that is told when the changes are done.
	var full disk.Disk
	var gone []Change
	for i := range 40 {
		full = with(full, lasting(fmt.Sprintf("c%02d", i), "x"))
		gone = append(gone, Change{1, fmt.Sprintf("c%02d", i), nil})
	}
	checkSave(t, full, 7, "hay", slices.Concat(four, gone), api.OK)
	checkSave(t, of(lasting("m", entries(upTo(1250)...))), 1251, "hay", kept(nil, 1251, "hay"), api.OK)
}

// P14.2: Save doesn't ask whether the file of the last number is there, nor what it is.
func TestSaveLastFile(t *testing.T) {
	for _, text := range []string{"", "x", framed("corn"), framed("corn") + "x", turned(framed("corn"), 40)} {
		checkSave(t, of(lasting("c7", text), lasting("m", entry(7))), 8, "hay", append(kept(nil, 8, "hay"), Change{1, "c7", nil}), api.OK)
	}
	checkSave(t, of(lasting("m", entry(7))), 8, "hay", kept(nil, 8, "hay"), api.OK)
	checkSave(t, of(lasting("m", entry(7))), 7, "hay", nil, api.ErrState)
}

// P14.3: changes one by one, by each fuel.
func TestDoFuel(t *testing.T) {
	a := file("a", "hay", 1)
	l := []Change{{2, "b", []byte("corn")}, {3, "b", nil}, {2, "b", []byte("!")}, {2, "a", []byte("stack")}, {1, "b", nil}, {3, "a", nil}}
	steps := []disk.Disk{of(a), of(a, file("b", "corn", 0)), of(a, lasting("b", "corn")), of(a, file("b", "corn!", 4)), of(file("a", "haystack", 1), file("b", "corn!", 4)), of(file("a", "haystack", 1)), of(lasting("a", "haystack"))}
	for n, want := range steps {
		checkDo(t, of(a), l, n, want, n)
		checkDo(t, of(a), l[:n], greatest, want, n)
		checkDo(t, of(a), l[:n], n, want, n)
		checkDo(t, of(a), l[:n], n+1, want, n)
	}
	for _, fuel := range []int{lowest, lowest + 1, -1 << 32, -7, -2, -1, 0} {
		checkDo(t, of(a), l, fuel, of(a), 0)
		checkDo(t, disk.Disk{}, l, fuel, disk.Disk{}, 0)
		checkDo(t, of(a), nil, fuel, of(a), 0)
	}
	for _, fuel := range []int{6, 7, 8, 100, 1 << 32, greatest - 1, greatest} {
		checkDo(t, of(a), l, fuel, steps[6], 6)
		checkDo(t, of(a), nil, fuel, of(a), 0)
		checkDo(t, of(a), []Change{}, fuel, of(a), 0)
		checkDo(t, disk.Disk{}, nil, fuel, disk.Disk{}, 0)
	}
}

// P14.3: a change that has an error, or is of no kind, at each place: what is ahead of it is done, what is behind it is not.
func TestDoErrors(t *testing.T) {
	full := []disk.File{file("a", "hay", 1), lasting("big", long(19999))}
	for i := range 36 {
		full = append(full, lasting(fmt.Sprintf("f%02d", i), "x"))
	}
	d := of(full...)
	good := []Change{{2, "p", []byte("corn")}, {3, "p", nil}, {2, "q", nil}, {1, "f00", nil}, {2, "r", []byte("x")}, {2, "big", []byte("!")}, {3, "a", nil}, {2, "a", []byte("stack")}}
	if _, n := doneOf(d, good, 99); n != len(good) {
		t.Fatalf("%d are done", n)
	}
	wrong := []Change{{1, "", nil}, {1, "A", nil}, {1, "none", nil}, {1, "ooooooooooooooooo", nil}, {1, "f000", nil}, {3, "", nil}, {3, "none", []byte("x")}, {3, "A", nil}, {3, "ooooooooooooooooo", nil},
		{2, "", []byte("x")}, {2, "ooooooooooooooooo", nil}, {2, "big", []byte("xx")}, {2, "a", []byte(long(19998))}, {2, "s", []byte(long(20001))}, {2, "f01", []byte(long(20000))}}
	for _, kind := range []int{lowest, -1 << 32, -3, -2, -1, 0, 4, 5, 6, 7, 255, 256, 257, 1<<32 + 1, 1<<32 + 2, 1<<32 + 3, greatest} {
		wrong = append(wrong, Change{kind, "a", []byte("x")}, Change{kind, "", nil}, Change{kind, "new", []byte("x")})
	}
	for i := range len(good) + 1 {
		want, _ := doneOf(d, good[:i], i)
		for _, c := range wrong {
			l := slices.Insert(slices.Clone(good), i, c)
			for _, fuel := range []int{i, i + 1, i + 2, len(good), greatest} {
				if fuel >= i {
					checkDo(t, d, l, fuel, want, i)
				}
			}
		}
	}
	// More files than may be.
	now, _ := doneOf(d, good[:3], 3)
	checkDo(t, d, []Change{good[0], good[2], {2, "r", nil}, {1, "a", nil}}, 99, with(d, file("p", "corn", 0), file("q", "", 0)), 2)
	checkDo(t, now, []Change{{2, "r", nil}}, 1, now, 0)
}

// P14.3: each error of a first change, and of one behind others, written out.
func TestDoWrittenOut(t *testing.T) {
	a, b := file("a", "hay", 1), file("b", "corn", 4)
	none := disk.Disk{}
	checkDo(t, none, []Change{{1, "a", nil}, {2, "a", nil}}, 9, none, 0)
	checkDo(t, none, []Change{{3, "a", nil}, {2, "a", nil}}, 9, none, 0)
	checkDo(t, none, []Change{{0, "a", nil}, {2, "a", nil}}, 9, none, 0)
	checkDo(t, none, []Change{{4, "a", nil}, {2, "a", nil}}, 9, none, 0)
	checkDo(t, none, []Change{{2, "", nil}, {2, "a", nil}}, 9, none, 0)
	checkDo(t, none, []Change{{2, "a", nil}, {0, "a", nil}, {2, "b", nil}}, 9, of(file("a", "", 0)), 1)
	checkDo(t, of(a, b), []Change{{1, "a", []byte("x")}}, 9, of(b), 1)
	checkDo(t, of(a, b), []Change{{3, "a", []byte("x")}}, 9, of(lasting("a", "hay"), b), 1)
	checkDo(t, of(a, b), []Change{{2, "a", []byte("x")}}, 9, of(file("a", "hayx", 1), b), 1)
	checkDo(t, of(a, b), []Change{{1, "a", nil}, {1, "a", nil}}, 9, of(b), 1)
	checkDo(t, of(a, b), []Change{{1, "a", nil}, {1, "b", nil}, {1, "b", nil}, {2, "c", nil}}, 9, none, 2)
	checkDo(t, of(a, b), []Change{{1, "a", nil}, {1, "b", nil}, {2, "a", []byte("oats")}, {3, "a", nil}, {2, "a", []byte("!")}}, 9, of(file("a", "oats!", 4)), 5)
	// A list that takes no number more, and a disk that takes no file more.
	full := of(lasting("c1250", framed("")), lasting("m", entries(upTo(1250)...)))
	l, err := Save(full, 1251, []byte("hay"))
	if err != api.OK {
		t.Fatal(err)
	}
	checkDo(t, full, l, 99, with(full, lasting("c1251", framed("hay"))), 2)
}

// P14.3: what is torn is cut off, and all that is left of the list is safe; else the disk stays, and what of it is safe too.
func TestOpen(t *testing.T) {
	a, z, c := file("a", "hay", 1), file("z", "", 0), file("c7", framed("hay"), 3)
	for _, x := range rightLists() {
		for _, safe := range []int{0, len(x.text) / 2, max(0, len(x.text)-1), len(x.text)} {
			m := file("m", x.text, safe)
			left := m
			if x.torn != "" {
				left = lasting("m", strings.TrimSuffix(x.text, x.torn))
			}
			checkOpen(t, of(m), of(left), api.OK)
			checkOpen(t, of(a, c, m, z), of(a, c, left, z), api.OK)
			checkOpen(t, of(a, c, left, z), of(a, c, left, z), api.OK)
		}
	}
	for i, text := range wrongLists() {
		m := listFile(text, i)
		checkOpen(t, of(m), of(m), api.ErrForm)
		checkOpen(t, of(a, c, m, z), of(a, c, m, z), api.ErrForm)
	}
	checkOpen(t, disk.Disk{}, disk.Disk{}, api.OK)
	checkOpen(t, of(a, c, z), of(a, c, z), api.OK)
	checkOpen(t, of(a, c, file("m", "", 0), z), of(a, c, file("m", "", 0), z), api.OK)
	checkOpen(t, of(file("m1", "x", 0), file("M", "x", 0), file("m\x00", "x", 0)), of(file("m1", "x", 0), file("M", "x", 0), file("m\x00", "x", 0)), api.OK)
	checkOpen(t, of(file("m", entry(7)+"x", 3)), of(lasting("m", entry(7))), api.OK)
	checkOpen(t, of(file("m", "x", 0)), of(lasting("m", "")), api.OK)
	checkOpen(t, of(file("m", entry(7), 3)), of(file("m", entry(7), 3)), api.OK)
}

// P14.3, P14.2: what is open has the last number that it had, and takes another one.
func TestOpenThenSave(t *testing.T) {
	for i, x := range rightLists() {
		d := with(of(listFile(x.text, i)), lasting("c1", framed("corn")))
		d, err := Open(d)
		if err != api.OK {
			t.Fatal(err)
		}
		if x.last < api.MaxNum {
			checkSave(t, d, x.last+1, "hay", kept(namesOf(d), x.last+1, "hay"), api.OK)
		}
		if x.last > 0 {
			checkSave(t, d, x.last, "hay", nil, api.ErrState)
		}
	}
}

// P14.1 to P14.3: of a disk that isn't right all calls say what they say of the one without files.
func TestWrongDisks(t *testing.T) {
	for _, d := range wrongDisks() {
		if disk.Right(d) {
			t.Fatalf("%s is right", tell(d))
		}
		checkLast(t, d, 0, "", api.ErrNone)
		checkOpen(t, d, disk.Disk{}, api.OK)
		for _, num := range []int{1, 6, 7, 8, api.MaxNum} {
			checkSave(t, d, num, "hay", kept(nil, num, "hay"), api.OK)
		}
		checkSave(t, d, 0, "hay", nil, api.ErrArg)
		checkSave(t, d, 7, long(4001), nil, api.ErrFull)
		l := kept(nil, 7, "hay")
		for _, fuel := range []int{-1, 0} {
			checkDo(t, d, l, fuel, disk.Disk{}, 0)
		}
		checkDo(t, d, nil, 9, disk.Disk{}, 0)
		checkDo(t, d, l, 1, of(file("c7", framed("hay"), 0)), 1)
		checkDo(t, d, l, 9, of(lasting("c7", framed("hay")), lasting("m", entry(7))), 4)
		checkDo(t, d, []Change{{1, "m", nil}}, 9, disk.Disk{}, 0)
		checkDo(t, d, []Change{{3, "m", nil}}, 9, disk.Disk{}, 0)
		checkDo(t, d, []Change{{0, "m", nil}}, 9, disk.Disk{}, 0)
	}
}

// drawnNums answers numbers that rise: mostly few, mostly small.
func drawnNums(r *rand.Rand) []int {
	var l []int
	num := 0
	for range anyOf(r, 0, 1, 1, 2, 3, r.IntN(30)) {
		num += 1 + anyOf(r, 0, 0, 1, r.IntN(5), r.IntN(1000), r.IntN(1<<36))
		if num <= api.MaxNum {
			l = append(l, num)
		}
	}
	if r.IntN(15) == 0 && num < api.MaxNum {
		l = append(l, api.MaxNum)
	}
	return l
}

// drawnPayload answers bytes: mostly few.
func drawnPayload(r *rand.Rand) string {
	if r.IntN(12) == 0 {
		return long(anyOf(r, 3998, 3999, 4000, 4000, 4001, 4002, 9000))
	}
	return long(700)[r.IntN(600):][:r.IntN(anyOf(r, 1, 5, 90))]
}

// drawnCopy answers what may stand in a checkpoint's file: mostly its frame.
func drawnCopy(r *rand.Rand) string {
	frame := framed(drawnPayload(r))
	switch r.IntN(12) {
	case 0:
		return frame[:r.IntN(len(frame))]
	case 1:
		return frame + anyOf(r, "x", frame[:1], framed(""), entry(7))
	case 2:
		return turned(frame, r.IntN(8*len(frame)))
	}
	return frame
}

// drawnDisk answers a disk, mostly one that is right, and the last number of its list ahead of what is torn or wrong.
func drawnDisk(r *rand.Rand) (disk.Disk, int) {
	nums := drawnNums(r)
	text, last := entries(nums...), 0
	if len(nums) > 0 {
		last = nums[len(nums)-1]
	}
	switch r.IntN(8) {
	case 0:
		text += anyOf(r, tornEnds()...)
	case 1:
		text += entry(r.IntN(99))[:r.IntN(16)]
	case 2:
		text += anyOf(r, wrongEnds(last)...) + anyOf(r, "", "x", entry(last+2))
	}
	l := map[string]string{"m": text}
	if r.IntN(12) == 0 {
		delete(l, "m")
	}
	for _, name := range []string{File(last), File(last + 1), File(last + 2), anyOf(r, otherNames()...), anyOf(r, otherNames()...), anyOf(r, "a", "ab", "z")} {
		if name != "" && r.IntN(2) == 0 {
			l[name] = drawnCopy(r)
		}
	}
	if last > 0 && r.IntN(3) > 0 {
		l[File(last)] = framed(drawnPayload(r))
	}
	var files []disk.File
	for name, text := range l {
		files = append(files, file(name, text, 0))
	}
	d := of(files...)
	for i, f := range d.Files {
		d.Files[i].Safe = anyOf(r, 0, len(f.Data), len(f.Data), r.IntN(len(f.Data)+1))
	}
	if r.IntN(15) == 0 && len(d.Files) > 0 {
		d.Files[r.IntN(len(d.Files))].Safe = anyOf(r, lowest, -1, 20001, greatest)
	}
	return d, last
}

// drawnChanges answers changes: some of them by which a checkpoint is kept, some of any files.
func drawnChanges(r *rand.Rand, d disk.Disk, num int) []Change {
	names := append(namesOf(d), "m", "a", "c7", "c8")
	l := kept(namesOf(d), max(num, 1), drawnPayload(r))
	if r.IntN(3) == 0 {
		l = nil
	}
	for range r.IntN(anyOf(r, 1, 1, 4, 12)) {
		c := Change{1 + r.IntN(3), anyOf(r, names...), []byte(drawnPayload(r))}
		switch r.IntN(12) {
		case 0:
			c.Kind = anyOf(r, lowest, -1, 0, 4, 5, 1<<32+2, greatest)
		case 1:
			c.Name = anyOf(r, "", "none", "ooooooooooooooooo", "oooooooooooooooo")
		case 2:
			c.B = []byte(long(anyOf(r, 9000, 19999, 20000, 20001)))
		}
		l = slices.Insert(l, r.IntN(len(l)+1), c)
	}
	return l
}

// drawnFuel answers how many changes of so many are to be done at most.
func drawnFuel(r *rand.Rand, changes int) int {
	return anyOf(r, lowest, -1, 0, 1, r.IntN(changes+1), changes-1, changes, changes+1, greatest)
}

// drawnAsk answers what calls may be asked of a disk.
func drawnAsk(r *rand.Rand, d disk.Disk, last int) ask {
	num := anyOf(r, last-1, last, last+1, last+1, last+1, last+2, last+2, last+1000, anyOf(r, numbers()...))
	l := drawnChanges(r, d, last+1)
	return ask{num, anyOf(r, drawnPayload(r), drawnPayload(r), drawnPayload(r), long(3998+r.IntN(6))), l, drawnFuel(r, len(l))}
}

// count is how often which error was told.
type count [api.ErrStale + 1]int

// checkOften: of what is drawn, does a call end often in each of these ways?
func checkOften(t *testing.T, call string, c count, often int, ends ...api.Errno) {
	t.Helper()
	for _, err := range ends {
		if c[err] < often {
			t.Errorf("%s ends with %d but %d times: %v", call, err, c[err], c)
		}
	}
}

// P14.1 to P14.3: disks, numbers, payloads and changes that are drawn; R1, R2, R4: no call panics, and the second time the answer is the same.
func TestDrawn(t *testing.T) {
	r := rand.New(rand.NewPCG(14, 1))
	var lasts, saves, opens count
	all, some := 0, 0
	for range 6000 {
		d, last := drawnDisk(r)
		a := drawnAsk(r, d, last)
		e := checkAll(t, d, a)
		checkAll(t, d, a)
		lasts[e.last]++
		saves[e.save]++
		opens[e.open]++
		if e.done == len(a.l) && e.done > 0 {
			all++
		} else if e.done > 0 && e.done < min(a.fuel, len(a.l)) {
			some++
		}
		if t.Failed() {
			t.FailNow()
		}
	}
	checkOften(t, "Last", lasts, 300, api.OK, api.ErrForm, api.ErrNone)
	checkOften(t, "Save", saves, 300, api.OK, api.ErrArg, api.ErrFull, api.ErrForm, api.ErrState)
	checkOften(t, "Open", opens, 300, api.OK, api.ErrForm)
	if all < 300 || some < 300 {
		t.Errorf("%d times all changes are done, %d times some, up to one that has an error", all, some)
	}
}

// R1, R2, R4: lists of any bytes, and frames of any payloads.
func TestAnyLists(t *testing.T) {
	r := rand.New(rand.NewPCG(14, 2))
	var opens count
	for range 6000 {
		var s strings.Builder
		for range r.IntN(6) {
			b := make([]byte, r.IntN(anyOf(r, 3, 9, 20)))
			for i := range b {
				b[i] = anyOf(r, 0, 0, 0, 1, 7, 8, 255, byte(r.IntN(256)))
			}
			s.WriteString(anyOf(r, string(b), framed(string(b)), entry(r.IntN(5)), entry(s.Len()+1), entry(s.Len()+1), entry(s.Len()+1)))
		}
		text := s.String()
		d := of(file("m", text, r.IntN(len(text)+1)), checkpointFile(1+r.IntN(50), "hay"))
		e := checkAll(t, d, drawnAsk(r, d, len(text)))
		opens[e.open]++
		if t.Failed() {
			t.FailNow()
		}
	}
	checkOften(t, "Open", opens, 1000, api.OK, api.ErrForm)
}

// checkpoint is one that was kept; of number 0: none.
type checkpoint struct {
	num     int
	payload string
}

// lastIs tells whether the last checkpoint is this one.
func lastIs(d disk.Disk, x checkpoint) bool {
	num, payload, err := Last(d)
	if x.num == 0 {
		return num == 0 && len(payload) == 0 && err == api.ErrNone
	}
	return num == x.num && string(payload) == x.payload && err == api.OK
}

// checkKeep keeps a checkpoint whole, and answers the disk: P14.5, P14.6.
func checkKeep(t *testing.T, d disk.Disk, x checkpoint) disk.Disk {
	t.Helper()
	l, err := Save(d, x.num, []byte(x.payload))
	now, n := Do(d, l, len(l))
	if err != api.OK || n != len(l) || !lastIs(now, x) {
		t.Fatalf("%d on %s: %s, %d, of which %d are done: %s", x.num, tell(d), tellChanges(l), err, n, tell(now))
	}
	for _, name := range disk.Names(now) {
		if name[0] == 'c' && name != fmt.Sprintf("c%d", x.num) {
			t.Fatalf("behind %d on %s: %s", x.num, tell(d), tell(now))
		}
	}
	for _, keep := range [][]int{nil, slices.Repeat([]int{greatest}, 50)} {
		if !lastIs(disk.Crash(now, keep), x) {
			t.Fatalf("%d on %s, behind a crash that keeps %v: %s", x.num, tell(d), keep, tell(disk.Crash(now, keep)))
		}
	}
	return now
}

// keeps answers what crashes keep of a disk's files: nothing, all, and some, with each beginning of the list's last frame.
func keeps(r *rand.Rand, files int) [][]int {
	l := [][]int{nil, slices.Repeat([]int{greatest}, files), slices.Repeat([]int{-1}, files)}
	for n := range 18 {
		l = append(l, slices.Repeat([]int{n}, files))
	}
	for range 6 {
		keep := make([]int, r.IntN(files+2))
		for i := range keep {
			keep[i] = anyOf(r, lowest, -1, 0, 1, 7, 8, 15, 16, 17, r.IntN(5000), greatest)
		}
		l = append(l, keep)
	}
	return l
}

// cut is a checkpoint of which but some changes were done, and what was found behind the crash.
type cut struct {
	before, after  disk.Disk
	ahead, x, last checkpoint
	done           int
	dropped        bool
	keep           []int
}

// String answers a cut as a failed test shows it.
func (x cut) String() string {
	return fmt.Sprintf("%d changes of checkpoint %d (%d is ahead) on %s, and a crash that keeps %v: %s", x.done, x.x.num, x.ahead.num, tell(x.before), x.keep, tell(x.after))
}

// cuts calls a function with each cut of a checkpoint that is to be kept behind another one.
func cuts(t *testing.T, r *rand.Rand, d disk.Disk, ahead, x checkpoint, f func(cut)) {
	t.Helper()
	l, err := Save(d, x.num, []byte(x.payload))
	if err != api.OK {
		t.Fatalf("%d on %s: %d", x.num, tell(d), err)
	}
	for n := range len(l) + 1 {
		some, done := Do(d, l, n)
		if done != n {
			t.Fatalf("%d of %d on %s: %d are done", n, x.num, tell(d), done)
		}
		for _, keep := range keeps(r, len(some.Files)) {
			after, err := Open(disk.Crash(some, keep))
			if err != api.OK {
				t.Fatalf("%d of %d on %s, behind a crash that keeps %v: %d", n, x.num, tell(d), keep, err)
			}
			f(cut{d, after, ahead, x, checkpoint{}, n, l[0].Kind == Drop, keep})
		}
	}
}

// found answers the cut with the checkpoint that is the last one behind it: the one ahead or the new one.
func (x cut) found(t *testing.T) cut {
	t.Helper()
	if lastIs(x.after, x.ahead) {
		x.last = x.ahead
	} else if lastIs(x.after, x.x) {
		x.last = x.x
	} else {
		t.Fatalf("%v: neither is the last one", x)
	}
	return x
}

// beginnings answers disks on which no checkpoint was kept yet.
func beginnings() []disk.Disk {
	var many disk.Disk
	for i := range 29 {
		many = with(many, file(fmt.Sprintf("f%02d", i), long(i), i/2))
	}
	return []disk.Disk{{}, of(file("m", "", 0)), of(file("a", "hay", 1), file("bc", "", 0), file("n", "corn", 4)), of(file("c", "x", 0), lasting("c00", framed("no")), file("cat", "", 0)), many}
}

// rows calls a function with all cuts of rows of checkpoints, kept one behind another: each goes on from one of the cuts of the one ahead, or from where it was kept whole.
func rows(t *testing.T, draw uint64, f func(cut)) {
	t.Helper()
	r := rand.New(rand.NewPCG(14, draw))
	for i := range 40 {
		d := beginnings()[i%5]
		var ahead checkpoint
		tried := 0
		for range 6 {
			x := checkpoint{ahead.num + 1 + anyOf(r, 0, 0, r.IntN(9), r.IntN(1000)), long(anyOf(r, 0, 1, 3, 90, 4000, r.IntN(4001)))}
			// The number of which a file may have been left.
			if tried > ahead.num && r.IntN(2) == 0 {
				x.num = tried
			}
			var l []cut
			cuts(t, r, d, ahead, x, func(c cut) {
				f(c)
				l = append(l, c)
			})
			if t.Failed() {
				t.FailNow()
			}
			tried = x.num
			if r.IntN(3) == 0 {
				d, ahead = checkKeep(t, d, x), x
			} else {
				c := anyOf(r, l...).found(t)
				d, ahead = c.after, c.last
			}
		}
	}
}

// P14.4: behind a crash, whatever it keeps, the last one is the one ahead, or the new one: the new one surely behind four changes, the one ahead surely with less than three, one more each if the first was a Drop of its file.
func TestCutAnywhere(t *testing.T) {
	old, new, dropped, both := 0, 0, 0, map[int][2]int{}
	rows(t, 3, func(x cut) {
		more := 0
		if x.dropped {
			more = 1
			dropped++
		}
		l := both[x.done-more]
		x = x.found(t)
		if x.last == x.ahead {
			old++
			l[0]++
		} else {
			new++
			l[1]++
		}
		both[x.done-more] = l
		if x.done >= 4+more && x.last != x.x {
			t.Errorf("%v: the new one is not the last one", x)
		}
		if x.done < 3+more && x.last != x.ahead {
			t.Errorf("%v: the one ahead is not the last one", x)
		}
	})
	if old < 5000 || new < 5000 || dropped < 3000 || both[3][0] < 500 || both[3][1] < 500 {
		t.Errorf("%d times the one ahead is found, %d times the new one; %d times a file is dropped first; by changes: %v", old, new, dropped, both)
	}
}

// P14.5: behind each of them a checkpoint of any greater number can be kept, and it is the last one.
func TestKeptBehindCuts(t *testing.T) {
	again := 0
	rows(t, 4, func(x cut) {
		x = x.found(t)
		for i, num := range []int{x.last.num + 1, x.x.num, x.x.num + 1, api.MaxNum} {
			if num > x.last.num && (i < 2 || len(x.keep) < 3) {
				checkKeep(t, x.after, checkpoint{num, long(num % 10)})
			}
		}
		if x.last == x.ahead && len(disk.Names(x.after)) > len(disk.Names(x.before)) {
			again++
		}
	})
	if again < 500 {
		t.Errorf("%d times a file of the one that isn't there is left", again)
	}
}

// P14.6: a checkpoint that was kept whole leaves no file beside the list and its own whose name begins with c; and all others as they were.
func TestKeptWhole(t *testing.T) {
	r := rand.New(rand.NewPCG(14, 5))
	for _, d := range beginnings() {
		for i, name := range otherNames() {
			d := with(d, lasting(name, "x"))
			if !disk.Right(d) {
				continue
			}
			num := 0
			for range 5 {
				num += 1 + r.IntN(1+i)
				before := d
				d = checkKeep(t, d, checkpoint{num, long(num % 50)})
				others := func(f disk.File) bool { return f.Name == "m" || f.Name[0] == 'c' }
				if !same(of(slices.DeleteFunc(slices.Clone(d.Files), others)...), of(slices.DeleteFunc(slices.Clone(before.Files), others)...)) {
					t.Errorf("%s became %s", tell(before), tell(d))
				}
			}
		}
	}
	for _, d := range wrongDisks() {
		checkKeep(t, d, checkpoint{7, "hay"})
	}
}

// P14.5: checkpoints are kept one behind another till the list takes no number more: then the last one stays.
func TestManyKept(t *testing.T) {
	d := of(lasting("m", entries(upTo(1239)...)), checkpointFile(1239, "hay"))
	for num := 1240; num <= 1250; num++ {
		d = checkKeep(t, d, checkpoint{num, long(num)})
	}
	l, err := Save(d, 1251, nil)
	now, n := Do(d, l, len(l))
	if err != api.OK || n != 2 {
		t.Errorf("%d, %d are done", err, n)
	}
	checkLast(t, now, 1250, long(1250), api.OK)
}

// roomyBytes answers bytes in a list that has spare room, with something in it.
func roomyBytes[T string | []byte](b T) []byte {
	l := append(make([]byte, 0, len(b)+9), b...)
	copy(l[len(l):cap(l)], "spareroom")
	return l
}

// roomy answers a disk in lists that have spare room, with something in it.
func roomy(d disk.Disk) disk.Disk {
	files := make([]disk.File, 0, len(d.Files)+3)
	for _, f := range d.Files {
		files = append(files, disk.File{Name: f.Name, Data: roomyBytes(f.Data), Safe: f.Safe})
	}
	for i := range files[len(files):cap(files)] {
		files[:cap(files)][len(files)+i] = file(fmt.Sprintf("~%d", i), "spare", 3)
	}
	return disk.Disk{Files: files}
}

// roomyChanges answers changes in lists that have spare room, with something in it.
func roomyChanges(l []Change) []Change {
	all := make([]Change, 0, len(l)+3)
	for _, c := range l {
		all = append(all, Change{c.Kind, c.Name, roomyBytes(c.B)})
	}
	for i := range all[len(all):cap(all)] {
		all[:cap(all)][len(all)+i] = Change{Put, "a", []byte("spare")}
	}
	return all
}

// whole answers all that is in a disk's lists, in their spare room too.
func whole(d disk.Disk) string {
	var s strings.Builder
	for _, f := range d.Files[:cap(d.Files)] {
		fmt.Fprintf(&s, "%q %d %d\n%s\n", f.Name, f.Safe, len(f.Data), f.Data[:cap(f.Data)])
	}
	return s.String()
}

// wholeChanges answers all that is in changes, in their spare room too.
func wholeChanges(l []Change) string {
	var s strings.Builder
	for _, c := range l[:cap(l)] {
		fmt.Fprintf(&s, "%q %d %d\n%s\n", c.Name, c.Kind, len(c.B), c.B[:cap(c.B)])
	}
	return s.String()
}

// spoil writes over a list, and over its spare room.
func spoil[T any](l []T, by T) {
	l = l[:cap(l)]
	for i := range l {
		l[i] = by
	}
}

// spoilBytes writes over the bytes of each of a disk's files and of each change, by their places, and tells whether some of them shared a list.
func spoilBytes(d disk.Disk, l []Change) bool {
	var all [][]byte
	for _, f := range d.Files[:cap(d.Files)] {
		all = append(all, f.Data)
	}
	for _, c := range l[:cap(l)] {
		all = append(all, c.B)
	}
	for i, b := range all {
		spoil(b, byte(i))
	}
	for i, b := range all {
		if slices.ContainsFunc(b[:cap(b)], func(x byte) bool { return x != byte(i) }) {
			return true
		}
	}
	return false
}

// spoilAll writes over all that is in a disk's lists, and in changes.
func spoilAll(d disk.Disk, l []Change) {
	spoilBytes(d, l)
	spoil(d.Files, disk.File{Name: "!", Safe: 7})
	spoil(l, Change{7, "!", nil})
}

// answer is what calls answer, each in one of these.
type answer struct {
	d disk.Disk
	l []Change
}

// String answers all that is in it.
func (x answer) String() string {
	return whole(x.d) + wholeChanges(x.l)
}

// checkApart: R3 of a call: what is handed in stays as it was, and shares nothing with what is answered; nor does a second answer, nor do two lists of one.
func checkApart(t *testing.T, what string, call func(d disk.Disk, payload []byte, l []Change) answer, d disk.Disk, a ask) {
	t.Helper()
	d, payload, l := roomy(d), roomyBytes(a.payload), roomyChanges(a.l)
	handed := func() string { return whole(d) + string(payload[:cap(payload)]) + wholeChanges(l) }
	before := handed()
	unchanged := func(by string) {
		t.Helper()
		if handed() != before {
			t.Fatalf("%s: by %s, what was handed in is changed: %s, %s, %s", what, by, tell(d), tellBytes(payload), tellChanges(l))
		}
	}
	first := call(d, payload, l)
	unchanged("the call")
	second := call(d, payload, l)
	unchanged("the second call")
	want := second.String()
	if first.String() != want {
		t.Fatalf("%s of %s: %s, %s, the second time %s, %s", what, tell(d), tell(first.d), tellChanges(first.l), tell(second.d), tellChanges(second.l))
	}
	spoilAll(first.d, first.l)
	unchanged("what was written to the answer")
	spoilAll(d, l)
	spoil(payload, '!')
	if second.String() != want {
		t.Fatalf("%s: the answer became %s, %s with what was handed in", what, tell(second.d), tellChanges(second.l))
	}
	if spoilBytes(second.d, second.l) {
		t.Fatalf("%s: two lists of one answer share bytes: %s, %s", what, tell(second.d), tellChanges(second.l))
	}
}

// R3: what is handed in stays as it was, its spare room too; what is answered shares no memory with it, nor with other answers, also where it is the disk as it was.
func TestMemory(t *testing.T) {
	r := rand.New(rand.NewPCG(14, 6))
	disks := append(wrongDisks(), beginnings()...)
	for range 1500 {
		d, _ := drawnDisk(r)
		disks = append(disks, d)
	}
	for _, d := range disks {
		num, _, _ := lastOf(d)
		a := drawnAsk(r, d, num)
		checkApart(t, "Last", func(d disk.Disk, _ []byte, _ []Change) answer {
			_, b, _ := Last(d)
			return answer{d: of(disk.File{Data: b})}
		}, d, a)
		checkApart(t, "Save", func(d disk.Disk, payload []byte, _ []Change) answer {
			l, _ := Save(d, a.num, payload)
			return answer{l: l}
		}, d, a)
		checkApart(t, "Do", func(d disk.Disk, _ []byte, l []Change) answer {
			d, _ = Do(d, l, a.fuel)
			return answer{d: d}
		}, d, a)
		checkApart(t, "Open", func(d disk.Disk, _ []byte, _ []Change) answer {
			d, _ = Open(d)
			return answer{d: d}
		}, d, a)
	}
}
