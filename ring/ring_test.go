package ring

import (
	"math/big"
	"math/rand/v2"
	"slices"
	"sort"
	"testing"

	"haywain/api"
)

const (
	greatest = 1<<63 - 1
	lowest   = -1 << 63
)

func ids(l ...int) []int {
	return l
}

func checkMix(t *testing.T, x, want uint64) {
	t.Helper()
	if got := Mix(x); got != want {
		t.Errorf("Mix(%x): %x; want %x", x, got, want)
	}
}

func checkPlace(t *testing.T, worker, i int, want uint32) {
	t.Helper()
	if got := Place(worker, i); got != want {
		t.Errorf("Place(%d, %d): %x; want %x", worker, i, got, want)
	}
}

func checkKey(t *testing.T, p int, want uint32) {
	t.Helper()
	if got := Key(p); got != want {
		t.Errorf("Key(%d): %x; want %x", p, got, want)
	}
}

func checkRight(t *testing.T, members []int, want bool) {
	t.Helper()
	if Right(members) != want {
		t.Errorf("Right(%v): %v; want %v", members, !want, want)
	}
}

func checkOwner(t *testing.T, members []int, p, want int, err api.Errno) {
	t.Helper()
	if got, e := Owner(members, p); got != want || e != err {
		t.Errorf("Owner(%v, %d): %d, %d; want %d, %d", members, p, got, e, want, err)
	}
}

func checkOwners(t *testing.T, members []int, parts int, want []int, err api.Errno) {
	t.Helper()
	if got, e := Owners(members, parts); !slices.Equal(got, want) || e != err {
		t.Errorf("Owners(%v, %d): %v, %d; want %v, %d", members, parts, got, e, want, err)
	}
}

// mixed is what the document says of a number, mixed, with numbers of any size: down by bits is a division, a product is taken modulo 2^64.
func mixed(x uint64) uint64 {
	n := new(big.Int).SetUint64(x)
	round := func(down uint, times string) {
		lower := new(big.Int).Quo(n, new(big.Int).Exp(big.NewInt(2), big.NewInt(int64(down)), nil))
		n.Xor(n, lower)
		factor, _ := new(big.Int).SetString(times, 16)
		n.Mul(n, factor)
		n.Mod(n, new(big.Int).Exp(big.NewInt(2), big.NewInt(64), nil))
	}
	round(30, "bf58476d1ce4e5b9")
	round(27, "94d049bb133111eb")
	round(31, "1")
	return n.Uint64()
}

func placeOf(worker, i int) uint32 {
	return uint32(mixed(uint64(worker)*1000+uint64(i)) / (1 << 32))
}

func keyOf(p int) uint32 {
	return uint32(mixed(uint64(p)+1000000) / (1 << 32))
}

// table answers all places of all workers that may be, and the places of all partitions, without the package's own functions.
func table() (places [api.MaxId + 1][8]uint32, keys [api.MaxParts]uint32) {
	for w := 1; w <= api.MaxId; w++ {
		for i := range 8 {
			places[w][i] = placeOf(w, i)
		}
	}
	for p := range keys {
		keys[p] = keyOf(p)
	}
	return places, keys
}

var places, keys = table()

// owners is what the document says of all partitions' owners, by other means: each place and its worker are one number, all of them twice in a row, so that the ring's end goes over to its beginning.
func owners(members []int, parts int) []int {
	var row []uint64
	for _, w := range members {
		for _, place := range places[w] {
			once := uint64(place)*1000 + uint64(w)
			row = append(row, once, once+(1<<32)*1000)
		}
	}
	slices.Sort(row)
	var l []int
	for p := range parts {
		at := sort.Search(len(row), func(i int) bool { return row[i] >= uint64(keys[p])*1000 })
		l = append(l, int(row[at]%1000))
	}
	return l
}

// wrapped: has no member a place at a partition's or behind it?
func wrapped(members []int, p int) bool {
	for _, w := range members {
		if slices.Max(places[w][:]) >= keys[p] {
			return false
		}
	}
	return true
}

// anyMembers answers members that are right, as many as told.
func anyMembers(r *rand.Rand, n int) []int {
	l := r.Perm(api.MaxId)[:n]
	for i := range l {
		l[i]++
	}
	slices.Sort(l)
	return l
}

// with answers members and one that comes.
func with(members []int, w int) []int {
	l := append(slices.Clone(members), w)
	slices.Sort(l)
	return l
}

// without answers members but for the one at a place of the list.
func without(members []int, i int) []int {
	return append(slices.Clone(members[:i]), members[i+1:]...)
}

// wrongMembers answers lists that aren't right, each in another way.
func wrongMembers() [][]int {
	return [][]int{
		nil, {}, {0}, {-1}, {lowest}, {greatest}, {api.MaxId + 1}, {1 << 32}, {1<<32 + 1},
		{0, 1}, {-1, 1}, {lowest, 1}, {1, 0}, {1, -1}, {1, api.MaxId + 1}, {1, greatest}, {1, api.MaxId, api.MaxId + 1}, {0, 1, 2, 3, 4}, {1, 2, 3, 4, api.MaxId + 1},
		{1, 1}, {api.MaxId, api.MaxId}, {1, 2, 2}, {1, 1, 2}, {1, 2, 3, 4, 4}, {5, 5, 5, 5, 5}, {0, 0},
		{2, 1}, {api.MaxId, 1}, {1, 3, 2}, {2, 1, 3}, {1, 2, 3, 5, 4}, {5, 4, 3, 2, 1}, {1, 2, 1},
		{1, 2, 3, 4, 5, 6}, {94, 95, 96, 97, 98, 99}, {1, 2, 3, 4, 5, 5}, {6, 5, 4, 3, 2, 1}, {0, 1, 2, 3, 4, 5}, make([]int, 1000),
	}
}

// wrongPartitions answers partitions that may not be.
func wrongPartitions() []int {
	return ids(lowest, -1<<32, -api.MaxParts, -1, api.MaxParts, api.MaxParts+1, 1<<32, greatest)
}

// wrongParts answers numbers of parts that may not be.
func wrongParts() []int {
	return ids(lowest, -1<<32, -api.MaxParts, -1, 0, api.MaxParts+1, api.MaxParts+2, 1<<32, 1<<32+1, greatest)
}

// The chapter's examples.
func TestExamples(t *testing.T) {
	checkMix(t, 0, 0)
	checkMix(t, 1, 0x5692161d100b05e5)
	for w := 1; w <= api.MaxId; w++ {
		for parts := 1; parts <= api.MaxParts; parts++ {
			checkOwners(t, ids(w), parts, slices.Repeat(ids(w), parts), api.OK)
		}
		for p := range api.MaxParts {
			checkOwner(t, ids(w), p, w, api.OK)
		}
	}
}

// P9.1: by numbers that were reckoned elsewhere.
func TestMix(t *testing.T) {
	checkMix(t, 2, 0xdbd238973a2b148a)
	checkMix(t, 1<<31, 0xec105bf588587c9f)
	checkMix(t, 1<<32, 0xd820b7e910b0f93f)
	checkMix(t, 1<<63, 0x25c26ea579cea98a)
	checkMix(t, 1<<64-1, 0xb4d055fcf2cbbd7b)
	checkMix(t, 0x0123456789abcdef, 0xb2c058e4ebb5112c)
}

// P9.1: numbers with one bit alone, with all but one, with all bits up to one, and any.
func TestMixOfAny(t *testing.T) {
	for bit := range 64 {
		one := uint64(1) << bit
		for _, x := range []uint64{one, ^one, one - 1, -one} {
			checkMix(t, x, mixed(x))
		}
	}
	r := rand.New(rand.NewPCG(9, 1))
	for range 20000 {
		x := r.Uint64() >> r.IntN(64)
		checkMix(t, x, mixed(x))
	}
}

// P9.1: no two numbers are mixed to one, as each step can be gone back.
func TestMixKeepsApart(t *testing.T) {
	from := map[uint64]uint64{}
	for x := range uint64(100000) {
		for _, n := range []uint64{x, x << 40, ^x} {
			y := Mix(n)
			if other, ok := from[y]; ok && other != n {
				t.Fatalf("Mix of %x and of %x: %x", other, n, y)
			}
			from[y] = n
		}
	}
}

// P9.1: places by numbers that were reckoned elsewhere.
func TestPlace(t *testing.T) {
	for i, want := range []uint32{0xc1936642, 0x7139bb24, 0xb421b8cc, 0xbacdd26d, 0xcddc51df, 0x66c5b082, 0x8cc79e9e, 0x828080d4} {
		checkPlace(t, 1, i, want)
	}
	for i, want := range []uint32{0xc2e81c3a, 0xa522804, 0x500a20a1, 0x54c60db7, 0x7346dd1e, 0x45f076ef, 0xc0c75207, 0x5897023e} {
		checkPlace(t, 50, i, want)
	}
	for i, want := range []uint32{0xea8864f8, 0xc1e5f4c1, 0x353ffb9c, 0x7c5793af, 0xb14dbbbe, 0xb00bbd84, 0xa9af9054, 0xf041c9a5} {
		checkPlace(t, api.MaxId, i, want)
	}
}

// P9.1: all places that there are, and those of workers and numbers at the edges and beyond.
func TestAllPlaces(t *testing.T) {
	workers := ids(lowest, -1<<32, -1000, -1, 0, api.MaxId+1, api.MaxId+2, 1000, 1<<32, 1<<32+1, greatest)
	for w := 1; w <= api.MaxId; w++ {
		workers = append(workers, w)
	}
	for _, w := range workers {
		for _, i := range ids(lowest, -1<<32, -1000, -8, -1, 0, 1, 2, 3, 4, 5, 6, 7, 8, 9, 1000, 1<<32, 1<<32+1, greatest) {
			var want uint32
			if w >= 1 && w <= api.MaxId && i >= 0 && i <= 7 {
				want = places[w][i]
			}
			checkPlace(t, w, i, want)
		}
	}
}

// P9.1: the partitions' places, by numbers that were reckoned elsewhere, and of partitions that there aren't.
func TestKey(t *testing.T) {
	for p, want := range []uint32{0x62fc1862, 0xd9da721b, 0xa88718dc, 0xc1fd756f, 0xfaa7327e, 0x18aa0cfb} {
		checkKey(t, p, want)
		checkKey(t, p, keys[p])
	}
	for _, p := range wrongPartitions() {
		checkKey(t, p, 0)
	}
}

// P9.1: members at the edges: how many, which numbers, rising.
func TestRight(t *testing.T) {
	for _, l := range wrongMembers() {
		checkRight(t, l, false)
	}
	for _, l := range [][]int{{1}, {50}, {api.MaxId}, {1, 2}, {1, api.MaxId}, {98, api.MaxId}, {1, 2, 3, 4}, {1, 2, 3, 4, 5}, {1, 20, 30, 98, api.MaxId}, {95, 96, 97, 98, 99}} {
		checkRight(t, l, true)
	}
	for w := -200; w <= 300; w++ {
		checkRight(t, ids(w), w >= 1 && w <= api.MaxId)
		for other := -2; other <= api.MaxId+2; other++ {
			checkRight(t, ids(w, other), w >= 1 && w < other && other <= api.MaxId)
		}
	}
	for n := range 12 {
		var l []int
		for i := range n {
			l = append(l, i+1)
		}
		checkRight(t, l, n >= 1 && n <= api.MaxWorkers)
	}
}

// P9.1: of right members one that is changed, at each place of the list.
func TestRightWithOneChanged(t *testing.T) {
	for i := range api.MaxWorkers {
		for w := -3; w <= api.MaxId+3; w++ {
			l := ids(10, 20, 30, 40, 50)
			l[i] = w
			from, to := 1, api.MaxId
			if i > 0 {
				from = l[i-1] + 1
			}
			if i < len(l)-1 {
				to = l[i+1] - 1
			}
			checkRight(t, l, w >= from && w <= to)
		}
	}
}

// P9.2: by owners that were reckoned elsewhere; partition 4 of 1 and 99, and of 2 and 26, has no place behind its own.
func TestOwners(t *testing.T) {
	for _, c := range []struct{ members, want []int }{
		{ids(1), ids(1, 1, 1, 1, 1, 1)},
		{ids(1, 2), ids(2, 2, 1, 1, 2, 2)},
		{ids(1, 2, 3), ids(2, 2, 1, 3, 2, 3)},
		{ids(1, 3), ids(1, 3, 1, 3, 3, 3)},
		{ids(1, 99), ids(1, 99, 99, 1, 99, 99)},
		{ids(2, 26), ids(2, 2, 2, 2, 26, 26)},
		{ids(1, 2, 3, 4, 5), ids(2, 2, 1, 3, 5, 4)},
		{ids(95, 96, 97, 98, 99), ids(96, 98, 99, 95, 97, 98)},
	} {
		for parts := 1; parts <= api.MaxParts; parts++ {
			checkOwners(t, c.members, parts, c.want[:parts], api.OK)
		}
		for p, w := range c.want {
			checkOwner(t, c.members, p, w, api.OK)
		}
	}
	if !wrapped(ids(1, 99), 4) || !wrapped(ids(2, 26), 4) || wrapped(ids(1, 99), 5) {
		t.Error("partition 4 is not behind all places")
	}
}

// P9.2: members, partitions and numbers of parts that may not be, one of them or both.
func TestOwnersWrong(t *testing.T) {
	fit := [][]int{{1}, {api.MaxId}, {1, 2}, {1, 2, 3, 4, 5}}
	for _, l := range wrongMembers() {
		for p := range api.MaxParts {
			checkOwner(t, l, p, 0, api.ErrArg)
			checkOwners(t, l, p+1, nil, api.ErrArg)
		}
	}
	for _, l := range append(wrongMembers(), fit...) {
		for _, p := range wrongPartitions() {
			checkOwner(t, l, p, 0, api.ErrArg)
		}
		for _, parts := range wrongParts() {
			checkOwners(t, l, parts, nil, api.ErrArg)
		}
	}
	for _, l := range fit {
		checkOwner(t, l, 0, owners(l, 1)[0], api.OK)
		checkOwner(t, l, api.MaxParts-1, owners(l, api.MaxParts)[api.MaxParts-1], api.OK)
		checkOwners(t, l, 1, owners(l, 1), api.OK)
		checkOwners(t, l, api.MaxParts, owners(l, api.MaxParts), api.OK)
	}
}

// checkAll: P9.2 and P9.3 of members that are right.
func checkAll(t *testing.T, members []int) []int {
	t.Helper()
	want := owners(members, api.MaxParts)
	got, err := Owners(members, api.MaxParts)
	if err != api.OK || !slices.Equal(got, want) {
		t.Fatalf("Owners(%v): %v, %d; want %v", members, got, err, want)
	}
	for p, w := range got {
		if !slices.Contains(members, w) {
			t.Fatalf("Owners(%v): %v, partition %d is no member's", members, got, p)
		}
		checkOwner(t, members, p, w, api.OK)
	}
	return got
}

// P9.2, P9.3: of all one and two members, and of any; the first of all is taken often, and not always of the first member.
func TestAnyMembers(t *testing.T) {
	over, notFirst := 0, 0
	check := func(members []int) {
		got := checkAll(t, members)
		for p, w := range got {
			if wrapped(members, p) {
				over++
				if w != members[0] {
					notFirst++
				}
			}
		}
		for parts := 1; parts <= api.MaxParts; parts++ {
			checkOwners(t, members, parts, got[:parts], api.OK)
		}
	}
	for a := 1; a <= api.MaxId; a++ {
		check(ids(a))
		for b := a + 1; b <= api.MaxId; b++ {
			check(ids(a, b))
		}
	}
	r := rand.New(rand.NewPCG(9, 2))
	for range 10000 {
		check(anyMembers(r, 1+r.IntN(api.MaxWorkers)))
	}
	if over < 1000 || notFirst < 300 {
		t.Errorf("no place behind: %d, of another than the first member: %d", over, notFirst)
	}
}

// checkComes: P9.4 of members and one that comes; it answers how many partitions go.
func checkComes(t *testing.T, members []int, w int) int {
	t.Helper()
	more := with(members, w)
	old, err := Owners(members, api.MaxParts)
	now, e := Owners(more, api.MaxParts)
	if err != api.OK || e != api.OK || len(old) != api.MaxParts || len(now) != api.MaxParts {
		t.Fatalf("Owners of %v: %v, %d, of %v: %v, %d", members, old, err, more, now, e)
	}
	goes := 0
	for p := range now {
		if now[p] == old[p] {
			continue
		}
		goes++
		if now[p] != w {
			t.Fatalf("Owners of %v: %v; when %d comes: %v", members, old, w, now)
		}
	}
	return goes
}

// P9.4: each worker that may come, to each one member, and to any members; some partitions go, others stay.
func TestComes(t *testing.T) {
	goes, stay := 0, 0
	check := func(members []int) {
		for w := 1; w <= api.MaxId; w++ {
			if !slices.Contains(members, w) {
				n := checkComes(t, members, w)
				goes, stay = goes+n, stay+api.MaxParts-n
			}
		}
	}
	for a := 1; a <= api.MaxId; a++ {
		check(ids(a))
	}
	check(ids(1, 2, 3, 4))
	check(ids(96, 97, 98, 99))
	r := rand.New(rand.NewPCG(9, 3))
	for range 400 {
		check(anyMembers(r, 2+r.IntN(api.MaxWorkers-2)))
	}
	if goes < 10000 || stay < 10000 {
		t.Errorf("%d partitions go, %d stay", goes, stay)
	}
}

// checkGoes: P9.5 of members and the one at a place of the list that goes; it answers how many partitions it had.
func checkGoes(t *testing.T, members []int, i int) int {
	t.Helper()
	less := without(members, i)
	old, err := Owners(members, api.MaxParts)
	now, e := Owners(less, api.MaxParts)
	if err != api.OK || e != api.OK || len(old) != api.MaxParts || len(now) != api.MaxParts {
		t.Fatalf("Owners of %v: %v, %d, of %v: %v, %d", members, old, err, less, now, e)
	}
	had := 0
	for p, w := range old {
		if w == members[i] {
			had++
			continue
		}
		if now[p] != w {
			t.Fatalf("Owners of %v: %v; when %d goes: %v", members, old, members[i], now)
		}
	}
	return had
}

// P9.5: each one that may go, of any members; some had partitions, others none.
func TestGoes(t *testing.T) {
	some, none := 0, 0
	check := func(members []int) {
		all := 0
		for i := range members {
			n := checkGoes(t, members, i)
			if all += n; n == 0 {
				none++
			} else {
				some++
			}
		}
		if all != api.MaxParts {
			t.Errorf("the members %v have %d partitions", members, all)
		}
	}
	for a := 1; a < api.MaxId; a++ {
		check(ids(a, a+1))
	}
	check(ids(1, 2, 3, 4, 5))
	check(ids(95, 96, 97, 98, 99))
	r := rand.New(rand.NewPCG(9, 4))
	for range 8000 {
		check(anyMembers(r, 2+r.IntN(api.MaxWorkers-1)))
	}
	if some < 5000 || none < 1000 {
		t.Errorf("%d had partitions, %d had none", some, none)
	}
}

// Of all workers that may be, no two have one place, and no partition has a worker's: so these two of P9.2's edges are tested of spots alone.
func TestNoTwoAtOnePlace(t *testing.T) {
	count := map[uint32]int{}
	for _, key := range keys {
		count[key]++
	}
	for w := 1; w <= api.MaxId; w++ {
		for _, place := range places[w] {
			count[place]++
		}
	}
	if len(count) != 8*api.MaxId+api.MaxParts {
		t.Errorf("%d places", len(count))
	}
}

// P9.2: two workers at one place, in whatever order they are told; a spot at the very place; the ends of the ring.
func TestNextOfSpots(t *testing.T) {
	const end = 1<<32 - 1
	for _, c := range []struct {
		place uint32
		want  spot
		l     []spot
	}{
		{50, spot{70, 3}, []spot{{70, 3}, {70, 9}, {10, 1}}},
		{50, spot{70, 3}, []spot{{70, 9}, {10, 1}, {70, 3}}},
		{70, spot{70, 3}, []spot{{70, 9}, {70, 3}, {70, 4}}},
		{71, spot{10, 2}, []spot{{70, 1}, {10, 5}, {10, 2}}},
		{71, spot{10, 2}, []spot{{10, 2}, {10, 5}, {70, 1}}},
		{70, spot{70, 9}, []spot{{69, 1}, {70, 9}, {71, 1}}},
		{70, spot{71, 1}, []spot{{69, 9}, {80, 9}, {71, 1}}},
		{0, spot{0, 4}, []spot{{1, 1}, {0, 4}, {end, 1}}},
		{0, spot{5, 4}, []spot{{5, 4}, {7, 1}}},
		{1, spot{0, 4}, []spot{{0, 4}, {0, 5}}},
		{1, spot{end, 5}, []spot{{0, 4}, {end, 5}}},
		{end, spot{end, 5}, []spot{{0, 4}, {end, 5}, {end, 6}}},
		{end, spot{0, 4}, []spot{{end - 1, 5}, {0, 4}}},
		{end, spot{end - 1, 5}, []spot{{end - 1, 5}}},
	} {
		if got := next(c.l, c.place); got != c.want {
			t.Errorf("next(%v, %d): %v; want %v", c.l, c.place, got, c.want)
		}
		slices.Reverse(c.l)
		if got := next(c.l, c.place); got != c.want {
			t.Errorf("next(%v, %d): %v; want %v", c.l, c.place, got, c.want)
		}
	}
}

// P9.2: spots of any kind, few places, so that there are many at one.
func TestNextOfAnySpots(t *testing.T) {
	r := rand.New(rand.NewPCG(9, 5))
	for range 20000 {
		var l []spot
		for range 1 + r.IntN(6) {
			l = append(l, spot{uint32(r.IntN(6)), 1 + r.IntN(4)})
		}
		place := uint32(r.IntN(7))
		inOrder := slices.Clone(l)
		slices.SortFunc(inOrder, func(a, b spot) int { return int(a.place)*10 + a.worker - int(b.place)*10 - b.worker })
		want := inOrder[0]
		for _, s := range slices.Backward(inOrder) {
			if s.place >= place {
				want = s
			}
		}
		if got := next(l, place); got != want {
			t.Fatalf("next(%v, %d): %v; want %v", l, place, got, want)
		}
	}
}

// R3: what is handed in stays as it was, its spare room too; what is answered shares no memory with it, nor with other answers.
func TestMemory(t *testing.T) {
	r := rand.New(rand.NewPCG(9, 6))
	for range 2000 {
		n := 1 + r.IntN(api.MaxWorkers)
		all := append(anyMembers(r, n), slices.Repeat(ids(-7), 9)...)
		members := all[:n]
		if r.IntN(4) == 0 {
			slices.Reverse(members)
		}
		before := slices.Clone(all)
		parts := 1 + r.IntN(api.MaxParts)
		first, err := Owners(members, parts)
		Owner(members, r.IntN(api.MaxParts))
		Right(members)
		if !slices.Equal(all, before) {
			t.Fatalf("members %v became %v", before, all)
		}
		want := slices.Clone(first)
		spoil(all)
		if !slices.Equal(first, want) {
			t.Fatalf("Owners of %v: %v became %v with its members", before[:n], want, first)
		}
		copy(all, before)
		spoil(first)
		if !slices.Equal(all, before) {
			t.Fatalf("members %v became %v with what was answered", before, all)
		}
		checkOwners(t, members, parts, want, err)
	}
}

// spoil writes over a list, and over its spare room.
func spoil(l []int) {
	l = l[:cap(l)]
	for i := range l {
		l[i] = -3
	}
}

// R1, R2, R4: any numbers and lists: no call panics, with an error there is nothing else, and the second time the answer is the same.
func TestAnyArguments(t *testing.T) {
	r := rand.New(rand.NewPCG(9, 7))
	number := func() int {
		l := ids(lowest, -1, 0, 1, 1+r.IntN(api.MaxId), api.MaxId, api.MaxId+1, greatest, int(r.Uint64()), r.IntN(8), r.IntN(8))
		return l[r.IntN(len(l))]
	}
	wrong, fine := 0, 0
	for range 20000 {
		members := anyMembers(r, 1+r.IntN(api.MaxWorkers))
		if r.IntN(2) == 0 {
			members[r.IntN(len(members))] = number()
		}
		for range r.IntN(8) / 5 {
			members = append(members, number())
		}
		right := len(members) <= api.MaxWorkers && slices.Min(members) >= 1 && slices.Max(members) <= api.MaxId && slices.IsSorted(members) && len(slices.Compact(slices.Clone(members))) == len(members)
		checkRight(t, members, right)
		n, i := number(), number()
		Mix(uint64(n))
		Place(n, i)
		Key(n)
		one, many, err, e := 0, []int(nil), api.ErrArg, api.ErrArg
		if right && n >= 0 && n < api.MaxParts {
			one, err = owners(members, n+1)[n], api.OK
		}
		if right && n >= 1 && n <= api.MaxParts {
			many, e = owners(members, n), api.OK
		}
		for range 2 {
			checkOwner(t, members, n, one, err)
			checkOwners(t, members, n, many, e)
		}
		if e == api.OK {
			fine++
		} else {
			wrong++
		}
	}
	if fine < 1000 || wrong < 1000 {
		t.Errorf("%d fine, %d wrong", fine, wrong)
	}
}
