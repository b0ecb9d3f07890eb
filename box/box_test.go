package box

import (
	"cmp"
	"maps"
	"math/big"
	"math/rand/v2"
	"slices"
	"testing"

	"haywain/api"
)

const (
	greatest = 1<<63 - 1
	lowest   = -1 << 63
)

func msgs(l ...api.Msg) []api.Msg {
	return l
}

// to answers messages to one vertex.
func to(v int, vals ...int64) []api.Msg {
	var l []api.Msg
	for _, x := range vals {
		l = append(l, api.Msg{To: v, V: x})
	}
	return l
}

func programs() []int {
	return []int{api.Sssp, api.Comp, api.Level, api.Most, api.Rank}
}

func noPrograms() []int {
	return []int{lowest, -5, -1, 0, 6, 7, 1 << 32, 1<<32 + 1, greatest}
}

func checkSort(t *testing.T, l, want []api.Msg) {
	t.Helper()
	if got := Sort(l); !slices.Equal(got, want) {
		t.Errorf("Sort(%v): %v; want %v", l, got, want)
	}
}

func checkJoin(t *testing.T, ls [][]api.Msg, want []api.Msg) {
	t.Helper()
	if got := Join(ls); !slices.Equal(got, want) {
		t.Errorf("Join(%v): %v; want %v", ls, got, want)
	}
}

func checkFold(t *testing.T, p int, l, want []api.Msg, err api.Errno) {
	t.Helper()
	if got, e := Fold(p, l); !slices.Equal(got, want) || e != err {
		t.Errorf("Fold(%d, %v): %v, %d; want %v, %d", p, l, got, e, want, err)
	}
}

func checkAt(t *testing.T, l []api.Msg, v int, want int64, some bool) {
	t.Helper()
	if got, ok := At(l, v); got != want || ok != some {
		t.Errorf("At(%v, %d): %d, %v; want %d, %v", l, v, got, ok, want, some)
	}
}

func checkSame(t *testing.T, a, b []api.Msg, want bool) {
	t.Helper()
	if Same(a, b) != want || Same(b, a) != want {
		t.Errorf("Same(%v, %v): %v, %v; want %v", a, b, Same(a, b), Same(b, a), want)
	}
}

// ahead is what the document says of two messages, in its words.
func ahead(a, b api.Msg) bool {
	return a.To < b.To || a.To == b.To && a.V < b.V
}

func inOrder(l []api.Msg) bool {
	for i := 1; i < len(l); i++ {
		if ahead(l[i], l[i-1]) {
			return false
		}
	}
	return true
}

// counts answers how often each message is there.
func counts(l []api.Msg) map[api.Msg]int {
	n := map[api.Msg]int{}
	for _, m := range l {
		n[m]++
	}
	return n
}

// wantedFold is what the document says of Fold, by other means: numbers of any size, the messages of each vertex by themselves.
func wantedFold(p int, l []api.Msg) ([]api.Msg, api.Errno) {
	if p < 1 || p > 5 {
		return nil, api.ErrArg
	}
	vals := map[int][]int64{}
	for _, m := range l {
		vals[m.To] = append(vals[m.To], m.V)
	}
	var folded []api.Msg
	for _, v := range slices.Sorted(maps.Keys(vals)) {
		val := slices.Min(vals[v])
		switch p {
		case 4:
			val = slices.Max(vals[v])
		case 5:
			sum := new(big.Int)
			for _, x := range slices.Sorted(slices.Values(vals[v])) {
				if sum.Add(sum, big.NewInt(x)); !sum.IsInt64() {
					return nil, api.ErrOver
				}
			}
			val = sum.Int64()
		}
		folded = append(folded, api.Msg{To: v, V: val})
	}
	return folded, api.OK
}

// shortLists answers all lists of up to four messages of a few.
func shortLists() [][]api.Msg {
	few := msgs(api.Msg{To: -1, V: 3}, api.Msg{To: 0, V: lowest}, api.Msg{To: 0, V: -1}, api.Msg{To: 0, V: greatest}, api.Msg{To: 1, V: 0}, api.Msg{To: 1, V: greatest})
	all := [][]api.Msg{nil}
	longest := all
	for range 4 {
		var longer [][]api.Msg
		for _, l := range longest {
			for _, m := range few {
				longer = append(longer, append(slices.Clone(l), m))
			}
		}
		all = append(all, longer...)
		longest = longer
	}
	return all
}

// anyList answers up to n messages, many of them to the same vertices and alike; with plain, none has a V below 0, and few sums are too great.
func anyList(r *rand.Rand, n int, plain bool) []api.Msg {
	verts := []int{0, 1, 2, 3, 23, 24, -1, lowest, greatest}
	l := make([]api.Msg, r.IntN(n+1))
	for i := range l {
		vals := []int64{0, 1, int64(r.IntN(9)), r.Int64N(1 << 40), r.Int64N(greatest), greatest - 1, greatest, -1, -int64(r.IntN(9)), lowest + 1, lowest}
		if plain {
			vals = []int64{0, 1, int64(r.IntN(9)), r.Int64N(1 << 40), r.Int64N(greatest / 8), r.Int64N(greatest / 2)}
		}
		l[i] = api.Msg{To: verts[r.IntN(len(verts))], V: vals[r.IntN(len(vals))]}
	}
	return l
}

func shuffled(r *rand.Rand, l []api.Msg) []api.Msg {
	l = slices.Clone(l)
	r.Shuffle(len(l), func(i, j int) { l[i], l[j] = l[j], l[i] })
	return l
}

// The chapter's examples.
func TestExamples(t *testing.T) {
	l := msgs(api.Msg{To: 1, V: 5}, api.Msg{To: 0, V: 9}, api.Msg{To: 1, V: 2})
	s := msgs(api.Msg{To: 0, V: 9}, api.Msg{To: 1, V: 2}, api.Msg{To: 1, V: 5})
	checkSort(t, l, s)
	for p, v := range map[int]int64{api.Sssp: 2, api.Rank: 7, api.Most: 5} {
		checkFold(t, p, l, msgs(api.Msg{To: 0, V: 9}, api.Msg{To: 1, V: v}), api.OK)
		checkFold(t, p, s, msgs(api.Msg{To: 0, V: 9}, api.Msg{To: 1, V: v}), api.OK)
	}
	checkAt(t, s, 1, 2, true)
	checkAt(t, s, 2, 0, false)
}

// P5.1: no list, empty ones, one message, and the order's edges.
func TestSort(t *testing.T) {
	for _, l := range [][]api.Msg{nil, {}, make([]api.Msg, 0, 9)} {
		checkSort(t, l, nil)
	}
	for _, m := range msgs(api.Msg{}, api.Msg{To: 3, V: 4}, api.Msg{To: lowest, V: greatest}) {
		checkSort(t, msgs(m), msgs(m))
		checkSort(t, msgs(m, m, m), msgs(m, m, m))
	}
	for _, want := range [][]api.Msg{
		to(4, 1, 2, 3),
		to(4, -3, -2, -2, 0, 5),
		to(0, lowest, lowest+1, -1, 0, 1, greatest-1, greatest),
		msgs(api.Msg{To: 0, V: 9}, api.Msg{To: 1, V: 2}),
		msgs(api.Msg{To: 2, V: greatest}, api.Msg{To: 3, V: lowest}),
		msgs(api.Msg{To: lowest, V: 5}, api.Msg{To: -1, V: 4}, api.Msg{To: 0, V: 3}, api.Msg{To: 1, V: 2}, api.Msg{To: greatest, V: 1}),
		msgs(api.Msg{To: 1, V: 1}, api.Msg{To: 1, V: 1}, api.Msg{To: 1, V: 2}, api.Msg{To: 2, V: 1}, api.Msg{To: 2, V: 1}, api.Msg{To: 9, V: 0}, api.Msg{To: 10, V: 0}),
	} {
		checkSort(t, want, want)
		back := slices.Clone(want)
		slices.Reverse(back)
		checkSort(t, back, want)
	}
}

// checkSorted: P5.4 of a list.
func checkSorted(t *testing.T, l []api.Msg) {
	t.Helper()
	s := Sort(l)
	if !inOrder(s) || !maps.Equal(counts(s), counts(l)) {
		t.Errorf("Sort(%v): %v", l, s)
	}
	checkSort(t, s, s)
	checkSame(t, s, l, true)
}

// P5.1, P5.4: what is sorted is in order, and the same messages.
func TestSortedIsInOrder(t *testing.T) {
	for _, l := range shortLists() {
		checkSorted(t, l)
	}
	r := rand.New(rand.NewPCG(5, 1))
	for range 3000 {
		checkSorted(t, anyList(r, 40, false))
	}
	if long := Sort(anyList(r, 20000, false)); !inOrder(long) {
		t.Errorf("%d messages aren't in order", len(long))
	}
}

// P5.1: no lists, empty ones, one, several.
func TestJoin(t *testing.T) {
	for _, ls := range [][][]api.Msg{nil, {}, {nil}, {{}}, {nil, {}, nil}, {{}, make([]api.Msg, 0, 4)}} {
		checkJoin(t, ls, nil)
	}
	a, b, c := to(1, 5, 2), msgs(api.Msg{To: 0, V: 9}, api.Msg{To: 2, V: -4}), msgs(api.Msg{To: 1, V: 3}, api.Msg{To: 0, V: 9})
	checkJoin(t, [][]api.Msg{a}, to(1, 2, 5))
	checkJoin(t, [][]api.Msg{nil, a, {}}, to(1, 2, 5))
	checkJoin(t, [][]api.Msg{a, a}, to(1, 2, 2, 5, 5))
	checkJoin(t, [][]api.Msg{a, b}, msgs(api.Msg{To: 0, V: 9}, api.Msg{To: 1, V: 2}, api.Msg{To: 1, V: 5}, api.Msg{To: 2, V: -4}))
	all := msgs(api.Msg{To: 0, V: 9}, api.Msg{To: 0, V: 9}, api.Msg{To: 1, V: 2}, api.Msg{To: 1, V: 3}, api.Msg{To: 1, V: 5}, api.Msg{To: 2, V: -4})
	for _, ls := range [][][]api.Msg{{a, b, c}, {a, c, b}, {b, a, c}, {b, c, a}, {c, a, b}, {c, b, a}, {a, nil, b, c}, {all}, {Sort(a), Sort(b), Sort(c)}} {
		checkJoin(t, ls, all)
	}
}

// P5.1: Join of any lists is all their messages, in order.
func TestJoinOfAny(t *testing.T) {
	r := rand.New(rand.NewPCG(5, 2))
	for range 2000 {
		ls := make([][]api.Msg, r.IntN(6))
		var all []api.Msg
		for i := range ls {
			ls[i] = anyList(r, 12, false)
			all = append(all, ls[i]...)
		}
		got := Join(ls)
		if !inOrder(got) || !maps.Equal(counts(got), counts(all)) {
			t.Errorf("Join(%v): %v", ls, got)
		}
	}
}

// P5.1: each message as often in the one as in the other, in whatever order.
func TestSame(t *testing.T) {
	checkSame(t, nil, nil, true)
	checkSame(t, nil, msgs(), true)
	checkSame(t, msgs(), make([]api.Msg, 0, 3), true)
	checkSame(t, nil, msgs(api.Msg{}), false)
	checkSame(t, to(1, 5), to(1, 5), true)
	checkSame(t, to(1, 5), to(1, 6), false)
	checkSame(t, to(1, 5), to(2, 5), false)
	checkSame(t, to(1, 2, 5), to(1, 5, 2), true)
	checkSame(t, to(1, 2, 5), to(1, 2), false)
	checkSame(t, to(1, 2, 5), to(1, 5), false)
	checkSame(t, to(1, 2, 2, 5), to(1, 2, 5), false)
	checkSame(t, to(1, 2, 2, 5), to(1, 2, 5, 5), false)
	checkSame(t, to(1, 2, 5, 2), to(1, 5, 2, 2), true)
	checkSame(t, to(1, 0, 4), to(1, 1, 3), false)
	checkSame(t, msgs(api.Msg{To: 1, V: 2}, api.Msg{To: 2, V: 1}), msgs(api.Msg{To: 1, V: 1}, api.Msg{To: 2, V: 2}), false)
	checkSame(t, msgs(api.Msg{To: 1, V: 2}, api.Msg{To: 2, V: 1}), msgs(api.Msg{To: 2, V: 1}, api.Msg{To: 1, V: 2}), true)
	checkSame(t, to(lowest, lowest), to(lowest, greatest), false)
}

// P5.1: Same against counting.
func TestSameAgainstCounts(t *testing.T) {
	var short [][]api.Msg
	for _, l := range shortLists() {
		if len(l) <= 3 {
			short = append(short, l)
		}
	}
	same := 0
	for _, a := range short {
		for _, b := range short {
			want := maps.Equal(counts(a), counts(b))
			if Same(a, b) != want {
				t.Errorf("Same(%v, %v): %v", a, b, !want)
			}
			if want {
				same++
			}
		}
	}
	if same <= len(short) || same == len(short)*len(short) {
		t.Errorf("%d of %d lists, two by two, are the same", same, len(short))
	}
	r := rand.New(rand.NewPCG(5, 3))
	for range 500 {
		l := append(anyList(r, 20, false), api.Msg{To: 1, V: 1})
		other := shuffled(r, l)
		checkSame(t, l, other, true)
		checkSame(t, l, other[1:], false)
		checkSame(t, l, append(slices.Clone(other), other[0]), false)
		other[r.IntN(len(other))].V ^= 1
		checkSame(t, l, other, maps.Equal(counts(l), counts(other)))
	}
}

// P5.2: what each program makes of messages to one vertex, and to several.
func TestFold(t *testing.T) {
	for _, p := range programs() {
		for _, l := range [][]api.Msg{nil, {}, make([]api.Msg, 0, 9)} {
			checkFold(t, p, l, nil, api.OK)
		}
		for _, m := range msgs(api.Msg{}, api.Msg{To: 3, V: -4}, api.Msg{To: lowest, V: lowest}, api.Msg{To: greatest, V: greatest}) {
			checkFold(t, p, msgs(m), msgs(m), api.OK)
		}
		checkFold(t, p, msgs(api.Msg{To: 2, V: greatest}, api.Msg{To: -1, V: 5}, api.Msg{To: 1, V: greatest}), msgs(api.Msg{To: -1, V: 5}, api.Msg{To: 1, V: greatest}, api.Msg{To: 2, V: greatest}), api.OK)
	}
	for _, c := range []struct {
		vals               []int64
		less, greater, sum int64
	}{
		{[]int64{4, 4}, 4, 4, 8},
		{[]int64{3, 8}, 3, 8, 11},
		{[]int64{8, 3}, 3, 8, 11},
		{[]int64{8, 3, 5, 3}, 3, 8, 19},
		{[]int64{-8, 3, -5}, -8, 3, -10},
		{[]int64{-8, -3}, -8, -3, -11},
		{[]int64{0, 0, 0, 0}, 0, 0, 0},
		{[]int64{greatest, lowest}, lowest, greatest, -1},
	} {
		l := append(append(to(7, 1), to(4, c.vals...)...), to(-2, 6)...)
		for p, v := range map[int]int64{api.Sssp: c.less, api.Comp: c.less, api.Level: c.less, api.Most: c.greater, api.Rank: c.sum} {
			checkFold(t, p, to(4, c.vals...), to(4, v), api.OK)
			checkFold(t, p, l, msgs(api.Msg{To: -2, V: 6}, api.Msg{To: 4, V: v}, api.Msg{To: 7, V: 1}), api.OK)
		}
	}
}

// P5.2: a program that is none: with no messages, with nothing to fold, and ahead of a sum that is too great.
func TestFoldNoProgram(t *testing.T) {
	for _, p := range noPrograms() {
		for _, l := range [][]api.Msg{nil, {}, to(1, 5), to(1, 5, 6), to(1, greatest, 1), to(1, lowest, -1), {{To: 1, V: 5}, {To: 2, V: 5}}} {
			checkFold(t, p, l, nil, api.ErrArg)
		}
	}
}

// P5.2: sums at both ends of 64 bits, one beyond, and too great on the way though the whole isn't; of the other programs no number is too great.
func TestFoldTooGreat(t *testing.T) {
	for _, c := range []struct {
		vals []int64
		sum  int64
		err  api.Errno
	}{
		{[]int64{greatest, 0}, greatest, api.OK},
		{[]int64{greatest - 1, 1}, greatest, api.OK},
		{[]int64{greatest, 1}, 0, api.ErrOver},
		{[]int64{greatest - 1, 2}, 0, api.ErrOver},
		{[]int64{greatest - 2, 1, 1}, greatest, api.OK},
		{[]int64{greatest - 1, 1, 1}, 0, api.ErrOver},
		{[]int64{greatest, greatest}, 0, api.ErrOver},
		{[]int64{lowest, 0}, lowest, api.OK},
		{[]int64{lowest + 1, -1}, lowest, api.OK},
		{[]int64{lowest, -1}, 0, api.ErrOver},
		{[]int64{lowest, lowest}, 0, api.ErrOver},
		{[]int64{lowest + 2, -1, -1}, lowest, api.OK},
		{[]int64{lowest + 1, -1, -1}, 0, api.ErrOver},
		// In order the least ones are summed first: -2^63 and -1 are too great, though 1 would mend it.
		{[]int64{lowest, -1, 1}, 0, api.ErrOver},
		{[]int64{1, lowest, -1}, 0, api.ErrOver},
		{[]int64{lowest, lowest, greatest, greatest}, 0, api.ErrOver},
		{[]int64{lowest, greatest, -1, 5}, 0, api.ErrOver},
		// As they stand these would be too great on the way; in order they are not.
		{[]int64{greatest, 1, -1}, greatest, api.OK},
		{[]int64{1, greatest, -5}, greatest - 4, api.OK},
		{[]int64{greatest, greatest, lowest}, greatest - 1, api.OK},
		{[]int64{greatest, greatest, lowest + 1}, greatest, api.OK},
		{[]int64{greatest, greatest, lowest + 2}, 0, api.ErrOver},
	} {
		want := to(3, c.sum)
		beside := msgs(api.Msg{To: 2, V: greatest}, api.Msg{To: 3, V: c.sum}, api.Msg{To: 4, V: lowest})
		if c.err != api.OK {
			want, beside = nil, nil
		}
		checkFold(t, api.Rank, to(3, c.vals...), want, c.err)
		checkFold(t, api.Rank, append(append(to(4, lowest), to(3, c.vals...)...), to(2, greatest)...), beside, c.err)
		for _, p := range []int{api.Sssp, api.Comp, api.Level} {
			checkFold(t, p, to(3, c.vals...), to(3, slices.Min(c.vals)), api.OK)
		}
		checkFold(t, api.Most, to(3, c.vals...), to(3, slices.Max(c.vals)), api.OK)
	}
}

// checkFolded: P5.2 and P5.4 of a list, by all programs and by some that are none; it counts what Rank has told.
func checkFolded(t *testing.T, l []api.Msg, told map[api.Errno]int) {
	t.Helper()
	for _, p := range append(programs(), 0, 6) {
		want, err := wantedFold(p, l)
		checkFold(t, p, l, want, err)
		if p == api.Rank {
			told[err]++
		}
		got, e := Fold(p, l)
		if e != api.OK {
			continue
		}
		for i, m := range got {
			if i > 0 && got[i-1].To >= m.To || !slices.ContainsFunc(l, func(x api.Msg) bool { return x.To == m.To }) {
				t.Errorf("Fold(%d, %v): %v", p, l, got)
			}
		}
		for _, m := range l {
			if !slices.ContainsFunc(got, func(x api.Msg) bool { return x.To == m.To }) {
				t.Errorf("Fold(%d, %v): %v has none to %d", p, l, got, m.To)
			}
		}
	}
}

// P5.2, P5.4: against numbers of any size; one message for each vertex to which one was, and no others.
func TestFoldAgainstBigNumbers(t *testing.T) {
	told := map[api.Errno]int{}
	for _, l := range shortLists() {
		checkFolded(t, l, told)
	}
	r := rand.New(rand.NewPCG(5, 4))
	for i := range 3000 {
		checkFolded(t, anyList(r, 30, i%2 == 0), told)
	}
	if told[api.OK] < 100 || told[api.ErrOver] < 100 {
		t.Errorf("Rank has told %v", told)
	}
}

// R1, P5.2: a list that is far longer than what a superstep sends.
func TestFoldLong(t *testing.T) {
	var l []api.Msg
	for i := range 20000 {
		l = append(l, api.Msg{To: i % 5, V: int64(20000 - i)})
	}
	for p, vals := range map[int][]int64{api.Comp: {5, 4, 3, 2, 1}, api.Most: {20000, 19999, 19998, 19997, 19996}, api.Rank: {40010000, 40006000, 40002000, 39998000, 39994000}} {
		var want []api.Msg
		for v, val := range vals {
			want = append(want, api.Msg{To: v, V: val})
		}
		if got, e := Fold(p, l); !slices.Equal(got, want) || e != api.OK {
			t.Errorf("Fold by %d: %d messages, %d; want %v", p, len(got), e, want)
		}
	}
}

// inParts answers what messages are folded into in parts, and then together; false: a part can't be folded.
func inParts(p int, parts [][]api.Msg) ([]api.Msg, api.Errno, bool) {
	var folded [][]api.Msg
	for _, part := range parts {
		l, err := Fold(p, part)
		if err != api.OK {
			return nil, err, false
		}
		folded = append(folded, l)
	}
	l, err := Fold(p, Join(folded))
	return l, err, true
}

// checkParts: P5.5 of one division of messages into parts.
func checkParts(t *testing.T, p int, parts [][]api.Msg) bool {
	t.Helper()
	all, err := Fold(p, slices.Concat(parts...))
	l, e, ok := inParts(p, parts)
	if !slices.Equal(l, all) || e != err {
		t.Errorf("%d: %v in parts: %v, %d; at once: %v, %d", p, parts, l, e, all, err)
	}
	return ok
}

// P5.5: all ways to divide up to four messages into two parts.
func TestFoldInTwoParts(t *testing.T) {
	for _, l := range shortLists() {
		for _, p := range programs() {
			if p == api.Rank && slices.ContainsFunc(l, func(m api.Msg) bool { return m.V < 0 }) {
				continue
			}
			for set := range 1 << len(l) {
				parts := make([][]api.Msg, 2)
				for i, m := range l {
					parts[set>>i&1] = append(parts[set>>i&1], m)
				}
				checkParts(t, p, parts)
			}
		}
	}
}

// P5.5: any messages in any parts; of Rank sums come that fit, that are too great in a part, and only together.
func TestFoldInParts(t *testing.T) {
	r := rand.New(rand.NewPCG(5, 5))
	parted, together := 0, 0
	for range 3000 {
		for _, p := range programs() {
			parts := make([][]api.Msg, 1+r.IntN(5))
			for _, m := range anyList(r, 25, p == api.Rank) {
				at := r.IntN(len(parts))
				parts[at] = append(parts[at], m)
			}
			ok := checkParts(t, p, parts)
			if p != api.Rank && !ok {
				t.Errorf("%d: %v: a part can't be folded", p, parts)
			}
			if _, err := Fold(p, Join(parts)); err == api.OK {
				continue
			}
			if ok {
				together++
			} else {
				parted++
			}
		}
	}
	if parted == 0 || together == 0 {
		t.Errorf("too great in a part: %d, only together: %d", parted, together)
	}
	checkParts(t, api.Rank, [][]api.Msg{to(1, greatest, 1), to(1, 5), to(2, 7)})
	checkParts(t, api.Rank, [][]api.Msg{to(1, greatest), to(1, 1), to(2, 7)})
	checkParts(t, api.Rank, [][]api.Msg{to(1, greatest-1), nil, to(1, 1), to(2, greatest)})
	checkParts(t, api.Rank, nil)
}

// P5.6: all orders of four messages, numbers below 0 and sums that are too great among them.
func TestFoldAllOrders(t *testing.T) {
	for _, l := range [][]api.Msg{
		to(1, lowest, -1, 1, greatest),
		to(1, greatest, greatest, lowest, 1),
		to(1, lowest, lowest, greatest, greatest),
		to(1, greatest, 1, -1, -1),
		{{To: 2, V: 5}, {To: 1, V: 5}, {To: 2, V: -5}, {To: 0, V: 0}},
		{{To: 2, V: greatest}, {To: 1, V: 5}, {To: 2, V: 1}, {To: 1, V: -6}},
	} {
		for _, p := range programs() {
			want, err := wantedFold(p, l)
			for i := range 256 {
				order := []int{i & 3, i >> 2 & 3, i >> 4 & 3, i >> 6}
				if slices.Equal(slices.Sorted(slices.Values(order)), []int{0, 1, 2, 3}) {
					checkFold(t, p, msgs(l[order[0]], l[order[1]], l[order[2]], l[order[3]]), want, err)
				}
			}
		}
	}
}

// P5.6: any messages in any order.
func TestFoldAnyOrder(t *testing.T) {
	r := rand.New(rand.NewPCG(5, 6))
	for i := range 1500 {
		l := anyList(r, 30, i%2 == 0)
		for _, p := range programs() {
			want, err := Fold(p, l)
			back := slices.Clone(l)
			slices.Reverse(back)
			for _, other := range [][]api.Msg{Sort(l), back, shuffled(r, l), shuffled(r, l)} {
				checkFold(t, p, other, want, err)
			}
		}
	}
}

// P5.3: none, one, several, in lists that are in order and that are not.
func TestAt(t *testing.T) {
	for _, l := range [][]api.Msg{nil, {}, make([]api.Msg, 1, 9)[:0]} {
		for _, v := range []int{lowest, -1, 0, 1, greatest} {
			checkAt(t, l, v, 0, false)
		}
	}
	l := msgs(api.Msg{To: 3, V: 8}, api.Msg{To: 1, V: 5}, api.Msg{To: 3, V: 2}, api.Msg{To: 0, V: 0}, api.Msg{To: -1, V: -7}, api.Msg{To: 1, V: 9}, api.Msg{To: greatest, V: lowest}, api.Msg{To: lowest, V: greatest})
	checkAt(t, l, 3, 8, true)
	checkAt(t, l, 1, 5, true)
	checkAt(t, l, 0, 0, true)
	checkAt(t, l, -1, -7, true)
	checkAt(t, l, greatest, lowest, true)
	checkAt(t, l, lowest, greatest, true)
	for _, v := range []int{2, 4, -2, -3, 8, 1<<32 + 1, greatest - 1, lowest + 1} {
		checkAt(t, l, v, 0, false)
	}
	s := Sort(l)
	checkAt(t, s, 3, 2, true)
	checkAt(t, s, 1, 5, true)
	checkAt(t, s, 2, 0, false)
	checkAt(t, to(4, 6, 5, 7), 4, 6, true)
	checkAt(t, to(4, 0, 5), 4, 0, true)
	checkAt(t, to(4, 6), 5, 0, false)
}

// P5.3: in any list, each vertex.
func TestAtOfAny(t *testing.T) {
	r := rand.New(rand.NewPCG(5, 7))
	for range 2000 {
		l := anyList(r, 12, false)
		for _, v := range []int{0, 1, 2, 3, 4, 23, 24, -1, -2, lowest, greatest} {
			at := slices.IndexFunc(l, func(m api.Msg) bool { return m.To == v })
			if at < 0 {
				checkAt(t, l, v, 0, false)
			} else {
				checkAt(t, l, v, l[at].V, true)
			}
		}
	}
}

// roomy answers a list with spare room, and all of its memory.
func roomy(l []api.Msg) (handed, all []api.Msg) {
	all = append(slices.Clone(l), slices.Repeat(msgs(api.Msg{To: 91, V: 92}), 9)...)
	return all[:len(l)], all
}

// spoil writes over a list, and over its spare room.
func spoil(l []api.Msg) {
	l = l[:cap(l)]
	for i := range l {
		l[i] = api.Msg{To: -7, V: -8}
	}
}

// calls answers each call that answers a list, of one list.
func calls() []func(l []api.Msg) []api.Msg {
	all := []func(l []api.Msg) []api.Msg{
		Sort,
		func(l []api.Msg) []api.Msg { return Join([][]api.Msg{l}) },
		func(l []api.Msg) []api.Msg { return Join([][]api.Msg{nil, l, {}}) },
		func(l []api.Msg) []api.Msg { return Join([][]api.Msg{l, l}) },
	}
	for _, p := range append(programs(), 0, 6) {
		all = append(all, func(l []api.Msg) []api.Msg { folded, _ := Fold(p, l); return folded })
	}
	return all
}

// R3: what is handed in is neither changed nor kept, and what is answered shares nothing with it, nor with another answer, spare room too.
func TestMemory(t *testing.T) {
	lists := [][]api.Msg{nil, {}, to(3, 4), to(1, 1, 2, 3), to(1, 3, 2, 1), to(1, greatest, 1), {{To: 1, V: 5}, {To: 0, V: 9}, {To: 1, V: 2}}, {{To: 0, V: 9}, {To: 1, V: 2}, {To: 2, V: 5}}}
	for _, l := range lists {
		for i, call := range calls() {
			want := slices.Clone(call(l))
			handed, all := roomy(l)
			before := slices.Clone(all)
			first, again := call(handed), call(handed)
			if !slices.Equal(all, before) {
				t.Errorf("call %d of %v: the list handed in was changed", i, l)
			}
			spoil(first)
			if !slices.Equal(all, before) || !slices.Equal(again, want) {
				t.Errorf("call %d of %v: the answer shares memory", i, l)
			}
			spoil(all)
			if !slices.Equal(again, want) || !slices.Equal(call(l), want) {
				t.Errorf("call %d of %v: the list handed in was kept", i, l)
			}
		}
	}
}

// R3: Join's list of lists stays as it was, each list of it too.
func TestMemoryOfJoin(t *testing.T) {
	a, allOfA := roomy(to(2, 3, 1))
	b, allOfB := roomy(to(1, 9, 7))
	lists := [][]api.Msg{a, b, nil, to(0, 5)}
	handed := lists[:2]
	beforeA, beforeB := slices.Clone(allOfA), slices.Clone(allOfB)
	got := Join(handed)
	spoil(got)
	if !slices.Equal(allOfA, beforeA) || !slices.Equal(allOfB, beforeB) {
		t.Errorf("the lists handed in were changed: %v, %v", allOfA, allOfB)
	}
	if &lists[0][0] != &a[0] || &lists[1][0] != &b[0] || len(lists[0]) != 2 || len(lists[1]) != 2 || lists[2] != nil || !slices.Equal(lists[3], to(0, 5)) {
		t.Errorf("the list of lists was changed: %v", lists)
	}
}

// R3: Same and At change nothing.
func TestMemoryOfQuestions(t *testing.T) {
	a, allOfA := roomy(to(2, 3, 1, 2))
	b, allOfB := roomy(to(2, 2, 3, 1))
	beforeA, beforeB := slices.Clone(allOfA), slices.Clone(allOfB)
	Same(a, b)
	Same(a, a)
	At(a, 2)
	At(b, 5)
	if !slices.Equal(allOfA, beforeA) || !slices.Equal(allOfB, beforeB) {
		t.Errorf("the lists handed in were changed: %v, %v", allOfA, allOfB)
	}
}

// 'Ways': the function that sorts goes by the order that it is handed, whatever the items, and leaves items of the same place as they stood.
func TestSortedByAnyOrder(t *testing.T) {
	down := func(a, b int) int { return cmp.Compare(b, a) }
	if l := sorted(down, []int{3, 1}, nil, []int{2, 9}); !slices.Equal(l, []int{9, 3, 2, 1}) {
		t.Errorf("%v", l)
	}
	if l := sorted(func(a, b string) int { return len(a) - len(b) }, []string{"hay", "wain"}, []string{"rye", "a"}); !slices.Equal(l, []string{"a", "hay", "rye", "wain"}) {
		t.Errorf("%v", l)
	}
	if l := sorted(down); len(l) != 0 {
		t.Errorf("%v", l)
	}
}
