package lease

import (
	"math/rand/v2"
	"testing"

	"haywain/api"
)

const (
	greatest = 1<<63 - 1
	lowest   = -1 << 63
	maxNum   = 1 << 40
)

func checkUntil(t *testing.T, asked, n, want int, err api.Errno) {
	t.Helper()
	if got, e := Until(asked, n); got != want || e != err {
		t.Errorf("Until(%d, %d): %d, %d; want %d, %d", asked, n, got, e, want, err)
	}
}

func checkFree(t *testing.T, given, n, want int, err api.Errno) {
	t.Helper()
	if got, e := Free(given, n); got != want || e != err {
		t.Errorf("Free(%d, %d): %d, %d; want %d, %d", given, n, got, e, want, err)
	}
}

func checkHolds(t *testing.T, now, until int, want bool) {
	t.Helper()
	if Holds(now, until) != want {
		t.Errorf("Holds(%d, %d): %v; want %v", now, until, !want, want)
	}
}

func checkGone(t *testing.T, now, free int, want bool) {
	t.Helper()
	if Gone(now, free) != want {
		t.Errorf("Gone(%d, %d): %v; want %v", now, free, !want, want)
	}
}

// spans answers for how many eighths a lease is held, and for how many it isn't taken for gone: counted tick by tick, the latter in sevenths of an eighth.
func spans(n int) (held, free int) {
	sevenths := 0
	for range n {
		held += 8
		sevenths += 72
	}
	for ; sevenths > 0; sevenths -= 7 {
		free++
	}
	return held, free
}

// behind is what the document says of a moment and of a lease of n ticks, of which what is told lies so far behind it.
func behind(moment, n, span int) (int, api.Errno) {
	if moment < 0 || moment > maxNum || n < 1 || n > 1000 {
		return 0, api.ErrArg
	}
	if span > maxNum-moment {
		return 0, api.ErrOver
	}
	return moment + span, api.OK
}

// checkBoth: what Until and Free tell of a moment and of an n; it answers how they end.
func checkBoth(t *testing.T, moment, n int) (until, free api.Errno) {
	t.Helper()
	held, taken := 0, 0
	if n > 0 && n <= 1000 {
		held, taken = spans(n)
	}
	want, until := behind(moment, n, held)
	checkUntil(t, moment, n, want, until)
	want, free = behind(moment, n, taken)
	checkFree(t, moment, n, want, free)
	return until, free
}

func anyOf[T any](r *rand.Rand, l ...T) T {
	return l[r.IntN(len(l))]
}

// moments answers numbers at which moments begin and end, and others, rising.
func moments() []int {
	return []int{lowest, lowest + 1, lowest + 8000, -maxNum, -1 << 32, -10286, -8000, -11, -8, -1, 0, 1, 2, 7, 8, 9, 100, 1 << 31, 1 << 32, 1<<32 + 1, maxNum / 2,
		maxNum - 10287, maxNum - 10286, maxNum - 10285, maxNum - 8001, maxNum - 8000, maxNum - 7999, maxNum - 12, maxNum - 11, maxNum - 10, maxNum - 9, maxNum - 8, maxNum - 7, maxNum - 1,
		maxNum, maxNum + 1, maxNum + 8, 1 << 41, 1<<62 + 1, greatest - 10286, greatest - 8000, greatest - 1, greatest}
}

// lengths answers numbers at which the lengths of leases begin and end, and others; some of them come round to short ones, when they are multiplied.
func lengths() []int {
	return []int{lowest, lowest + 1, -1 << 61, 1<<61 - 1<<62, -1 << 32, -1001, -1000, -10, -7, -1, 0, 1, 2, 3, 6, 7, 8, 10, 14, 100, 999, 1000, 1001, 1002, 1 << 16, 1 << 31,
		1 << 32, 1<<32 + 10, maxNum, 1 << 60, 1<<60 + 1, 1 << 61, 1<<61 + 1, 1<<61 + 10, 1<<61 + 1000, 1 << 62, 1<<62 + 10, greatest / 72, greatest/72 + 1, greatest/72*2 + 10, greatest - 1, greatest}
}

// The chapter's examples, and that of DOC.md.
func TestExamples(t *testing.T) {
	checkUntil(t, 100, 10, 180, api.OK)
	checkFree(t, 100, 10, 203, api.OK)
	checkHolds(t, 179, 180, true)
	checkHolds(t, 180, 180, false)
	checkGone(t, 202, 203, false)
	checkGone(t, 203, 203, true)
}

func TestMaxTicks(t *testing.T) {
	if MaxTicks != 1000 {
		t.Errorf("MaxTicks: %d", MaxTicks)
	}
}

// P12.1: the edges, written out.
func TestEdgesWritten(t *testing.T) {
	checkUntil(t, 0, 1, 8, api.OK)
	checkFree(t, 0, 1, 11, api.OK)
	checkUntil(t, 1, 1, 9, api.OK)
	checkFree(t, 1, 1, 12, api.OK)
	checkUntil(t, 0, 999, 7992, api.OK)
	checkFree(t, 0, 999, 10276, api.OK)
	checkUntil(t, 0, 1000, 8000, api.OK)
	checkFree(t, 0, 1000, 10286, api.OK)
	checkUntil(t, 5, 7, 61, api.OK)
	checkFree(t, 5, 7, 77, api.OK)
	checkUntil(t, maxNum-8, 1, maxNum, api.OK)
	checkUntil(t, maxNum-7, 1, 0, api.ErrOver)
	checkUntil(t, maxNum-8000, 1000, maxNum, api.OK)
	checkUntil(t, maxNum-7999, 1000, 0, api.ErrOver)
	checkFree(t, maxNum-11, 1, maxNum, api.OK)
	checkFree(t, maxNum-10, 1, 0, api.ErrOver)
	checkFree(t, maxNum-10286, 1000, maxNum, api.OK)
	checkFree(t, maxNum-10285, 1000, 0, api.ErrOver)
	for _, n := range []int{1, 2, 999, 1000} {
		for _, moment := range []int{maxNum - 1, maxNum} {
			checkUntil(t, moment, n, 0, api.ErrOver)
			checkFree(t, moment, n, 0, api.ErrOver)
		}
	}
}

// P12.1: moments and lengths that may not be; that comes ahead of what would be too great, or would have come round.
func TestWrong(t *testing.T) {
	for _, n := range lengths() {
		for _, moment := range []int{lowest, lowest + 8000, -10286, -1, maxNum + 1, maxNum + 2, greatest - 1, greatest} {
			checkUntil(t, moment, n, 0, api.ErrArg)
			checkFree(t, moment, n, 0, api.ErrArg)
		}
	}
	for _, moment := range moments() {
		for _, n := range []int{lowest, -1 << 61, -1000, -1, 0, 1001, 1 << 32, maxNum, 1 << 61, 1<<61 + 10, 1 << 62, greatest/72 + 1, greatest} {
			checkUntil(t, moment, n, 0, api.ErrArg)
			checkFree(t, moment, n, 0, api.ErrArg)
		}
	}
}

// P12.1: all moments at the edges with all lengths at theirs, and every length with them.
func TestEdges(t *testing.T) {
	for _, moment := range moments() {
		for _, n := range lengths() {
			checkBoth(t, moment, n)
		}
		for n := -3; n <= MaxTicks+3; n++ {
			checkBoth(t, moment, n)
		}
	}
}

// P12.1: what is 72 times n, divided by 7, rounded up: it is not less, and one less would be.
func TestRoundedUp(t *testing.T) {
	whole := 0
	for n := 1; n <= MaxTicks; n++ {
		for _, given := range []int{0, 1, 100, maxNum / 2, maxNum - 10286} {
			free, err := Free(given, n)
			if span := free - given; err != api.OK || 7*span < 72*n || 7*(span-1) >= 72*n {
				t.Errorf("Free(%d, %d): %d, %d", given, n, free, err)
			}
			if 7*(free-given) == 72*n {
				whole++
			}
		}
		if until, err := Until(0, n); until != 8*n || err != api.OK {
			t.Errorf("Until(0, %d): %d, %d", n, until, err)
		}
	}
	if whole != 5*(MaxTicks/7) {
		t.Errorf("nothing was to be rounded %d times", whole)
	}
}

// P12.1: of every length a moment of which what is told is just MaxNum, one less and one more.
func TestJustMaxNum(t *testing.T) {
	for n := 1; n <= MaxTicks; n++ {
		held, taken := spans(n)
		checkUntil(t, maxNum-held-1, n, maxNum-1, api.OK)
		checkUntil(t, maxNum-held, n, maxNum, api.OK)
		checkUntil(t, maxNum-held+1, n, 0, api.ErrOver)
		checkFree(t, maxNum-taken-1, n, maxNum-1, api.OK)
		checkFree(t, maxNum-taken, n, maxNum, api.OK)
		checkFree(t, maxNum-taken+1, n, 0, api.ErrOver)
	}
}

// P12.1: a moment at which a lease ends, one ahead of it and one behind it, also where it isn't one of a clock.
func TestHoldsAndGone(t *testing.T) {
	for _, end := range moments() {
		checkHolds(t, end, end, false)
		checkGone(t, end, end, true)
		if end > lowest {
			checkHolds(t, end-1, end, true)
			checkGone(t, end-1, end, false)
			checkHolds(t, lowest, end, true)
			checkGone(t, lowest, end, false)
		}
		if end < greatest {
			checkHolds(t, end+1, end, false)
			checkGone(t, end+1, end, true)
			checkHolds(t, greatest, end, false)
			checkGone(t, greatest, end, true)
		}
	}
	for i, now := range moments() {
		for k, end := range moments() {
			checkHolds(t, now, end, i < k)
			checkGone(t, now, end, i >= k)
		}
	}
}

// clock is one whose pace is told for each tick.
type clock struct {
	now  int
	pace func() int
}

func (c *clock) tick() {
	c.now += c.pace()
}

// steady answers a pace that stays.
func steady(eighths int) func() int {
	return func() int { return eighths }
}

// drawn answers a pace that is drawn, in one of several ways: anew at each tick, seldom, or from one bound to the other once.
func drawn(r *rand.Rand) func() int {
	pace, seldom := 7+r.IntN(3), anyOf(r, 1, 1, 2, 10, 100)
	if r.IntN(4) == 0 {
		ticks, ahead, then := r.IntN(1200), anyOf(r, 7, 9), anyOf(r, 7, 8, 9)
		return func() int {
			ticks--
			if ticks >= 0 {
				return ahead
			}
			return then
		}
	}
	return func() int {
		if r.IntN(seldom) == 0 {
			pace = 7 + r.IntN(3)
		}
		return pace
	}
}

// seen is how a lease was held and taken for gone in one play.
type seen struct {
	heldTicks, goneTicks int
}

// play: a worker asks for a lease of n ticks and is given it some ticks later; then the clocks go on beyond its end. It fails, if the lease is held and gone at once, or not over in time.
func play(t *testing.T, worker, coordinator clock, n, later int) seen {
	t.Helper()
	until, err := Until(worker.now, n)
	if err != api.OK {
		t.Fatalf("Until(%d, %d): %d", worker.now, n, err)
	}
	for range later {
		worker.tick()
		coordinator.tick()
	}
	free, err := Free(coordinator.now, n)
	if err != api.OK {
		t.Fatalf("Free(%d, %d): %d", coordinator.now, n, err)
	}
	var s seen
	for ticks := range 2*n + 5 {
		held, gone := Holds(worker.now, until), Gone(coordinator.now, free)
		if held && gone {
			t.Fatalf("%d ticks behind: the worker holds at %d up to %d, at %d it is gone from %d on", ticks, worker.now, until, coordinator.now, free)
		}
		if ticks >= 2*n && (held || !gone) {
			t.Fatalf("%d ticks of %d behind: held at %d up to %d: %v; gone at %d from %d on: %v", ticks, n, worker.now, until, held, coordinator.now, free, gone)
		}
		if held {
			s.heldTicks++
		}
		if gone {
			s.goneTicks++
		}
		worker.tick()
		coordinator.tick()
	}
	return s
}

// P12.2, P12.3: every length, with clocks that go on by the most, by the least and as they should; asked for and given at once, and later.
func TestClocksAtTheirBounds(t *testing.T) {
	for n := 1; n <= MaxTicks; n++ {
		for _, later := range []int{0, 1, n / 2, n, n + n/7} {
			for _, mine := range []int{7, 8, 9} {
				for _, its := range []int{7, 8, 9} {
					s := play(t, clock{100, steady(mine)}, clock{7, steady(its)}, n, later)
					if s.heldTicks == 0 && mine*later < 8*n || s.goneTicks == 0 {
						t.Fatalf("n %d, %d ticks later, paces %d and %d: held %d ticks, gone %d", n, later, mine, its, s.heldTicks, s.goneTicks)
					}
				}
			}
		}
	}
}

// P12.2: a slow clock of the worker and a fast one of the coordinator leave at most one tick at which a lease is neither held nor gone: these plays come close to what would be too soon.
func TestJustSafe(t *testing.T) {
	for n := 1; n <= MaxTicks; n++ {
		s := play(t, clock{0, steady(7)}, clock{0, steady(9)}, n, 0)
		between := 2*n + 5 - s.heldTicks - s.goneTicks
		if between < 0 || between > 1 {
			t.Errorf("n %d: %d ticks between", n, between)
		}
	}
}

// P12.2, P12.3: clocks and ways in which they go on, lengths, and how much later a lease is given, all drawn.
func TestDrawnClocks(t *testing.T) {
	r := rand.New(rand.NewPCG(12, 1))
	begin := func() int {
		return anyOf(r, 0, 1, r.IntN(10000), r.IntN(maxNum/2), maxNum-80000-r.IntN(10))
	}
	heldLater := 0
	for range 20000 {
		n, later := anyOf(r, 1, 2, 7, 1+r.IntN(20), 1+r.IntN(MaxTicks), MaxTicks), anyOf(r, 0, 0, 1, r.IntN(20), r.IntN(2000))
		s := play(t, clock{begin(), drawn(r)}, clock{begin(), drawn(r)}, n, later)
		if later > 0 && s.heldTicks > 0 {
			heldLater++
		}
	}
	if heldLater < 3000 {
		t.Errorf("given later and held yet: %d times", heldLater)
	}
}

// ends answers when a lease isn't held any more, and from when it is taken for gone.
func ends(t *testing.T, asked, given, n int) (until, free int) {
	t.Helper()
	until, err := Until(asked, n)
	if err != api.OK {
		t.Fatalf("Until(%d, %d): %d", asked, n, err)
	}
	free, err = Free(given, n)
	if err != api.OK {
		t.Fatalf("Free(%d, %d): %d", given, n, err)
	}
	return until, free
}

// checkLonger: of two leases the longer one is held yet when the shorter one is not, and is not gone when the shorter one is; never the other way round.
func checkLonger(t *testing.T, asked, given, short, long int) {
	t.Helper()
	until, free := ends(t, asked, given, short)
	longUntil, longFree := ends(t, asked, given, long)
	if longUntil <= until || longFree <= free {
		t.Fatalf("asked for at %d, given at %d: of %d ticks %d and %d, of %d ticks %d and %d", asked, given, short, until, free, long, longUntil, longFree)
	}
	checkHolds(t, until, until, false)
	checkHolds(t, until, longUntil, true)
	checkGone(t, free, free, true)
	checkGone(t, free, longFree, false)
	for _, now := range []int{0, asked, until - 1, until, longUntil - 1, longUntil, given, free - 1, free, longFree - 1, longFree} {
		if Holds(now, until) && !Holds(now, longUntil) || Gone(now, longFree) && !Gone(now, free) {
			t.Errorf("at %d, of what was asked for at %d and given at %d: of %d and of %d ticks", now, asked, given, short, long)
		}
	}
}

// P12.4: lengths that are next to each other.
func TestNextLonger(t *testing.T) {
	for _, moment := range []int{0, 1, 100, maxNum / 2, maxNum - 10286} {
		for n := 1; n < MaxTicks; n++ {
			checkLonger(t, moment, moment, n, n+1)
		}
	}
}

// P12.4: lengths that are drawn.
func TestLonger(t *testing.T) {
	r := rand.New(rand.NewPCG(12, 2))
	for range 50000 {
		short := 1 + r.IntN(MaxTicks-1)
		long := short + 1 + r.IntN(MaxTicks-short)
		checkLonger(t, r.IntN(maxNum-10286), r.IntN(maxNum-10286), short, long)
	}
}

// R1, R2, R4: any numbers: no call panics, beside an error stands 0, and the second time the answer is the same.
func TestAnyNumbers(t *testing.T) {
	r := rand.New(rand.NewPCG(12, 3))
	var untils, frees [api.ErrStale + 1]int
	for range 200000 {
		moment := anyOf(r, anyOf(r, moments()...), r.IntN(maxNum), maxNum-r.IntN(11000), int(r.Uint64()))
		n := anyOf(r, anyOf(r, lengths()...), 1+r.IntN(MaxTicks), 1+r.IntN(MaxTicks), int(r.Uint64()))
		until, free := checkBoth(t, moment, n)
		checkBoth(t, moment, n)
		untils[until]++
		frees[free]++
		for range 2 {
			checkHolds(t, moment, n, moment < n)
			checkGone(t, moment, n, moment >= n)
			checkHolds(t, n, moment, n < moment)
			checkGone(t, n, moment, n >= moment)
		}
		if t.Failed() {
			t.FailNow()
		}
	}
	for _, err := range []api.Errno{api.OK, api.ErrArg, api.ErrOver} {
		if untils[err] < 1000 || frees[err] < 1000 {
			t.Errorf("%d: Until ends so %d times, Free %d times", err, untils[err], frees[err])
		}
	}
}
