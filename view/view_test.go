package view

import (
	"math/rand/v2"
	"slices"
	"testing"

	"haywain/api"
)

const (
	greatest = 1<<63 - 1
	lowest   = -1 << 63
	maxNum   = 1 << 40
)

// of answers a view of a number and of members.
func of(num int, l ...Member) View {
	return View{num, l}
}

func same(a, b View) bool {
	return a.Num == b.Num && slices.Equal(a.L, b.L)
}

func checkRight(t *testing.T, v View, want bool) {
	t.Helper()
	if Right(v) != want {
		t.Errorf("Right(%v): %v; want %v", v, !want, want)
	}
}

func checkJoin(t *testing.T, v View, id, inc int, want View, err api.Errno) {
	t.Helper()
	if got, e := Join(v, id, inc); !same(got, want) || e != err {
		t.Errorf("Join(%v, %d, %d): %v, %d; want %v, %d", v, id, inc, got, e, want, err)
	}
}

func checkLeave(t *testing.T, v View, id int, want View, err api.Errno) {
	t.Helper()
	if got, e := Leave(v, id); !same(got, want) || e != err {
		t.Errorf("Leave(%v, %d): %v, %d; want %v, %d", v, id, got, e, want, err)
	}
}

func checkInc(t *testing.T, v View, id, want int) {
	t.Helper()
	if got := Inc(v, id); got != want {
		t.Errorf("Inc(%v, %d): %d; want %d", v, id, got, want)
	}
}

func checkIds(t *testing.T, v View, want ...int) {
	t.Helper()
	if got := Ids(v); !slices.Equal(got, want) {
		t.Errorf("Ids(%v): %v; want %v", v, got, want)
	}
}

func checkFenced(t *testing.T, v View, num, id, inc int, want api.Errno) {
	t.Helper()
	if got := Fenced(v, num, id, inc); got != want {
		t.Errorf("Fenced(%v, %d, %d, %d): %d; want %d", v, num, id, inc, got, want)
	}
}

func isId(n int) bool {
	return n > 0 && n < 100
}

func isInc(n int) bool {
	return n > 0 && n <= maxNum
}

// book is a view by other means: the incarnation of every worker that there may be, 0 of one that is no member.
type book struct {
	num int
	inc [api.MaxId + 1]int
}

// view answers the view of a book.
func (b book) view() View {
	v := View{Num: b.num}
	for id, inc := range b.inc {
		if inc != 0 {
			v.L = append(v.L, Member{id, inc})
		}
	}
	return v
}

// bookOf answers the book that a view's members make; of a view that isn't right the zero one's, and false: such a one has members that may not be or too many of them, or its book's view is another one, as they fall or stand twice.
func bookOf(v View) (book, bool) {
	b := book{num: v.Num}
	for _, m := range v.L {
		if !isId(m.Id) || !isInc(m.Inc) {
			return book{}, false
		}
		b.inc[m.Id] = m.Inc
	}
	if (v.Num != 0 && !isInc(v.Num)) || len(v.L) > 5 || !same(b.view(), v) {
		return book{}, false
	}
	return b, true
}

// join is what the document says of Join.
func (b book) join(id, inc int) (book, api.Errno) {
	if !isId(id) || !isInc(inc) {
		return b, api.ErrArg
	}
	if b.num == maxNum {
		return b, api.ErrState
	}
	if was := b.inc[id]; was != 0 {
		if was == inc {
			return b, api.ErrTwice
		}
		if was > inc {
			return b, api.ErrStale
		}
	} else if len(b.view().L) == 5 {
		return b, api.ErrFull
	}
	b.inc[id] = inc
	b.num++
	return b, api.OK
}

// leave is what the document says of Leave.
func (b book) leave(id int) (book, api.Errno) {
	if !isId(id) || b.inc[id] == 0 {
		return b, api.ErrNone
	}
	if b.num == maxNum {
		return b, api.ErrState
	}
	b.inc[id] = 0
	b.num++
	return b, api.OK
}

// fenced is what the document says of Fenced.
func (b book) fenced(num, id, inc int) api.Errno {
	if num != b.num {
		return api.ErrStale
	}
	if !isId(id) || b.inc[id] == 0 {
		return api.ErrNone
	}
	if b.inc[id] != inc {
		return api.ErrStale
	}
	return api.OK
}

// checkAll: what all calls say of a view and of numbers; it answers how Join, Leave and Fenced end.
func checkAll(t *testing.T, v View, num, id, inc int) (join, leave, fenced api.Errno) {
	t.Helper()
	b, fine := bookOf(v)
	checkRight(t, v, fine)
	now, join := b.join(id, inc)
	checkJoin(t, v, id, inc, now.view(), join)
	now, leave = b.leave(id)
	checkLeave(t, v, id, now.view(), leave)
	fenced = b.fenced(num, id, inc)
	checkFenced(t, v, num, id, inc, fenced)
	was := 0
	if isId(id) {
		was = b.inc[id]
	}
	checkInc(t, v, id, was)
	var ids []int
	for _, m := range b.view().L {
		ids = append(ids, m.Id)
	}
	checkIds(t, v, ids...)
	return join, leave, fenced
}

func anyOf[T any](r *rand.Rand, l ...T) T {
	return l[r.IntN(len(l))]
}

// anyView answers a view that is right, with as many members as told.
func anyView(r *rand.Rand, members int) View {
	var b book
	b.num = anyOf(r, 0, 1, 7, r.IntN(maxNum), maxNum-1, maxNum-1, maxNum)
	for _, id := range r.Perm(api.MaxId)[:members] {
		b.inc[id+1] = anyOf(r, 1, 2, 3, 1+r.IntN(maxNum), maxNum-1, maxNum)
	}
	return b.view()
}

// many answers a view of as many members as told, the first with the Id 1, the last with the greatest one if there may be more.
func many(num, members int) View {
	v := View{Num: num}
	for i := range members {
		v.L = append(v.L, Member{1 + 98*i/max(1, members-1), 10 + i})
	}
	return v
}

// rightViews answers views that are right, at the edges.
func rightViews() []View {
	l := []View{{L: []Member{}}, of(5, Member{50, 1}), of(5, Member{50, maxNum})}
	for _, num := range []int{0, 1, 2, 1 << 31, 1 << 32, maxNum - 1, maxNum} {
		for members := range api.MaxWorkers + 1 {
			l = append(l, many(num, members))
		}
	}
	for _, inc := range []int{1, 2, 1 << 32, maxNum - 1, maxNum} {
		l = append(l, of(3, Member{1, inc}), of(3, Member{api.MaxId, inc}), of(3, Member{1, 9}, Member{2, inc}, Member{3, 9}))
	}
	return append(l,
		of(9, Member{1, 1}, Member{2, 1}, Member{3, 1}, Member{4, 1}, Member{5, 1}),
		of(9, Member{95, 5}, Member{96, 4}, Member{97, 3}, Member{98, 2}, Member{99, 1}),
		of(9, Member{1, maxNum}, Member{2, 1}, Member{98, maxNum}, Member{99, 1}))
}

// wrongViews answers views that aren't right, each in another way.
func wrongViews() []View {
	var l []View
	for _, num := range []int{lowest, -1 << 40, -1 << 32, -1, maxNum + 1, 1 << 41, 1<<62 + 1, greatest} {
		for members := range api.MaxWorkers + 1 {
			l = append(l, many(num, members))
		}
	}
	for _, id := range []int{lowest, -api.MaxId, -1, 0, api.MaxId + 1, 1 << 32, 1<<32 + 7, greatest} {
		l = append(l, of(4, Member{id, 1}), of(4, Member{id, 1}, Member{7, 1}), of(4, Member{7, 1}, Member{id, 1}))
	}
	for _, inc := range []int{lowest, -maxNum, -1, 0, maxNum + 1, 1 << 41, 1<<41 + 1, greatest} {
		l = append(l, of(4, Member{7, inc}), of(4, Member{1, inc}, Member{7, 1}), of(4, Member{7, 1}, Member{9, inc}), of(4, Member{7, 1}, Member{8, inc}, Member{9, 1}))
	}
	for _, num := range []int{0, 4, maxNum - 1, maxNum} {
		for members := range 4 {
			v := many(num, api.MaxWorkers+1+members)
			l = append(l, v, View{num, append([]Member{{0, 1}}, v.L...)})
		}
		l = append(l, View{num, slices.Repeat([]Member{{7, 1}}, 6)}, View{num, make([]Member, 1000)})
	}
	return append(l,
		of(4, Member{8, 1}, Member{7, 1}), of(4, Member{8, 1}, Member{7, 2}), of(4, Member{7, 1}, Member{7, 1}), of(4, Member{7, 1}, Member{7, 2}), of(4, Member{7, 2}, Member{7, 1}),
		of(4, Member{99, 1}, Member{1, 1}), of(4, Member{7, 1}, Member{9, 1}, Member{8, 1}), of(4, Member{7, 1}, Member{9, 1}, Member{9, 1}), of(4, Member{7, 1}, Member{9, 1}, Member{7, 1}),
		of(4, Member{3, 3}, Member{2, 2}, Member{1, 1}), of(4, Member{1, 1}, Member{2, 2}, Member{3, 3}, Member{4, 4}, Member{4, 4}), of(4, Member{1, 1}, Member{2, 2}, Member{3, 3}, Member{5, 5}, Member{4, 4}),
		of(4, Member{}), of(4, Member{}, Member{}), of(4, Member{}, Member{7, 1}), of(4, Member{7, 1}, Member{}), of(-1, Member{}), of(maxNum+1, Member{8, 1}, Member{7, 1}))
}

// edges answers the numbers at which Ids, incarnations and views' numbers begin and end, and some others.
func edges() []int {
	return []int{lowest, -1 << 32, -1, 0, 1, 2, 3, 7, 10, 14, 49, 50, 51, api.MaxId - 1, api.MaxId, api.MaxId + 1, 1 << 32, 1<<32 + 1, maxNum - 1, maxNum, maxNum + 1, greatest}
}

// The chapter's examples.
func TestExamples(t *testing.T) {
	checkJoin(t, View{}, 3, 1, of(1, Member{3, 1}), api.OK)
	two := of(2, Member{1, 1}, Member{3, 1})
	checkJoin(t, of(1, Member{3, 1}), 1, 1, two, api.OK)
	checkJoin(t, two, 3, 1, two, api.ErrTwice)
	three := of(3, Member{1, 1}, Member{3, 2})
	checkJoin(t, two, 3, 2, three, api.OK)
	checkFenced(t, three, 3, 3, 2, api.OK)
	checkFenced(t, three, 2, 3, 2, api.ErrStale)
	checkFenced(t, three, 3, 3, 1, api.ErrStale)
	checkFenced(t, three, 3, 2, 1, api.ErrNone)
}

// P11.1: views at the edges.
func TestRight(t *testing.T) {
	for _, v := range rightViews() {
		checkRight(t, v, true)
	}
	for _, v := range wrongViews() {
		checkRight(t, v, false)
	}
	for members := range 12 {
		checkRight(t, many(4, members), members <= api.MaxWorkers)
	}
	for num := -3; num <= 3; num++ {
		checkRight(t, many(num, 2), num >= 0)
		checkRight(t, many(maxNum+num, 2), num <= 0)
	}
}

// P11.1: each Id and each incarnation at each place of a view, with others ahead and behind.
func TestRightMembers(t *testing.T) {
	for place := range api.MaxWorkers {
		base := of(6, Member{10, 1}, Member{20, 2}, Member{30, 3}, Member{40, 4}, Member{50, 5})
		for id := -3; id <= api.MaxId+3; id++ {
			v := View{6, slices.Clone(base.L)}
			v.L[place].Id = id
			fine := id >= 1 && id <= api.MaxId
			fine = fine && (place == 0 || id > 10*place)
			checkRight(t, v, fine && (place == api.MaxWorkers-1 || id < 10*(place+2)))
		}
		for _, inc := range edges() {
			v := View{6, slices.Clone(base.L)}
			v.L[place].Inc = inc
			checkRight(t, v, inc >= 1 && inc <= api.MaxNum)
		}
	}
}

// P11.1: incarnations and Ids of members, and of those who are none.
func TestIncAndIds(t *testing.T) {
	for _, v := range rightViews() {
		var ids []int
		is := map[int]int{}
		for _, m := range v.L {
			ids = append(ids, m.Id)
			is[m.Id] = m.Inc
		}
		checkIds(t, v, ids...)
		for id := -2; id <= api.MaxId+2; id++ {
			checkInc(t, v, id, is[id])
		}
		for _, id := range edges() {
			checkInc(t, v, id, is[id])
		}
	}
	v := of(3, Member{2, 9}, Member{40, maxNum}, Member{99, 1})
	checkIds(t, v, 2, 40, 99)
	checkInc(t, v, 2, 9)
	checkInc(t, v, 40, maxNum)
	checkInc(t, v, 99, 1)
	checkInc(t, v, 3, 0)
	checkInc(t, v, 0, 0)
}

// P11.1, P11.2, P11.3: of a view that isn't right all calls say what they say of the zero one, whoever is in it.
func TestWrongViews(t *testing.T) {
	for _, v := range wrongViews() {
		checkIds(t, v)
		for _, id := range append(edges(), 8, 9, 20) {
			checkInc(t, v, id, 0)
			checkLeave(t, v, id, View{}, api.ErrNone)
			for _, inc := range edges() {
				if id >= 1 && id <= api.MaxId && inc >= 1 && inc <= api.MaxNum {
					checkJoin(t, v, id, inc, of(1, Member{id, inc}), api.OK)
				} else {
					checkJoin(t, v, id, inc, View{}, api.ErrArg)
				}
				checkFenced(t, v, 0, id, inc, api.ErrNone)
				checkFenced(t, v, 1, id, inc, api.ErrStale)
				if v.Num != 0 {
					checkFenced(t, v, v.Num, id, inc, api.ErrStale)
				}
			}
		}
	}
}

// P11.2: one that comes ahead of all, between two, and behind all.
func TestJoinPlaces(t *testing.T) {
	a, b, c := Member{20, 3}, Member{40, 2}, Member{60, 1}
	v := of(5, a, b, c)
	for _, inc := range []int{1, 2, 3, 4, maxNum - 1, maxNum} {
		checkJoin(t, View{}, 1, inc, of(1, Member{1, inc}), api.OK)
		checkJoin(t, of(8), 99, inc, of(9, Member{99, inc}), api.OK)
		for _, id := range []int{1, 2, 19} {
			checkJoin(t, v, id, inc, of(6, Member{id, inc}, a, b, c), api.OK)
		}
		for _, id := range []int{21, 30, 39} {
			checkJoin(t, v, id, inc, of(6, a, Member{id, inc}, b, c), api.OK)
		}
		for _, id := range []int{41, 59} {
			checkJoin(t, v, id, inc, of(6, a, b, Member{id, inc}, c), api.OK)
		}
		for _, id := range []int{61, 98, 99} {
			checkJoin(t, v, id, inc, of(6, a, b, c, Member{id, inc}), api.OK)
		}
	}
	checkJoin(t, of(maxNum-1), 7, 7, of(maxNum, Member{7, 7}), api.OK)
	checkJoin(t, of(maxNum-2, a), 7, 7, of(maxNum-1, Member{7, 7}, a), api.OK)
	checkJoin(t, many(5, 4), 98, 1, View{6, slices.Insert(many(5, 4).L, 3, Member{98, 1})}, api.OK)
}

// P11.2: one that is a member already: with its incarnation, with a less one, with a greater one.
func TestJoinAgain(t *testing.T) {
	for members := 1; members <= api.MaxWorkers; members++ {
		v := many(5, members)
		for i, m := range v.L {
			checkJoin(t, v, m.Id, m.Inc, v, api.ErrTwice)
			for _, inc := range []int{1, 2, m.Inc - 1} {
				checkJoin(t, v, m.Id, inc, v, api.ErrStale)
			}
			for _, inc := range []int{m.Inc + 1, m.Inc + 2, 1 << 32, maxNum - 1, maxNum} {
				want := View{6, slices.Clone(v.L)}
				want.L[i].Inc = inc
				checkJoin(t, v, m.Id, inc, want, api.OK)
			}
			for _, inc := range []int{lowest, -1, 0, maxNum + 1, greatest} {
				checkJoin(t, v, m.Id, inc, v, api.ErrArg)
			}
		}
	}
	last := of(5, Member{7, maxNum})
	checkJoin(t, last, 7, maxNum, last, api.ErrTwice)
	checkJoin(t, last, 7, maxNum-1, last, api.ErrStale)
	checkJoin(t, last, 7, 1, last, api.ErrStale)
	checkJoin(t, last, 7, maxNum+1, last, api.ErrArg)
	first := of(5, Member{7, 1})
	checkJoin(t, first, 7, 1, first, api.ErrTwice)
	checkJoin(t, first, 7, 0, first, api.ErrArg)
	checkJoin(t, first, 7, 2, of(6, Member{7, 2}), api.OK)
}

// P11.2: Ids and incarnations that no member has, to views of each size; that comes ahead of the greatest number.
func TestJoinWrong(t *testing.T) {
	for _, num := range []int{0, 5, maxNum - 1, maxNum} {
		for members := range api.MaxWorkers + 1 {
			v := many(num, members)
			for _, id := range []int{lowest, -1, 0, api.MaxId + 1, 1 << 32, 1<<32 + 1, greatest} {
				for _, inc := range edges() {
					checkJoin(t, v, id, inc, v, api.ErrArg)
				}
			}
			for id := 1; id <= api.MaxId; id++ {
				for _, inc := range []int{lowest, -1, 0, maxNum + 1, 1 << 41, greatest} {
					checkJoin(t, v, id, inc, v, api.ErrArg)
				}
			}
		}
	}
}

// P11.2: behind the greatest number none comes, whoever it is: that is told ahead of ErrTwice, ErrStale and ErrFull.
func TestJoinLast(t *testing.T) {
	for members := range api.MaxWorkers + 1 {
		v := many(maxNum, members)
		for id := 1; id <= api.MaxId; id++ {
			for _, inc := range []int{1, 9, 10, 11, 12, 13, 14, 15, maxNum - 1, maxNum} {
				checkJoin(t, v, id, inc, v, api.ErrState)
			}
		}
	}
}

// P11.2: a full view takes none that is no member, but a member anew; what a member comes with is told ahead of ErrFull.
func TestJoinFull(t *testing.T) {
	v := of(7, Member{10, 5}, Member{20, 5}, Member{30, 5}, Member{40, 5}, Member{50, 5})
	for id := 1; id <= api.MaxId; id++ {
		for _, inc := range []int{1, 4, 5, 6, maxNum} {
			want, err := v, api.ErrFull
			if i := id/10 - 1; id%10 == 0 && i < len(v.L) {
				switch {
				case inc == 5:
					err = api.ErrTwice
				case inc < 5:
					err = api.ErrStale
				default:
					want, err = View{8, slices.Clone(v.L)}, api.OK
					want.L[i].Inc = inc
				}
			}
			checkJoin(t, v, id, inc, want, err)
		}
	}
	four := View{7, v.L[:4]}
	checkJoin(t, four, 50, 5, View{8, v.L}, api.OK)
	checkJoin(t, four, 51, 5, View{8, append(slices.Clone(four.L), Member{51, 5})}, api.OK)
}

// P11.2: each member leaves views of each size, the last one too; one who is none does not.
func TestLeave(t *testing.T) {
	for _, num := range []int{0, 5, maxNum - 2, maxNum - 1} {
		for members := range api.MaxWorkers + 1 {
			v := many(num, members)
			is := map[int]int{}
			for i, m := range v.L {
				is[m.Id] = m.Inc
				checkLeave(t, v, m.Id, View{num + 1, slices.Delete(slices.Clone(v.L), i, i+1)}, api.OK)
			}
			for _, id := range append(edges(), 20, 30, 60) {
				if is[id] == 0 {
					checkLeave(t, v, id, v, api.ErrNone)
				}
			}
		}
	}
	checkLeave(t, of(4, Member{1, 1}), 1, of(5), api.OK)
	checkLeave(t, of(4, Member{99, maxNum}), 99, of(5), api.OK)
	checkLeave(t, View{}, 0, View{}, api.ErrNone)
}

// P11.2: behind the greatest number none leaves; that one is no member is told ahead of it.
func TestLeaveLast(t *testing.T) {
	for members := range api.MaxWorkers + 1 {
		v := many(maxNum, members)
		for id := -2; id <= api.MaxId+2; id++ {
			err := api.ErrNone
			if slices.ContainsFunc(v.L, func(m Member) bool { return m.Id == id }) {
				err = api.ErrState
			}
			checkLeave(t, v, id, v, err)
		}
	}
}

// P11.3: numbers and incarnations that are less and greater, one who is no member; of two faults the number is told first.
func TestFenced(t *testing.T) {
	v := of(9, Member{3, 7}, Member{50, 1}, Member{99, maxNum})
	for _, m := range v.L {
		checkFenced(t, v, 9, m.Id, m.Inc, api.OK)
		for _, num := range []int{lowest, -9, -1, 0, 1, 8, 10, 1<<32 + 9, maxNum, maxNum + 1, greatest} {
			checkFenced(t, v, num, m.Id, m.Inc, api.ErrStale)
			checkFenced(t, v, num, m.Id, m.Inc+1, api.ErrStale)
			checkFenced(t, v, num, m.Id+1, m.Inc, api.ErrStale)
		}
		for _, inc := range []int{lowest, -1, 0, m.Inc - 1, m.Inc + 1, 1<<32 + m.Inc, maxNum + 1, greatest} {
			checkFenced(t, v, 9, m.Id, inc, api.ErrStale)
		}
	}
	for _, id := range []int{lowest, -3, -1, 0, 1, 2, 4, 49, 51, 98, 100, 1<<32 + 3, greatest} {
		for _, inc := range edges() {
			checkFenced(t, v, 9, id, inc, api.ErrNone)
			checkFenced(t, v, 8, id, inc, api.ErrStale)
			checkFenced(t, v, 10, id, inc, api.ErrStale)
		}
	}
	for _, num := range []int{0, 1, maxNum - 1, maxNum} {
		none, one := of(num), of(num, Member{1, 1})
		checkFenced(t, none, num, 1, 1, api.ErrNone)
		checkFenced(t, none, num, 0, 0, api.ErrNone)
		checkFenced(t, none, num+1, 1, 1, api.ErrStale)
		checkFenced(t, none, num-1, 0, 0, api.ErrStale)
		checkFenced(t, one, num, 1, 1, api.OK)
		checkFenced(t, one, num, 1, 2, api.ErrStale)
		checkFenced(t, one, num, 2, 1, api.ErrNone)
		checkFenced(t, one, num, 0, 0, api.ErrNone)
	}
}

// P11.1 to P11.3: all calls of all views at the edges, with all numbers at theirs.
func TestEdges(t *testing.T) {
	for _, v := range append(rightViews(), wrongViews()...) {
		for _, id := range edges() {
			for _, inc := range edges() {
				checkAll(t, v, v.Num, id, inc)
				checkAll(t, v, 0, id, inc)
			}
		}
		for _, num := range edges() {
			checkAll(t, v, num, 1, 10)
		}
	}
}

// count is how often which error was told.
type count [api.ErrStale + 1]int

// checkOften: of what is drawn, does a call end often in each of these ways?
func checkOften(t *testing.T, call string, c count, ends ...api.Errno) {
	t.Helper()
	for _, err := range ends {
		if c[err] < 1000 {
			t.Errorf("%s ends with %d but %d times: %v", call, err, c[err], c)
		}
	}
}

// P11.1 to P11.3: views that are drawn, asked of members and others, of their incarnations and others.
func TestDrawn(t *testing.T) {
	r := rand.New(rand.NewPCG(11, 1))
	var joins, leaves, fences count
	for range 60000 {
		v := anyView(r, r.IntN(api.MaxWorkers+1))
		m := Member{1 + r.IntN(api.MaxId), 1 + r.IntN(20)}
		if len(v.L) > 0 && r.IntN(3) > 0 {
			m = anyOf(r, v.L...)
			m.Inc += anyOf(r, -1, 0, 0, 1)
		}
		switch r.IntN(12) {
		case 0:
			m.Id = anyOf(r, edges()...)
		case 1:
			m.Inc = anyOf(r, edges()...)
		}
		join, leave, fenced := checkAll(t, v, anyOf(r, v.Num, v.Num, v.Num, v.Num-1, v.Num+1), m.Id, m.Inc)
		joins[join]++
		leaves[leave]++
		fences[fenced]++
		if t.Failed() {
			t.FailNow()
		}
	}
	checkOften(t, "Join", joins, api.OK, api.ErrArg, api.ErrState, api.ErrTwice, api.ErrStale, api.ErrFull)
	checkOften(t, "Leave", leaves, api.OK, api.ErrNone, api.ErrState)
	checkOften(t, "Fenced", fences, api.OK, api.ErrNone, api.ErrStale)
}

// P11.4: one that was none joins and leaves: the members again, whoever it is and wherever its place is.
func TestJoinAndLeave(t *testing.T) {
	r := rand.New(rand.NewPCG(11, 2))
	views := rightViews()
	for range 2000 {
		views = append(views, anyView(r, r.IntN(api.MaxWorkers)))
	}
	back := 0
	for _, v := range views {
		for id := 1; id <= api.MaxId; id++ {
			if Inc(v, id) != 0 {
				continue
			}
			in, err := Join(v, id, 1+r.IntN(maxNum))
			if err != api.OK {
				continue
			}
			out, err := Leave(in, id)
			if in.Num == maxNum {
				if err != api.ErrState || !same(out, in) {
					t.Fatalf("Leave(%v, %d): %v, %d", in, id, out, err)
				}
				continue
			}
			if err != api.OK || out.Num != v.Num+2 || !slices.Equal(out.L, v.L) {
				t.Fatalf("%v, with %d %v, without %v, %d", v, id, in, out, err)
			}
			back++
		}
	}
	if back < 50000 {
		t.Errorf("the members again %d times", back)
	}
}

// row answers views that follow one another, from one on: joins and leaves are drawn, of few workers, so that they come anew and again.
func row(t *testing.T, r *rand.Rand, v View, steps int) []View {
	t.Helper()
	l := []View{v}
	for range steps {
		id := anyOf(r, 1, 2, 3, 50, 97, 98, 99)
		b, _ := bookOf(v)
		var err api.Errno
		var now View
		if r.IntN(3) == 0 {
			b, err = b.leave(id)
			checkLeave(t, v, id, b.view(), err)
			now, _ = Leave(v, id)
		} else {
			inc := anyOf(r, 1, 2, 3, 1+r.IntN(20), Inc(v, id)-1, Inc(v, id), Inc(v, id)+1, Inc(v, id)+1)
			b, err = b.join(id, inc)
			checkJoin(t, v, id, inc, b.view(), err)
			now, _ = Join(v, id, inc)
		}
		checkRight(t, now, true)
		if err == api.OK {
			l = append(l, now)
			v = now
		}
		if t.Failed() {
			t.FailNow()
		}
	}
	return l
}

// rows calls a function with rows of views that are drawn; some come to the greatest number.
func rows(t *testing.T, draw uint64, f func([]View)) {
	t.Helper()
	r := rand.New(rand.NewPCG(11, draw))
	last := 0
	for range 400 {
		begin := View{}
		if r.IntN(3) == 0 {
			begin = anyView(r, r.IntN(api.MaxWorkers+1))
		}
		l := row(t, r, begin, 60)
		if l[len(l)-1].Num == maxNum {
			last++
		}
		f(l)
	}
	if last < 20 {
		t.Errorf("%d rows come to the greatest number", last)
	}
}

// P11.4: numbers rise, by one each.
func TestNumbersRise(t *testing.T) {
	most := 0
	rows(t, 3, func(l []View) {
		for i, v := range l {
			if v.Num != l[0].Num+i {
				t.Fatalf("view %d of the row %v", i, l)
			}
		}
		most = max(most, len(l))
	})
	if most < 20 {
		t.Errorf("the longest row has %d views", most)
	}
}

// P11.5: what was said in a view counts there and in no later one, and in none if an elder incarnation says it.
func TestSaidBefore(t *testing.T) {
	elder := 0
	rows(t, 4, func(l []View) {
		for i, v := range l {
			for _, m := range v.L {
				checkFenced(t, v, v.Num, m.Id, m.Inc, api.OK)
				for _, later := range l[i+1:] {
					checkFenced(t, later, v.Num, m.Id, m.Inc, api.ErrStale)
					now := Inc(later, m.Id)
					if now > m.Inc {
						checkFenced(t, later, later.Num, m.Id, m.Inc, api.ErrStale)
						elder++
					}
					if now == 0 {
						checkFenced(t, later, later.Num, m.Id, m.Inc, api.ErrNone)
					}
				}
			}
		}
		if t.Failed() {
			t.FailNow()
		}
	})
	if elder < 10000 {
		t.Errorf("an elder incarnation says something %d times", elder)
	}
}

// P11.6: as long as a worker is a member its incarnation never falls; once it has left, it may.
func TestIncarnationsRise(t *testing.T) {
	rises, falls := 0, 0
	rows(t, 5, func(l []View) {
		var been book
		for i, v := range l[1:] {
			for id := 1; id <= api.MaxId; id++ {
				old, now := Inc(l[i], id), Inc(v, id)
				if old != 0 && now != 0 && now < old {
					t.Fatalf("behind %v comes %v", l[i], v)
				}
				if old != 0 && now > old {
					rises++
				}
				if old == 0 && now != 0 && now < been.inc[id] {
					falls++
				}
				been.inc[id] = max(been.inc[id], now)
			}
		}
	})
	if rises < 500 || falls < 500 {
		t.Errorf("incarnations rise %d times, and fall %d times in those who had left", rises, falls)
	}
}

// spoil writes over a list, and over its spare room.
func spoil[T any](l []T, by T) {
	l = l[:cap(l)]
	for i := range l {
		l[i] = by
	}
}

// checkApart: R3 of a call that is handed a view of which this is the whole list: it stays as it was, and shares nothing with what is answered; nor does a second answer.
func checkApart[T comparable](t *testing.T, what string, by T, call func() []T, whole []Member) {
	t.Helper()
	before := slices.Clone(whole)
	unchanged := func(when string) {
		t.Helper()
		if !slices.Equal(whole, before) {
			t.Fatalf("%s: %v became %v %s", what, before, whole, when)
		}
	}
	first, second := call(), call()
	unchanged("by the call")
	want := slices.Clone(first)
	if !slices.Equal(second, want) {
		t.Fatalf("%s: %v, the second time %v", what, want, second)
	}
	spoil(first, by)
	unchanged("with what was answered")
	spoil(whole, Member{-3, -3})
	if !slices.Equal(second, want) {
		t.Fatalf("%s: %v became %v with what was handed in", what, want, second)
	}
	copy(whole, before)
	if again := call(); !slices.Equal(again, want) {
		t.Fatalf("%s: %v, behind that %v", what, want, again)
	}
}

// R3: what is handed in stays as it was, its spare room too; what is answered shares no memory with it, nor with other answers, also where it is the view as it was.
func TestMemory(t *testing.T) {
	r := rand.New(rand.NewPCG(11, 6))
	by := Member{-9, -9}
	views := append(rightViews(), wrongViews()...)
	for range 2000 {
		views = append(views, anyView(r, r.IntN(api.MaxWorkers+1)))
	}
	for _, v := range views {
		whole := append(slices.Clone(v.L), slices.Repeat([]Member{{-7, -7}}, 9)...)
		v.L = whole[:len(v.L)]
		all := append([]Member{{0, 1}, {1, 0}, {1 + r.IntN(api.MaxId), 1 + r.IntN(maxNum)}}, v.L...)
		for _, m := range all {
			for _, inc := range []int{m.Inc - 1, m.Inc, m.Inc + 1} {
				checkApart(t, "Join", by, func() []Member { now, _ := Join(v, m.Id, inc); return now.L }, whole)
			}
			checkApart(t, "Leave", by, func() []Member { now, _ := Leave(v, m.Id); return now.L }, whole)
			checkApart(t, "Inc", by, func() []Member { Inc(v, m.Id); return nil }, whole)
			checkApart(t, "Fenced", by, func() []Member { Fenced(v, v.Num, m.Id, m.Inc); return nil }, whole)
		}
		checkApart(t, "Ids", -9, func() []int { return Ids(v) }, whole)
		checkApart(t, "Right", by, func() []Member { Right(v); return nil }, whole)
	}
}

// R1, R2, R4: any views and any numbers: no call panics, with an error there is the view as it is, and the second time the answer is the same.
func TestAnyViews(t *testing.T) {
	r := rand.New(rand.NewPCG(11, 7))
	right, wrong := 0, 0
	anyNumber := func() int {
		return anyOf(r, append(edges(), r.IntN(6), r.IntN(6), r.IntN(6), int(r.Uint64()))...)
	}
	for range 60000 {
		v := anyView(r, r.IntN(api.MaxWorkers+1))
		switch r.IntN(5) {
		case 0:
			v.Num = anyNumber()
		case 1:
			v.L = append(v.L, Member{anyNumber(), anyNumber()})
		case 2:
			if len(v.L) > 0 {
				v.L[r.IntN(len(v.L))] = Member{anyNumber(), anyNumber()}
			}
		case 3:
			for range r.IntN(4) {
				v.L = slices.Insert(v.L, r.IntN(len(v.L)+1), Member{anyNumber(), anyNumber()})
			}
		}
		if _, fine := bookOf(v); fine {
			right++
		} else {
			wrong++
		}
		num, id, inc := anyOf(r, v.Num, 0, anyNumber()), anyNumber(), anyNumber()
		if len(v.L) > 0 && r.IntN(2) == 0 {
			m := anyOf(r, v.L...)
			id, inc = m.Id, anyOf(r, inc, m.Inc)
		}
		for range 2 {
			checkAll(t, v, num, id, inc)
		}
		if t.Failed() {
			t.FailNow()
		}
	}
	if right < 10000 || wrong < 10000 {
		t.Errorf("%d views are right, %d are not", right, wrong)
	}
}
