package span_test

import (
	"fmt"
	"math"
	"math/big"
	"slices"
	"testing"

	"heronry/api"
	"heronry/span"
)

const (
	least = math.MinInt
	most  = math.MaxInt
)

var (
	edges = []int{least, least + 1, -3, -1, 0, 1, 2, most - 1, most}
	whole = span.Span{Lo: least, Hi: most}
	lists = [][]int{
		nil, {}, {0}, {0, 0}, {1}, {-1}, {5, -5}, {-5, 5}, {3, 0, -4, 0, 7, -1},
		{most}, {least}, {most, least}, {least, most}, {most, 1}, {least, -1}, {most, most}, {least, least},
		{most, most, -most, -most}, {least, least, most, most, 2}, {-1, least, 1}, {1, most, -1},
		{1, 2, 4, 8, 16, -32, -64}, {-1, -1, -1, -2}, {most - 1, 1, least + 1, -1},
	}
)

// of is a span from a number to another one.
func of(lo, hi int) span.Span { return span.Span{Lo: lo, Hi: hi} }

// roomy is a list with room behind it.
func roomy(l ...int) []int {
	room := make([]int, len(l), len(l)+3)
	copy(room, l)
	for i := range room[len(l):cap(room)] {
		room[:cap(room)][len(l)+i] = 77 + i
	}
	return room
}

// exact is a number that may be as great as it likes.
func exact(n int) *big.Int { return big.NewInt(int64(n)) }

// plainAdd are numbers from a first one on, added.
func plainAdd(from int, l []int, counts func(int) bool) *big.Int {
	sum := exact(from)
	for _, n := range l {
		if counts(n) {
			sum.Add(sum, exact(n))
		}
	}
	return sum
}

func plainSum(l []int) (int, api.Errno) {
	if len(l) > 4096 {
		return 0, api.ErrLimit
	}
	sum := plainAdd(0, l, func(int) bool { return true })
	if !sum.IsInt64() {
		return 0, api.ErrOver
	}
	return int(sum.Int64()), api.OK
}

func plainReach(v int, l []int) (span.Span, api.Errno) {
	lo := plainAdd(v, l, func(n int) bool { return n < 0 })
	hi := plainAdd(v, l, func(n int) bool { return n > 0 })
	switch {
	case len(l) > 4096:
		return span.Span{}, api.ErrLimit
	case !lo.IsInt64(), !hi.IsInt64():
		return span.Span{}, api.ErrOver
	}
	return of(int(lo.Int64()), int(hi.Int64())), api.OK
}

func plainHolds(s span.Span, v int) bool { return !(v < s.Lo) && !(v > s.Hi) }

func plainFits(s span.Span, v int, l []int) bool {
	r, e := plainReach(v, l)
	return e == api.OK && plainHolds(s, r.Lo) && plainHolds(s, r.Hi)
}

// plainRoom looks for the last number that may be one more, by halves: from 0, that may be, to the least, or the greatest.
func plainRoom(s span.Span, v int, l []int) (int, int) {
	may := func(n int) bool { return plainFits(s, v, append(slices.Clone(l), n)) }
	if !plainFits(s, v, l) || len(l) == 4096 {
		return 0, 0
	}
	return halved(least, may), halved(most, may)
}

// halved is the number between 0 and an end, the nearest to the end, that may be.
func halved(end int, may func(int) bool) int {
	if may(end) {
		return end
	}
	in, out := exact(0), exact(end)
	for {
		mid := new(big.Int).Add(in, out)
		mid.Quo(mid, exact(2))
		if mid.Cmp(in) == 0 {
			return int(in.Int64())
		}
		if may(int(mid.Int64())) {
			in = mid
		} else {
			out = mid
		}
	}
}

// stay lets a list be held against what it was, with the room behind it.
func stay(t *testing.T, call string, l []int) func() {
	room := l[:cap(l)]
	was := slices.Clone(room)
	return func() {
		t.Helper()
		if !slices.Equal(room, was) {
			t.Fatalf("%s of %v left %v behind", call, was[:len(l)], room)
		}
	}
}

// short is a list as it is told where a test fails.
func short(l []int) string {
	if len(l) > 20 {
		return fmt.Sprintf("%v and so on (%d)", l[:20], len(l))
	}
	return fmt.Sprint(l)
}

// sums holds Sum against the plain one.
func sums(t *testing.T, l []int) (int, api.Errno) {
	t.Helper()
	same := stay(t, "Sum", l)
	got, e := span.Sum(l)
	same()
	if plain, plainErr := plainSum(l); got != plain || e != plainErr {
		t.Fatalf("Sum(%s) = %d, %v, want %d, %v", short(l), got, e, plain, plainErr)
	}
	return got, e
}

// reaches holds Reach against the plain one.
func reaches(t *testing.T, v int, l []int) (span.Span, api.Errno) {
	t.Helper()
	same := stay(t, "Reach", l)
	got, e := span.Reach(v, l)
	same()
	if plain, plainErr := plainReach(v, l); got != plain || e != plainErr {
		t.Fatalf("Reach(%d, %s) = %v, %v, want %v, %v", v, short(l), got, e, plain, plainErr)
	}
	return got, e
}

func holds(t *testing.T, s span.Span, v int) bool {
	t.Helper()
	got := span.Holds(s, v)
	if plain := plainHolds(s, v); got != plain {
		t.Fatalf("Holds(%v, %d) = %v, want %v", s, v, got, plain)
	}
	return got
}

func fits(t *testing.T, s span.Span, v int, l []int) bool {
	t.Helper()
	same := stay(t, "Fits", l)
	got := span.Fits(s, v, l)
	same()
	if plain := plainFits(s, v, l); got != plain {
		t.Fatalf("Fits(%v, %d, %s) = %v, want %v", s, v, short(l), got, plain)
	}
	return got
}

// rooms holds Room against the plain one, and what it tells against what fits as one more.
func rooms(t *testing.T, s span.Span, v int, l []int) (int, int) {
	t.Helper()
	same := stay(t, "Room", l)
	less, more := span.Room(s, v, l)
	same()
	if plainLess, plainMore := plainRoom(s, v, l); less != plainLess || more != plainMore {
		t.Fatalf("Room(%v, %d, %s) = %d, %d, want %d, %d", s, v, short(l), less, more, plainLess, plainMore)
	}
	if span.Fits(s, v, l) && len(l) < 4096 {
		fills(t, s, v, l, less, more)
	} else if less != 0 || more != 0 {
		t.Fatalf("Room(%v, %d, %s) = %d, %d, where nothing more fits", s, v, short(l), less, more)
	}
	return less, more
}

// fills: what Room tells fits as one more, and nothing beyond that does.
func fills(t *testing.T, s span.Span, v int, l []int, less, more int) {
	t.Helper()
	with := func(n int) bool { return span.Fits(s, v, append(slices.Clone(l), n)) }
	if less > 0 || more < 0 {
		t.Fatalf("Room(%v, %d, %s) = %d, %d", s, v, short(l), less, more)
	}
	for _, n := range []int{less, less / 2, 0, more / 2, more} {
		if !with(n) {
			t.Fatalf("Room(%v, %d, %s) = %d, %d, but %d does not fit", s, v, short(l), less, more, n)
		}
	}
	if less != least && with(less-1) {
		t.Fatalf("Room(%v, %d, %s) = %d, but one less fits", s, v, short(l), less)
	}
	if more != most && with(more+1) {
		t.Fatalf("Room(%v, %d, %s) tells %d, but one more fits", s, v, short(l), more)
	}
}

// meets holds Meet against what both hold of some numbers, both ways round.
func meets(t *testing.T, a, b span.Span) (span.Span, bool) {
	t.Helper()
	got, ok := span.Meet(a, b)
	if back, backOK := span.Meet(b, a); back != got || backOK != ok {
		t.Fatalf("Meet(%v, %v) = %v, %v, but the other way round %v, %v", a, b, got, ok, back, backOK)
	}
	some := false
	for _, v := range slices.Concat(edges, []int{a.Lo, a.Hi, b.Lo, b.Hi, a.Lo - 1, a.Hi - 1, b.Lo - 1, b.Hi - 1, a.Lo + 1, a.Hi + 1, b.Lo + 1, b.Hi + 1}) {
		both := plainHolds(a, v) && plainHolds(b, v)
		some = some || both
		if both != (ok && plainHolds(got, v)) {
			t.Fatalf("Meet(%v, %v) = %v, %v, of which %d is wrong", a, b, got, ok, v)
		}
	}
	if ok != some || !ok && got != of(0, 0) || ok && got.Lo > got.Hi {
		t.Fatalf("Meet(%v, %v) = %v, %v, want %v", a, b, got, ok, some)
	}
	return got, ok
}

// all holds the calls that go over a list against the plain ones.
func all(t *testing.T, s span.Span, v int, l []int) {
	t.Helper()
	sums(t, l)
	reaches(t, v, l)
	holds(t, s, v)
	fits(t, s, v, l)
	rooms(t, s, v, l)
}

// script is numbers of any kind, near to 0 and to the edges, that a seed tells.
func script(seed uint64, n int) []int {
	l := make([]int, n)
	for i := range l {
		seed = seed*6364136223846793005 + 1442695040888963407
		l[i] = int(seed) >> (seed >> 58)
		if seed>>57&1 == 1 {
			l[i] = -l[i]
		}
	}
	return l
}

// orders are some orders of a list: as it is, back, sorted both ways, and those below 0 and above taken by turns.
func orders(l []int) [][]int {
	back, rising := slices.Clone(l), slices.Clone(l)
	slices.Reverse(back)
	slices.Sort(rising)
	falling := slices.Clone(rising)
	slices.Reverse(falling)
	turns := make([]int, 0, len(l))
	for i := range rising {
		if i%2 == 0 {
			turns = append(turns, rising[i/2])
		} else {
			turns = append(turns, falling[i/2])
		}
	}
	return [][]int{l, back, rising, falling, turns}
}

// same holds a sum, in several orders, against what is known.
func same(t *testing.T, l []int, want int, wantErr api.Errno) {
	t.Helper()
	for _, one := range orders(l) {
		if got, e := sums(t, roomy(one...)); got != want || e != wantErr {
			t.Errorf("Sum(%s) = %d, %v, want %d, %v", short(one), got, e, want, wantErr)
		}
	}
}

// P12.1

func TestSumOfNone(t *testing.T) {
	same(t, nil, 0, api.OK)
	same(t, []int{}, 0, api.OK)
}

func TestSumOfOne(t *testing.T) {
	for _, n := range edges {
		same(t, []int{n}, n, api.OK)
	}
}

func TestSumOfMany(t *testing.T) {
	same(t, []int{1, 2, 3, 4, -20}, -10, api.OK)
	same(t, []int{1 << 40, -(1 << 39), 7, 0, -7}, 1<<39, api.OK)
	same(t, []int{1<<32 - 1, 1, -1 << 32, 5}, 5, api.OK)
	same(t, []int{-1, -1, -1}, -3, api.OK)
	for n := range 70 {
		l := make([]int, n)
		for i := range l {
			l[i] = i * i
		}
		same(t, l, (n-1)*n*(2*n-1)/6, api.OK)
	}
}

func TestSumOfTooMany(t *testing.T) {
	for _, one := range edges {
		for _, n := range []int{4095, 4096, 4097, 4098, 8192, 65536} {
			l := slices.Repeat([]int{one}, n)
			_, e := sums(t, l)
			if n > 4096 && e != api.ErrLimit {
				t.Errorf("Sum of %d numbers: %v", n, e)
			}
		}
	}
	count := func(n int) []int { return slices.Repeat([]int{3}, n) }
	same(t, count(4095), 12285, api.OK)
	same(t, count(4096), 12288, api.OK)
	same(t, count(4097), 0, api.ErrLimit)
}

func TestSumAtTheEdges(t *testing.T) {
	same(t, []int{most - 5, 5}, most, api.OK)
	same(t, []int{most - 5, 4}, most-1, api.OK)
	same(t, []int{most - 5, 6}, 0, api.ErrOver)
	same(t, []int{least + 5, -5}, least, api.OK)
	same(t, []int{least + 5, -4}, least+1, api.OK)
	same(t, []int{least + 5, -6}, 0, api.ErrOver)
	same(t, []int{1 << 62, 1 << 62}, 0, api.ErrOver)
	same(t, []int{1 << 62, 1 << 62, -1}, most, api.OK)
	same(t, []int{-1 << 62, -1 << 62}, least, api.OK)
	same(t, []int{-1 << 62, -1 << 62, -1}, 0, api.ErrOver)
	same(t, []int{most, least}, -1, api.OK)
	same(t, []int{most, 1}, 0, api.ErrOver)
	same(t, []int{least, -1}, 0, api.ErrOver)
}

func TestSumThatComesBack(t *testing.T) {
	same(t, []int{most, most, least, least, 2}, 0, api.OK)
	same(t, []int{most, most, most, -most, -most}, most, api.OK)
	same(t, []int{least, least, most, most}, -2, api.OK)
	same(t, []int{least, least, most, 1}, least, api.OK)
	same(t, []int{most, most, least, 1}, most, api.OK)
	same(t, []int{most, most, least, 2}, 0, api.ErrOver)
	same(t, []int{least, least, most, 0}, 0, api.ErrOver)
	far := append(slices.Repeat([]int{most}, 2048), slices.Repeat([]int{-most}, 2047)...)
	same(t, far, most, api.OK)
	same(t, append(far, 1), 0, api.ErrOver)
	same(t, append(slices.Repeat([]int{least}, 2048), slices.Repeat([]int{most}, 2048)...), -2048, api.OK)
}

// Sums that are 0 again in an int, and far from it.
func TestSumThatGoesRound(t *testing.T) {
	same(t, []int{least, least}, 0, api.ErrOver)
	same(t, []int{most, most, 2}, 0, api.ErrOver)
	same(t, []int{most, most, 3}, 0, api.ErrOver)
	for _, n := range []int{2, 3, 4, 1023, 1024, 4095, 4096} {
		same(t, slices.Repeat([]int{most}, n), 0, api.ErrOver)
		same(t, slices.Repeat([]int{least}, n), 0, api.ErrOver)
		same(t, slices.Repeat([]int{1 << 62}, n), 0, api.ErrOver)
	}
}

// P12.2

// reach holds a reach, in several orders, against what is known.
func reach(t *testing.T, v int, l []int, want span.Span, wantErr api.Errno) {
	t.Helper()
	for _, one := range orders(l) {
		if got, e := reaches(t, v, roomy(one...)); got != want || e != wantErr {
			t.Errorf("Reach(%d, %s) = %v, %v, want %v, %v", v, short(one), got, e, want, wantErr)
		}
	}
}

func TestReachOfNone(t *testing.T) {
	for _, v := range edges {
		reach(t, v, nil, of(v, v), api.OK)
		reach(t, v, []int{}, of(v, v), api.OK)
		reach(t, v, []int{0, 0, 0}, of(v, v), api.OK)
	}
}

func TestReachOfSome(t *testing.T) {
	reach(t, 5, []int{-1, -2, -4}, of(-2, 5), api.OK)
	reach(t, 5, []int{1, 2, 4}, of(5, 12), api.OK)
	reach(t, 5, []int{-1, 0, 2, 0, 4, -8}, of(-4, 11), api.OK)
	reach(t, 0, []int{-1, 1}, of(-1, 1), api.OK)
	reach(t, -7, []int{7, -7}, of(-14, 0), api.OK)
}

func TestReachFromTheEdges(t *testing.T) {
	reach(t, 0, []int{most, least}, of(least, most), api.OK)
	reach(t, least, []int{most, 0, 1}, of(least, 0), api.OK)
	reach(t, most, []int{least, 0}, of(-1, most), api.OK)
	reach(t, least, []int{-1}, of(0, 0), api.ErrOver)
	reach(t, most, []int{1}, of(0, 0), api.ErrOver)
	reach(t, least, []int{-1, 1}, of(0, 0), api.ErrOver)
	reach(t, most, []int{1, -1}, of(0, 0), api.ErrOver)
	reach(t, least, []int{most, most, 1}, of(least, most), api.OK)
	reach(t, least, []int{most, most, 2}, of(0, 0), api.ErrOver)
	reach(t, most, []int{least, -most}, of(least, most), api.OK)
	reach(t, most, []int{least, least}, of(0, 0), api.ErrOver)
}

func TestReachWithEndsAtTheEdges(t *testing.T) {
	down, up := []int{least + 7, -5}, []int{most - 7, 5}
	reach(t, -2, down, of(least, -2), api.OK)
	reach(t, -3, down, of(0, 0), api.ErrOver)
	reach(t, 2, up, of(2, most), api.OK)
	reach(t, 3, up, of(0, 0), api.ErrOver)
	reach(t, 0, append(down, up...), of(least+2, most-2), api.OK)
	reach(t, 2, append(down, up...), of(least+4, most), api.OK)
	reach(t, -2, append(down, up...), of(least, most-4), api.OK)
	reach(t, 0, append(down, most-7, 5, -2, 2), of(least, most), api.OK)
	reach(t, 0, append(down, most-7, 5, -2, 3), of(0, 0), api.ErrOver)
	reach(t, 0, append(down, most-7, 5, -3, 2), of(0, 0), api.ErrOver)
	reach(t, 0, append(down, most-7, 5, -3, 3), of(0, 0), api.ErrOver)
	reach(t, 0, []int{most, most, least, least}, of(0, 0), api.ErrOver)
}

// Ends that are beyond an int, and in one again if only its digits are told.
func TestReachThatGoesRound(t *testing.T) {
	reach(t, 0, []int{least, least}, of(0, 0), api.ErrOver)
	reach(t, 0, []int{most, most, 2}, of(0, 0), api.ErrOver)
	reach(t, 5, append(slices.Repeat([]int{least}, 2), 1), of(0, 0), api.ErrOver)
	reach(t, least, slices.Repeat([]int{least}, 4095), of(0, 0), api.ErrOver)
	reach(t, least, slices.Repeat([]int{least}, 4096), of(0, 0), api.ErrOver)
	reach(t, most, slices.Repeat([]int{most}, 4096), of(0, 0), api.ErrOver)
}

func TestReachOfTooMany(t *testing.T) {
	for _, one := range edges {
		for _, v := range edges {
			for _, n := range []int{4095, 4096, 4097, 8192, 65536} {
				_, e := reaches(t, v, slices.Repeat([]int{one}, n))
				if n > 4096 && e != api.ErrLimit {
					t.Errorf("Reach of %d numbers: %v", n, e)
				}
			}
		}
	}
	for n, want := range map[int]api.Errno{4094: api.OK, 4095: api.OK, 4096: api.OK, 4097: api.ErrLimit} {
		l := append(slices.Repeat([]int{3, -2}, n/2), slices.Repeat([]int{3}, n%2)...)
		far := of(1-n/2*2, 1+(n+1)/2*3)
		if want != api.OK {
			far = of(0, 0)
		}
		reach(t, 1, l, far, want)
	}
}

// P12.3

func TestHolds(t *testing.T) {
	for _, one := range []struct {
		s    span.Span
		v    int
		want bool
	}{
		{of(-3, 7), -4, false}, {of(-3, 7), -3, true}, {of(-3, 7), 0, true}, {of(-3, 7), 7, true}, {of(-3, 7), 8, false},
		{of(4, 4), 3, false}, {of(4, 4), 4, true}, {of(4, 4), 5, false},
		{of(5, 4), 3, false}, {of(5, 4), 4, false}, {of(5, 4), 5, false}, {of(5, 4), 6, false},
		{of(9, -9), 0, false}, {of(9, -9), 9, false}, {of(9, -9), -9, false},
		{whole, least, true}, {whole, 0, true}, {whole, most, true},
		{of(least+1, most), least, false}, {of(least+1, most), least + 1, true},
		{of(least, most-1), most, false}, {of(least, most-1), most - 1, true},
		{of(most, least), 0, false}, {of(most, least), least, false}, {of(most, least), most, false},
		{of(least, least), least, true}, {of(least, least), least + 1, false}, {of(least, least), most, false},
		{of(most, most), most, true}, {of(most, most), most - 1, false}, {of(most, most), least, false},
		{of(0, 0), 0, true}, {of(0, 0), least, false}, {of(0, 0), most, false},
	} {
		if got := holds(t, one.s, one.v); got != one.want {
			t.Errorf("Holds(%v, %d) = %v", one.s, one.v, got)
		}
	}
}

func TestHoldsOfEachEdge(t *testing.T) {
	for _, lo := range edges {
		for _, hi := range edges {
			for _, v := range edges {
				holds(t, of(lo, hi), v)
			}
		}
	}
}

// fit holds Fits, in several orders, against what is known.
func fit(t *testing.T, s span.Span, v int, l []int, want bool) {
	t.Helper()
	for _, one := range orders(l) {
		if got := fits(t, s, v, roomy(one...)); got != want {
			t.Errorf("Fits(%v, %d, %s) = %v", s, v, short(one), got)
		}
	}
}

func TestFits(t *testing.T) {
	l := []int{-3, 4, 0}
	fit(t, of(2, 9), 5, l, true)
	fit(t, of(1, 10), 5, l, true)
	fit(t, of(3, 9), 5, l, false)
	fit(t, of(2, 8), 5, l, false)
	fit(t, of(3, 8), 5, l, false)
	fit(t, of(2, 9), 4, l, false)
	fit(t, of(2, 9), 6, l, false)
	fit(t, of(10, 20), 5, l, false)
	fit(t, of(-9, 1), 5, l, false)
	fit(t, of(9, 2), 5, l, false)
	fit(t, of(9, 2), 5, nil, false)
	fit(t, of(6, 5), 5, nil, false)
	fit(t, of(5, 4), 5, nil, false)
	fit(t, of(5, 5), 5, nil, true)
	fit(t, of(5, 5), 5, []int{0, 0}, true)
	fit(t, of(5, 5), 5, []int{1, -1}, false)
	fit(t, of(most, least), 0, nil, false)
}

func TestFitsWhereReachIsNotTold(t *testing.T) {
	fit(t, whole, most, nil, true)
	fit(t, whole, least, nil, true)
	fit(t, whole, most, []int{1}, false)
	fit(t, whole, least, []int{-1}, false)
	fit(t, whole, 0, []int{most, least}, true)
	fit(t, whole, 0, []int{most, 1, -1}, false)
	fit(t, whole, 0, []int{least, 1, -1}, false)
	fit(t, of(-9, 9), 0, []int{least, least}, false)
	fit(t, of(-9, 9), 0, []int{most, most, 2}, false)
	fit(t, whole, 0, slices.Repeat([]int{1}, 4095), true)
	fit(t, whole, 0, slices.Repeat([]int{1}, 4096), true)
	fit(t, whole, 0, slices.Repeat([]int{1}, 4097), false)
	fit(t, whole, 0, slices.Repeat([]int{0}, 4097), false)
	fit(t, of(0, 0), 0, slices.Repeat([]int{most}, 4097), false)
}

// P12.4

// room holds Room, in several orders, against what is known.
func room(t *testing.T, s span.Span, v int, l []int, wantLess, wantMore int) {
	t.Helper()
	for _, one := range orders(l) {
		if less, more := rooms(t, s, v, roomy(one...)); less != wantLess || more != wantMore {
			t.Errorf("Room(%v, %d, %s) = %d, %d, want %d, %d", s, v, short(one), less, more, wantLess, wantMore)
		}
	}
}

func TestRoom(t *testing.T) {
	room(t, of(0, 10), 5, nil, -5, 5)
	room(t, of(0, 10), 0, nil, 0, 10)
	room(t, of(0, 10), 10, nil, -10, 0)
	room(t, of(0, 10), 5, []int{4}, -5, 1)
	room(t, of(0, 10), 5, []int{4, -5}, 0, 1)
	room(t, of(-20, 20), 3, []int{4, -5, 0, 6, -7}, -11, 7)
	room(t, of(5, 5), 5, nil, 0, 0)
	room(t, of(5, 5), 5, []int{0}, 0, 0)
	room(t, of(-9, -2), -5, []int{-1, 2}, -3, 1)
}

func TestRoomThatIsJustFilled(t *testing.T) {
	room(t, of(2, 12), 5, []int{-3, 4}, 0, 3)
	room(t, of(0, 9), 5, []int{-3, 4}, -2, 0)
	room(t, of(2, 9), 5, []int{-3, 4}, 0, 0)
	room(t, whole, 0, []int{least, most}, 0, 0)
	room(t, whole, 0, []int{least}, 0, most)
	room(t, whole, 0, []int{most}, least, 0)
}

func TestRoomBeyondAnInt(t *testing.T) {
	room(t, whole, 0, nil, least, most)
	room(t, whole, 1, nil, least, most-1)
	room(t, whole, -1, nil, least+1, most)
	room(t, whole, 5, []int{-2, 2}, least, most-7)
	room(t, whole, -5, []int{-2, 2}, least+7, most)
	room(t, whole, most, nil, least, 0)
	room(t, whole, least, nil, 0, most)
	room(t, whole, most-1, nil, least, 1)
	room(t, whole, least+1, nil, -1, most)
	room(t, of(-1, most), most, nil, least, 0)
	room(t, of(0, most), most, nil, -most, 0)
	room(t, of(-2, most), most, nil, least, 0)
	room(t, of(least, -1), least, nil, 0, most)
	room(t, of(least, 0), least, nil, 0, most)
	room(t, of(least, -2), least, nil, 0, most-1)
	room(t, of(least, 7), 8, nil, 0, 0)
	room(t, of(-9, most), -8, []int{-1}, 0, most)
	room(t, of(least, 9), 8, []int{1}, least, 0)
	room(t, of(least, 9), 1, nil, least, 8)
}

func TestRoomWhereItDoesNotFit(t *testing.T) {
	room(t, of(0, 10), 11, nil, 0, 0)
	room(t, of(0, 10), -1, nil, 0, 0)
	room(t, of(0, 10), 5, []int{6}, 0, 0)
	room(t, of(0, 10), 5, []int{-6}, 0, 0)
	room(t, of(10, 0), 5, nil, 0, 0)
	room(t, of(most, least), 0, nil, 0, 0)
	room(t, whole, most, []int{1}, 0, 0)
	room(t, whole, least, []int{-1}, 0, 0)
	room(t, whole, 0, []int{least, least}, 0, 0)
}

func TestRoomOfTooMany(t *testing.T) {
	ones := func(n int) []int { return slices.Repeat([]int{1}, n) }
	room(t, of(-10, 5000), 0, ones(4094), -10, 906)
	room(t, of(-10, 5000), 0, ones(4095), -10, 905)
	room(t, of(-10, 5000), 0, ones(4096), 0, 0)
	room(t, of(-10, 5000), 0, ones(4097), 0, 0)
	room(t, whole, 0, slices.Repeat([]int{0}, 4095), least, most)
	room(t, whole, 0, slices.Repeat([]int{0}, 4096), 0, 0)
	room(t, whole, 0, slices.Repeat([]int{0}, 4097), 0, 0)
	room(t, whole, 0, slices.Repeat([]int{0}, 65536), 0, 0)
}

// P12.5

// meet holds Meet against what is known.
func meet(t *testing.T, a, b, want span.Span) {
	t.Helper()
	if got, ok := meets(t, a, b); got != want || !ok {
		t.Errorf("Meet(%v, %v) = %v, %v, want %v", a, b, got, ok, want)
	}
}

// apart: two spans have nothing in common.
func apart(t *testing.T, a, b span.Span) {
	t.Helper()
	if got, ok := meets(t, a, b); got != of(0, 0) || ok {
		t.Errorf("Meet(%v, %v) = %v, %v", a, b, got, ok)
	}
}

func TestMeet(t *testing.T) {
	meet(t, of(-5, 9), of(-2, 3), of(-2, 3))
	meet(t, of(-5, 9), of(-5, 3), of(-5, 3))
	meet(t, of(-5, 9), of(0, 9), of(0, 9))
	meet(t, of(-5, 9), of(3, 20), of(3, 9))
	meet(t, of(-5, 9), of(9, 20), of(9, 9))
	meet(t, of(-5, 9), of(-5, 9), of(-5, 9))
	meet(t, of(4, 4), of(4, 4), of(4, 4))
	meet(t, whole, of(-5, 9), of(-5, 9))
	meet(t, whole, whole, whole)
	meet(t, whole, of(least, least), of(least, least))
	meet(t, whole, of(most, most), of(most, most))
	meet(t, of(least, 4), of(4, most), of(4, 4))
	meet(t, of(least, 9), of(4, most), of(4, 9))
}

func TestMeetOfThoseApart(t *testing.T) {
	apart(t, of(-5, 9), of(10, 20))
	apart(t, of(-5, 9), of(15, 20))
	apart(t, of(least, 4), of(5, most))
	apart(t, of(least, least), of(most, most))
	apart(t, of(least, least), of(least+1, most))
	apart(t, of(least, most-1), of(most, most))
}

func TestMeetOfEmptyOnes(t *testing.T) {
	apart(t, of(5, 4), of(-9, 9))
	apart(t, of(5, 4), of(5, 4))
	apart(t, of(5, 4), of(4, 5))
	apart(t, of(5, 4), of(8, 2))
	apart(t, of(9, -9), of(-3, 3))
	apart(t, of(most, least), whole)
	apart(t, of(most, least), of(0, 0))
	apart(t, of(0, -1), of(0, 0))
	apart(t, of(1, 0), of(0, 0))
}

func TestMeetOfEachEdge(t *testing.T) {
	for _, a := range edges {
		for _, b := range edges {
			for _, c := range edges {
				for _, d := range edges {
					meets(t, of(a, b), of(c, d))
				}
			}
		}
	}
}

// P12.6

// chosen are those of a list whose place stands in a number's digits.
func chosen(l []int, digits int) []int {
	var some []int
	for i, n := range l {
		if digits>>i&1 == 1 {
			some = append(some, n)
		}
	}
	return some
}

// held: whichever of a list are added, in each of several orders, the span holds the number all the while. All sums on the way are exact ones.
func held(t *testing.T, s span.Span, v int, l []int) {
	t.Helper()
	if !fits(t, s, v, l) {
		t.Fatalf("%v does not hold %d and %v", s, v, l)
	}
	for digits := range 1 << len(l) {
		for _, some := range orders(chosen(l, digits)) {
			at := exact(v)
			for i := range len(some) + 1 {
				if !at.IsInt64() || !span.Holds(s, int(at.Int64())) {
					t.Fatalf("%v fits %d and %v, but not with %v added", s, v, l, some[:i])
				}
				if i < len(some) {
					at.Add(at, exact(some[i]))
				}
			}
		}
	}
}

func TestWhatFitsStays(t *testing.T) {
	held(t, of(-20, 37), 5, []int{-1, 2, -4, 8, -16, 0, 3, 7, -2, 9, 1, -2})
	held(t, of(-55, 55), 0, []int{-1, 2, -3, 4, -5, 6, -7, 8, -9, 10})
	held(t, whole, 0, []int{least + 10, -1, -2, -3, -4, most - 10, 1, 2, 3, 4})
	held(t, whole, most, []int{-1, -2, least, -3, -5, -7, 0, 0, -11, -13})
	held(t, whole, least, []int{1, 2, most, 3, 5, 7, 0, 0, 11, 13})
	held(t, of(7, 7), 7, make([]int, 10))
	held(t, of(7, 7), 7, nil)
}

// The span that just fits, and what is beside it.
func TestWhatJustFitsStays(t *testing.T) {
	for seed := range uint64(60) {
		l := script(seed+3, 7)
		v := script(seed+900, 1)[0]
		r, e := reaches(t, v, l)
		if e != api.OK {
			continue
		}
		held(t, r, v, l)
		if r.Lo != most && fits(t, of(r.Lo+1, r.Hi), v, l) || r.Hi != least && fits(t, of(r.Lo, r.Hi-1), v, l) {
			t.Errorf("%d and %v fit into less than %v", v, l, r)
		}
	}
}

// One that is added as Room tells lets the others be added as before.
func TestWhatIsRoomStays(t *testing.T) {
	s, v := of(-100, 90), 7
	var l []int
	for i := range 8 {
		less, more := rooms(t, s, v, l)
		l = append(l, []int{less / 3, more / 3}[i%2])
		held(t, s, v, l)
	}
	less, more := rooms(t, s, v, l)
	l = append(l, less, more)
	held(t, s, v, l)
	if less, more = rooms(t, s, v, l); less != 0 || more != 0 {
		t.Errorf("%d and %v leave room for %d and %d", v, l, less, more)
	}
}

// All of it, at the edges and of any numbers.

func TestShortListsOfEachEdge(t *testing.T) {
	for _, v := range edges {
		for _, a := range edges {
			for _, b := range edges {
				for _, l := range [][]int{nil, {a}, {a, b}, {a, b, 1}, {b, a, -1}} {
					reaches(t, v, l)
					sums(t, append(slices.Clone(l), v))
				}
				all(t, of(a, b), v, nil)
			}
		}
	}
}

func TestEachListInEachSpan(t *testing.T) {
	for _, l := range lists {
		l = roomy(l...)
		for _, lo := range edges {
			for _, hi := range edges {
				for _, v := range edges {
					fits(t, of(lo, hi), v, l)
				}
				all(t, of(lo, hi), lo, l)
				all(t, of(lo, hi), lo/2+hi/2, l)
			}
		}
	}
}

func TestNumbersOfAnyKind(t *testing.T) {
	for seed := range uint64(3000) {
		l := script(seed, 4+int(seed%40))
		all(t, of(l[0], l[1]), l[2], l[3:])
		all(t, of(min(l[0], l[1]), max(l[0], l[1])), l[2], l[3:])
		r, _ := reaches(t, l[2], l[3:])
		all(t, r, l[2], l[3:])
		all(t, of(r.Lo-1, r.Hi+1), l[2], l[3:])
		meets(t, of(l[0], l[1]), of(l[2], l[3]))
		meets(t, r, of(l[0], l[1]))
	}
}

func TestLongListsOfAnyKind(t *testing.T) {
	for i, n := range []int{100, 1000, 4094, 4095, 4096, 4097} {
		l := script(uint64(i)+77, n)
		all(t, whole, 0, l)
		for j := range l {
			l[j] >>= 14
		}
		r, e := reaches(t, -5, l)
		if n <= 4096 && e != api.OK {
			t.Fatalf("Reach of %d numbers: %v", n, e)
		}
		all(t, r, -5, l)
		all(t, of(r.Lo-3, r.Hi+4), -5, l)
		all(t, of(r.Lo+1, r.Hi), -5, l)
		all(t, of(r.Lo, r.Hi-1), -5, l)
		all(t, whole, -5, l)
	}
}

// The example of the chapter.

func TestTheExample(t *testing.T) {
	reach(t, 5, []int{-3, 4}, of(2, 9), api.OK)
}

func Example() {
	far, e := span.Reach(5, []int{-3, 4})
	fmt.Println(far, e == api.OK)
	fmt.Println(span.Fits(span.Span{Lo: 0, Hi: 10}, 5, []int{-3, 4}))
	fmt.Println(span.Room(span.Span{Lo: 0, Hi: 10}, 5, []int{-3, 4}))
	fmt.Println(span.Meet(far, span.Span{Lo: 4, Hi: 20}))
	sum, e := span.Sum([]int{math.MaxInt, 1, -1})
	fmt.Println(sum == math.MaxInt, e == api.OK)
	_, e = span.Sum([]int{math.MaxInt, 1})
	fmt.Println(e == api.ErrOver)
	// Output:
	// {2 9} true
	// true
	// -2 1
	// {4 9} true
	// true true
	// true
}

// P1

// numbers are bytes, eight of them each.
func numbers(b []byte) []int {
	var l []int
	for ; len(b) >= 8; b = b[8:] {
		n := uint64(0)
		for _, one := range b[:8] {
			n = n<<8 | uint64(one)
		}
		l = append(l, int(n))
	}
	return l
}

func FuzzNumbers(f *testing.F) {
	for _, lo := range edges {
		f.Add(lo, lo/2, -lo, lo+1, []byte("four and twenty numbers: of eight bytes each, as they come"))
	}
	f.Add(least, most, 0, 0, []byte{127, 255, 255, 255, 255, 255, 255, 255, 128, 0, 0, 0, 0, 0, 0, 0})
	f.Fuzz(func(t *testing.T, a, b, c, d int, raw []byte) {
		l := numbers(raw[:min(len(raw), 400)])
		all(t, of(a, b), c, l)
		all(t, of(min(a, b), max(a, b)), c, append(l, d))
		meets(t, of(a, b), of(c, d))
		if r, e := span.Reach(c, l); e == api.OK {
			all(t, r, c, l)
			held(t, r, c, l[:min(len(l), 6)])
		}
	})
}

// small numbers, so that more of them fit.
func FuzzSmall(f *testing.F) {
	f.Add(-20, 30, 5, []byte{1, 2, 250, 240, 7})
	f.Add(0, 0, 0, []byte{})
	f.Add(least, least+600, least+300, []byte{1, 2, 250, 240, 7})
	f.Add(most-600, most, most-300, []byte{128, 127, 255, 0})
	f.Fuzz(func(t *testing.T, lo, hi, v int, raw []byte) {
		var l []int
		for _, one := range raw[:min(len(raw), 60)] {
			l = append(l, int(int8(one)))
		}
		all(t, of(lo, hi), v, l)
		if span.Fits(of(lo, hi), v, l) {
			held(t, of(lo, hi), v, l[:min(len(l), 8)])
		}
	})
}
