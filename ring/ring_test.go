package ring_test

import (
	"math"
	"math/big"
	"slices"
	"testing"

	"heronry/api"
	"heronry/ring"
)

const (
	mostTail = 1_099_511_627_776 // 2^40
	mostAt   = 2_199_023_255_552 // 2^41
)

// edges are ints at which something may begin or end, with those around them.
func edges() []int {
	return []int{
		math.MinInt, math.MinInt + 1, -mostAt, -4096, -1, 0, 1, 2, 7, 4095, 4096, 4097,
		mostTail - 4096, mostTail - 1, mostTail, mostTail + 1, mostAt - 1, mostAt, mostAt + 1, math.MaxInt - 1, math.MaxInt,
	}
}

// noMore tells whether a is b and c at most, where that may be beyond an int.
func noMore(a, b, c int) bool {
	both := new(big.Int).Add(big.NewInt(int64(b)), big.NewInt(int64(c)))
	return big.NewInt(int64(a)).Cmp(both) <= 0
}

// plainSane is Sane, bound by bound, as P5.1 tells it.
func plainSane(r ring.Ring) bool {
	switch {
	case r.From < 0, r.From > 4096:
		return false
	case r.Size < 1, r.Size > 4096:
		return false
	case r.Head < 0:
		return false
	case r.Tail < r.Head, !noMore(r.Tail, r.Head, r.Size), r.Tail > mostTail:
		return false
	}
	return true
}

// all are rings of which each field is each of the edges.
func all() []ring.Ring {
	var l []ring.Ring
	for _, from := range edges() {
		for _, size := range edges() {
			for _, head := range edges() {
				for _, tail := range edges() {
					l = append(l, ring.Ring{From: from, Size: size, Head: head, Tail: tail})
				}
			}
		}
	}
	return l
}

// sane are those of all that may be.
func sane(t *testing.T) []ring.Ring {
	t.Helper()
	l := slices.DeleteFunc(all(), func(r ring.Ring) bool { return !plainSane(r) })
	if len(l) < 100 {
		t.Fatalf("only %d rings may be", len(l))
	}
	return l
}

// insane are rings that may not be, each for another field.
func insane() []ring.Ring {
	return []ring.Ring{
		{},
		{From: -1, Size: 4, Head: 3, Tail: 5},
		{From: 4097, Size: 4, Head: 3, Tail: 5},
		{From: 2, Size: 0, Head: 3, Tail: 3},
		{From: 2, Size: -4, Head: 3, Tail: 3},
		{From: 2, Size: 4097, Head: 3, Tail: 5},
		{From: 2, Size: 4, Head: -1, Tail: 1},
		{From: 2, Size: 4, Head: 3, Tail: 2},
		{From: 2, Size: 4, Head: 3, Tail: 8},
		{From: 2, Size: 4, Head: mostTail - 1, Tail: mostTail + 1},
		{From: math.MinInt, Size: 4, Head: 3, Tail: 5},
		{From: math.MaxInt, Size: 4, Head: 3, Tail: 5},
		{From: 2, Size: math.MaxInt, Head: 3, Tail: 5},
		{From: 2, Size: math.MinInt, Head: 3, Tail: 3},
		{From: 2, Size: 4, Head: math.MinInt, Tail: math.MaxInt},
		{From: 2, Size: 4, Head: math.MaxInt, Tail: math.MinInt},
		{From: 2, Size: 4, Head: math.MaxInt, Tail: math.MaxInt},
	}
}

// take takes what must be there.
func take(t *testing.T, r ring.Ring, n int) ring.Ring {
	t.Helper()
	got, e := ring.Take(r, n)
	if want := (ring.Ring{From: r.From, Size: r.Size, Head: r.Head, Tail: r.Tail + n}); got != want || e != api.OK {
		t.Fatalf("Take(%v, %d) = %v, %v", r, n, got, e)
	}
	return got
}

// drop drops what must be dropped.
func drop(t *testing.T, r ring.Ring, to int) ring.Ring {
	t.Helper()
	got, e := ring.Drop(r, to)
	if want := (ring.Ring{From: r.From, Size: r.Size, Head: to, Tail: r.Tail}); got != want || e != api.OK {
		t.Fatalf("Drop(%v, %d) = %v, %v", r, to, got, e)
	}
	return got
}

// refused checks what is answered where there is an error: that one, and no ring beside it.
func refused(t *testing.T, what string, r ring.Ring, n int, got ring.Ring, e, want api.Errno) {
	if e != want || got != (ring.Ring{}) {
		t.Helper() // here, as it is called millions of times
		t.Errorf("%s(%v, %d) = %v, %v, want no ring, and %v", what, r, n, got, e, want)
	}
}

// P5.1

func TestSaneAtItsBounds(t *testing.T) {
	for _, x := range []struct {
		r    ring.Ring
		want bool
	}{
		{ring.Ring{From: -1, Size: 4}, false},
		{ring.Ring{From: 0, Size: 4}, true},
		{ring.Ring{From: 4096, Size: 4}, true},
		{ring.Ring{From: 4097, Size: 4}, false},
		{ring.Ring{From: 4096, Size: 4096, Head: mostTail - 4096, Tail: mostTail}, true},

		{ring.Ring{Size: 0}, false},
		{ring.Ring{Size: -1}, false},
		{ring.Ring{Size: 1}, true},
		{ring.Ring{Size: 4096}, true},
		{ring.Ring{Size: 4097}, false},

		{ring.Ring{Size: 4, Head: -1}, false},
		{ring.Ring{Size: 4, Head: -1, Tail: -1}, false},
		{ring.Ring{Size: 4, Head: 0}, true},
		{ring.Ring{Size: 4, Head: 0, Tail: -1}, false},

		{ring.Ring{Size: 4, Head: 9, Tail: 0}, false},
		{ring.Ring{Size: 4, Head: 9, Tail: 8}, false},
		{ring.Ring{Size: 4, Head: 9, Tail: 9}, true},
		{ring.Ring{Size: 4, Head: 9, Tail: 10}, true},
		{ring.Ring{Size: 4, Head: 9, Tail: 13}, true},
		{ring.Ring{Size: 4, Head: 9, Tail: 14}, false},
		{ring.Ring{Size: 1, Head: 0, Tail: 1}, true},
		{ring.Ring{Size: 1, Head: 0, Tail: 2}, false},
		{ring.Ring{Size: 4096, Head: 0, Tail: 4096}, true},
		{ring.Ring{Size: 4096, Head: 0, Tail: 4097}, false},

		{ring.Ring{Size: 4, Head: mostTail - 4, Tail: mostTail}, true},
		{ring.Ring{Size: 4, Head: mostTail, Tail: mostTail}, true},
		{ring.Ring{Size: 4, Head: mostTail - 3, Tail: mostTail + 1}, false},
		{ring.Ring{Size: 4, Head: mostTail, Tail: mostTail + 1}, false},
		{ring.Ring{Size: 4, Head: mostTail + 1, Tail: mostTail + 1}, false},
		{ring.Ring{Size: 4, Head: mostTail + 1, Tail: mostTail}, false},
	} {
		if got := ring.Sane(x.r); got != x.want {
			t.Errorf("Sane(%v) = %v", x.r, got)
		}
	}
}

func TestSaneOfNone(t *testing.T) {
	for _, r := range insane() {
		if ring.Sane(r) {
			t.Errorf("Sane(%v)", r)
		}
	}
}

func TestSaneOfLeastAndGreatestInts(t *testing.T) {
	good := ring.Ring{From: 2, Size: 4, Head: 5, Tail: 7}
	for _, v := range []int{math.MinInt, math.MinInt + 1, math.MaxInt - 1, math.MaxInt} {
		for fields := range 16 {
			r := good
			for i, p := range []*int{&r.From, &r.Size, &r.Head, &r.Tail} {
				if fields>>i&1 == 1 {
					*p = v
				}
			}
			if got := ring.Sane(r); got != (fields == 0) {
				t.Errorf("Sane(%v) = %v", r, got)
			}
		}
	}
}

func TestSaneOfAllEdges(t *testing.T) {
	for _, r := range all() {
		if got, want := ring.Sane(r), plainSane(r); got != want {
			t.Errorf("Sane(%v) = %v", r, got)
		}
	}
}

func TestUsedAndFree(t *testing.T) {
	for _, x := range []struct {
		r          ring.Ring
		used, free int
	}{
		{ring.Ring{From: 0, Size: 1}, 0, 1},
		{ring.Ring{From: 0, Size: 1, Head: 7, Tail: 8}, 1, 0},
		{ring.Ring{From: 2, Size: 4, Head: 3, Tail: 3}, 0, 4},
		{ring.Ring{From: 2, Size: 4, Head: 3, Tail: 4}, 1, 3},
		{ring.Ring{From: 2, Size: 4, Head: 3, Tail: 7}, 4, 0},
		{ring.Ring{From: 4096, Size: 4096, Head: 0, Tail: 1}, 1, 4095},
		{ring.Ring{From: 4096, Size: 4096, Head: mostTail - 4096, Tail: mostTail}, 4096, 0},
		{ring.Ring{From: 4096, Size: 4096, Head: mostTail, Tail: mostTail}, 0, 4096},
	} {
		if used, free := ring.Used(x.r), ring.Free(x.r); used != x.used || free != x.free {
			t.Errorf("%v: Used %d, Free %d, want %d, %d", x.r, used, free, x.used, x.free)
		}
	}
}

func TestUsedAndFreeOfAllEdges(t *testing.T) {
	for _, r := range all() {
		used, free := 0, 0
		if plainSane(r) {
			used, free = r.Tail-r.Head, r.Size-(r.Tail-r.Head)
		}
		if ring.Used(r) != used || ring.Free(r) != free {
			t.Errorf("%v: Used %d, Free %d, want %d, %d", r, ring.Used(r), ring.Free(r), used, free)
		}
	}
}

// P5.2

func TestSectorOfSome(t *testing.T) {
	for _, x := range []struct{ from, size, at, want int }{
		{2, 4, 0, 2},
		{2, 4, 1, 3},
		{2, 4, 3, 5},
		{2, 4, 4, 2},
		{2, 4, 5, 3},
		{2, 4, 400, 2},
		{2, 4, 403, 5},
		{2, 4, -1, -1},
		{2, 4, math.MinInt, -1},
		{2, 4, mostTail + 1, 3},
		{2, 4, mostAt - 1, 5},
		{2, 4, mostAt, 2},
		{2, 4, mostAt + 1, -1},
		{2, 4, math.MaxInt, -1},
		{0, 1, 0, 0},
		{0, 1, 1, 0},
		{0, 1, -1, -1},
		{0, 1, mostAt, 0},
		{0, 1, mostAt + 1, -1},
		{7, 3, mostAt, 9}, // 2^41 modulo 3 is 2
		{7, 3, mostAt - 1, 8},
		{7, 3, mostAt - 2, 7},
		{4096, 4096, 4095, 8191},
		{4096, 4096, 4096, 4096},
		{4096, 4095, 4095, 4096},
		{4096, 4096, mostAt - 1, 8191},
	} {
		for _, used := range []int{0, 1} { // a place need not count
			r := ring.Ring{From: x.from, Size: x.size, Head: 9, Tail: 9 + used}
			if got := ring.Sector(r, x.at); got != x.want {
				t.Errorf("Sector(%v, %d) = %d, want %d", r, x.at, got, x.want)
			}
		}
	}
}

func TestSectorGoesRound(t *testing.T) {
	for size := 1; size < 40; size++ {
		for _, from := range []int{0, 1, 9, 4096} {
			r := ring.Ring{From: from, Size: size, Head: 1000, Tail: 1000 + size}
			sector := from
			for at := range 4 * size {
				if got := ring.Sector(r, at); got != sector {
					t.Fatalf("Sector(%v, %d) = %d, want %d", r, at, got, sector)
				}
				sector++
				if sector == from+size {
					sector = from
				}
			}
		}
	}
}

func TestSectorOfWhatIsNotSane(t *testing.T) {
	for _, r := range insane() {
		for _, at := range edges() {
			if got := ring.Sector(r, at); got != -1 {
				t.Errorf("Sector(%v, %d) = %d", r, at, got)
			}
		}
	}
}

func TestSectorOfAllEdges(t *testing.T) {
	for _, r := range sane(t) {
		for _, at := range edges() {
			want := -1
			if at >= 0 && at <= mostAt {
				want = r.From + (at - at/r.Size*r.Size)
			}
			if got := ring.Sector(r, at); got != want {
				t.Errorf("Sector(%v, %d) = %d, want %d", r, at, got, want)
			}
		}
	}
}

func TestHolds(t *testing.T) {
	for _, r := range []ring.Ring{
		{From: 2, Size: 4},
		{From: 2, Size: 4, Tail: 1},
		{From: 2, Size: 4, Tail: 4},
		{From: 2, Size: 4, Head: 7, Tail: 7},
		{From: 2, Size: 4, Head: 7, Tail: 8},
		{From: 2, Size: 4, Head: 7, Tail: 11},
		{From: 0, Size: 1, Head: 3, Tail: 4},
		{From: 4096, Size: 4096, Head: 5, Tail: 4101},
		{From: 4096, Size: 4096, Head: mostTail - 9, Tail: mostTail},
		{From: 4096, Size: 4096, Head: mostTail, Tail: mostTail},
	} {
		ats := append(edges(), r.Head-2, r.Head-1, r.Head, r.Head+1, r.Tail-2, r.Tail-1, r.Tail, r.Tail+1, r.Head+r.Size, r.Head-r.Size)
		var counts []int
		for p := r.Head; p < r.Tail; p++ {
			counts = append(counts, p)
		}
		for _, at := range append(ats, counts...) {
			if got, want := ring.Holds(r, at), slices.Contains(counts, at); got != want {
				t.Errorf("Holds(%v, %d) = %v", r, at, got)
			}
		}
	}
}

func TestHoldsOfWhatIsNotSane(t *testing.T) {
	for _, r := range insane() {
		for _, at := range append(edges(), r.Head, r.Tail, 3, 4, 5) {
			if ring.Holds(r, at) {
				t.Errorf("Holds(%v, %d)", r, at)
			}
		}
	}
}

func TestHoldsOfAllEdges(t *testing.T) {
	for _, r := range sane(t) {
		for _, at := range append(edges(), r.Head-1, r.Head, r.Tail-1, r.Tail) {
			want := at >= r.Head
			if at >= r.Tail {
				want = false
			}
			if got := ring.Holds(r, at); got != want {
				t.Errorf("Holds(%v, %d) = %v", r, at, got)
			}
		}
	}
}

// P5.3

func TestTakeUpToWhatIsFree(t *testing.T) {
	for size := 1; size < 9; size++ {
		for used := range size + 1 {
			for _, head := range []int{0, 1, 5, size, 3 * size, mostTail - 100} {
				r := ring.Ring{From: 3, Size: size, Head: head, Tail: head + used}
				for n := range size - used + 1 {
					got := take(t, r, n)
					if ring.Used(got) != used+n || ring.Free(got) != size-used-n || !ring.Sane(got) {
						t.Errorf("Take(%v, %d) = %v", r, n, got)
					}
				}
				for _, n := range []int{size - used + 1, size - used + 2, size + 1, 4097, math.MaxInt - 1, math.MaxInt} {
					got, e := ring.Take(r, n)
					refused(t, "Take", r, n, got, e, api.ErrFull)
				}
			}
		}
	}
}

func TestTakeOfLessThanNone(t *testing.T) {
	for _, r := range []ring.Ring{
		{From: 2, Size: 4},
		{From: 2, Size: 4, Head: 3, Tail: 5},
		{From: 2, Size: 4, Head: 3, Tail: 7},
		{From: 2, Size: 4, Head: mostTail, Tail: mostTail},
	} {
		for _, n := range []int{-1, -2, -4, -4096, math.MinInt, math.MinInt + 1} {
			got, e := ring.Take(r, n)
			refused(t, "Take", r, n, got, e, api.ErrArg)
		}
	}
}

func TestTakeUpToTheGreatestTail(t *testing.T) {
	for _, left := range []int{0, 1, 2, 10} {
		r := ring.Ring{From: 2, Size: 20, Head: mostTail - left, Tail: mostTail - left}
		for n := range 21 {
			if n <= left {
				take(t, r, n)
				continue
			}
			got, e := ring.Take(r, n)
			refused(t, "Take", r, n, got, e, api.ErrFull)
		}
	}
	full := ring.Ring{From: 2, Size: 20, Head: mostTail - 20, Tail: mostTail}
	take(t, full, 0)
	for _, n := range []int{1, 20, math.MaxInt} {
		got, e := ring.Take(full, n)
		refused(t, "Take", full, n, got, e, api.ErrFull)
	}
}

func TestTheOrderOfTakesErrors(t *testing.T) {
	for _, r := range insane() {
		for _, n := range append(edges(), 3, 5, 4098) { // ErrArg is ahead of ErrFull
			got, e := ring.Take(r, n)
			refused(t, "Take", r, n, got, e, api.ErrArg)
		}
	}
}

func TestTakeOfAllEdges(t *testing.T) {
	for _, r := range all() {
		for _, n := range edges() {
			want := api.OK
			switch {
			case !plainSane(r), n < 0:
				want = api.ErrArg
			case n > r.Head+r.Size-r.Tail, !noMore(n, mostTail, -r.Tail):
				want = api.ErrFull
			}
			if want == api.OK {
				take(t, r, n)
				continue
			}
			got, e := ring.Take(r, n)
			refused(t, "Take", r, n, got, e, want)
		}
	}
}

func TestDropToEachThatCounts(t *testing.T) {
	for size := 1; size < 9; size++ {
		for used := range size + 1 {
			for _, head := range []int{0, 1, 5, size, 3 * size, mostTail - used} {
				r := ring.Ring{From: 3, Size: size, Head: head, Tail: head + used}
				for to := r.Head; to <= r.Tail; to++ {
					got := drop(t, r, to)
					if ring.Used(got) != r.Tail-to || !ring.Sane(got) {
						t.Errorf("Drop(%v, %d) = %v", r, to, got)
					}
				}
				for _, to := range []int{r.Head - 1, r.Head - 2, -1, -r.Tail - 1, r.Tail + 1, r.Tail + 2, r.Tail + size, mostTail + 1, math.MinInt, math.MaxInt} {
					got, e := ring.Drop(r, to)
					refused(t, "Drop", r, to, got, e, api.ErrArg)
				}
			}
		}
	}
}

func TestDropOfWhatIsNotSane(t *testing.T) {
	for _, r := range insane() {
		for _, to := range append(edges(), r.Head, r.Tail, 3, 4, 5) {
			got, e := ring.Drop(r, to)
			refused(t, "Drop", r, to, got, e, api.ErrArg)
		}
	}
}

func TestDropOfAllEdges(t *testing.T) {
	for _, r := range all() {
		for _, to := range edges() {
			if plainSane(r) && to >= r.Head && to <= r.Tail {
				drop(t, r, to)
				continue
			}
			got, e := ring.Drop(r, to)
			refused(t, "Drop", r, to, got, e, api.ErrArg)
		}
	}
}

// R3

func TestWhatIsHandedInIsAsItWas(t *testing.T) {
	for _, was := range append(insane(), ring.Ring{From: 2, Size: 4, Head: 3, Tail: 5}) {
		r := was
		for _, n := range []int{0, 1, 2, 3, 4, 5, 6, -1} {
			ring.Sane(r)
			ring.Used(r)
			ring.Free(r)
			ring.Sector(r, n)
			ring.Take(r, n)
			ring.Drop(r, n)
			ring.Spans(r, n, n)
			ring.Holds(r, n)
			if r != was {
				t.Fatalf("%v, that was %v", r, was)
			}
		}
	}
}

func TestNothingIsKept(t *testing.T) {
	r := ring.Ring{From: 2, Size: 4, Head: 3, Tail: 5}
	a := take(t, r, 2)
	b := take(t, r, 1)
	if a == b || take(t, r, 2) != a || drop(t, r, 4) == drop(t, a, 4) {
		t.Error("one ring changes another")
	}
	ring.Take(ring.Ring{Size: -1}, 1)
	ring.Drop(r, 99)
	if take(t, r, 1) != b || ring.Free(r) != 2 || ring.Free(a) != 0 {
		t.Error("one call changes another")
	}
}

// P5.4

// plainSpans are the lots of n places from at on, place by place.
func plainSpans(r ring.Ring, at, n int) [][2]int {
	var l [][2]int
	for p := at; p < at+n; p++ {
		sector := r.From + p%r.Size
		if last := len(l) - 1; last >= 0 && l[last][0]+l[last][1] == sector {
			l[last][1]++
		} else {
			l = append(l, [2]int{sector, 1})
		}
	}
	return l
}

func TestSpansOfSome(t *testing.T) {
	for _, x := range []struct {
		from, size, at, n int
		want              [][2]int
	}{
		{2, 4, 0, 0, nil},
		{2, 4, 6, 0, nil},
		{2, 4, 7, 0, nil},
		{2, 4, 0, 1, [][2]int{{2, 1}}},
		{2, 4, 3, 1, [][2]int{{5, 1}}},
		{2, 4, 4, 1, [][2]int{{2, 1}}},
		{2, 4, 5, 2, [][2]int{{3, 2}}},
		{2, 4, 6, 2, [][2]int{{4, 2}}},
		{2, 4, 6, 3, [][2]int{{4, 2}, {2, 1}}},
		{2, 4, 7, 2, [][2]int{{5, 1}, {2, 1}}},
		{2, 4, 0, 4, [][2]int{{2, 4}}},
		{2, 4, 4, 4, [][2]int{{2, 4}}},
		{2, 4, 5, 4, [][2]int{{3, 3}, {2, 1}}},
		{2, 4, 7, 4, [][2]int{{5, 1}, {2, 3}}},
		{2, 4, 0, 5, nil},
		{2, 4, 7, 5, nil},
		{2, 4, 0, -1, nil},
		{2, 4, 7, -1, nil},
		{2, 4, -1, 0, nil},
		{2, 4, -1, 2, nil},
		{2, 4, mostAt, 0, nil},
		{2, 4, mostAt, 1, [][2]int{{2, 1}}},
		{2, 4, mostAt, 4, [][2]int{{2, 4}}},
		{2, 4, mostAt, 5, nil},
		{2, 4, mostAt - 1, 4, [][2]int{{5, 1}, {2, 3}}},
		{2, 4, mostAt + 1, 0, nil},
		{2, 4, mostAt + 1, 1, nil},
		{2, 4, math.MaxInt, 1, nil},
		{2, 4, math.MinInt, 1, nil},
		{2, 4, 0, math.MaxInt, nil},
		{2, 4, 0, math.MinInt, nil},
		{7, 3, mostAt, 3, [][2]int{{9, 1}, {7, 2}}},
		{0, 1, 0, 1, [][2]int{{0, 1}}},
		{0, 1, 9, 1, [][2]int{{0, 1}}},
		{0, 1, 9, 0, nil},
		{0, 1, 9, 2, nil},
		{4096, 4096, 0, 4096, [][2]int{{4096, 4096}}},
		{4096, 4096, 1, 4096, [][2]int{{4097, 4095}, {4096, 1}}},
		{4096, 4096, 4095, 4096, [][2]int{{8191, 1}, {4096, 4095}}},
		{4096, 4096, 0, 4097, nil},
	} {
		for _, used := range []int{0, 1} { // a place need not count
			r := ring.Ring{From: x.from, Size: x.size, Head: 9, Tail: 9 + used}
			if got := ring.Spans(r, x.at, x.n); !slices.Equal(got, x.want) {
				t.Errorf("Spans(%v, %d, %d) = %v, want %v", r, x.at, x.n, got, x.want)
			}
		}
	}
}

func TestSpansPlaceByPlace(t *testing.T) {
	for size := 1; size < 14; size++ {
		for _, from := range []int{0, 1, 4096} {
			r := ring.Ring{From: from, Size: size, Head: 50, Tail: 50 + size/2}
			for _, first := range []int{0, mostTail - size, mostAt - 2*size} {
				for at := first; at < first+2*size+1; at++ {
					for n := -1; n < size+3; n++ {
						var want [][2]int
						if n <= size {
							want = plainSpans(r, at, n)
						}
						got := ring.Spans(r, at, n)
						if !slices.Equal(got, want) || len(got) > 2 {
							t.Fatalf("Spans(%v, %d, %d) = %v, want %v", r, at, n, got, want)
						}
					}
				}
			}
		}
	}
}

func TestSpansTellTheSectorsOfThePlaces(t *testing.T) {
	for _, r := range sane(t) {
		for _, at := range edges() {
			for _, n := range append(edges(), r.Size-1, r.Size, r.Size+1) {
				var want, got []int
				for _, lot := range ring.Spans(r, at, n) {
					if lot[1] < 1 || lot[1] > r.Size {
						t.Fatalf("Spans(%v, %d, %d) has a lot of %d", r, at, n, lot[1])
					}
					for i := range lot[1] {
						got = append(got, lot[0]+i)
					}
				}
				if at >= 0 && at <= mostAt && n <= r.Size {
					for i := range n {
						want = append(want, r.From+(at+i)%r.Size)
					}
				}
				if !slices.Equal(got, want) {
					t.Fatalf("Spans(%v, %d, %d) tells %d sectors, not the %d of its places", r, at, n, len(got), len(want))
				}
			}
		}
	}
}

func TestSpansOfWhatIsNotSane(t *testing.T) {
	for _, r := range insane() {
		for _, at := range append(edges(), 3, 4) {
			for _, n := range append(edges(), 3, 4) {
				if got := ring.Spans(r, at, n); len(got) != 0 {
					t.Errorf("Spans(%v, %d, %d) = %v", r, at, n, got)
				}
			}
		}
	}
}

func TestSpansAreNewMemory(t *testing.T) {
	r := ring.Ring{From: 2, Size: 4, Head: 6, Tail: 9}
	for _, x := range []struct{ at, n int }{{6, 1}, {6, 3}, {7, 4}, {4, 4}} {
		want := plainSpans(r, x.at, x.n)
		a, b := ring.Spans(r, x.at, x.n), ring.Spans(r, x.at, x.n)
		for i := range a {
			a[i] = [2]int{-7, -7}
		}
		for i := range a[:cap(a)] { // what is appended to one
			a[:cap(a)][i] = [2]int{-9, -9}
		}
		if !slices.Equal(b, want) || !slices.Equal(ring.Spans(r, x.at, x.n), want) {
			t.Errorf("Spans(%v, %d, %d) shares its memory with another", r, x.at, x.n)
		}
	}
}

// P5.5

func TestWhatIsTakenAndDroppedIsFreeAgain(t *testing.T) {
	for size := 1; size < 12; size++ {
		for n := range size + 1 {
			for _, head := range []int{0, 3, mostTail - 10*size} {
				r := ring.Ring{From: 2, Size: size, Head: head, Tail: head}
				for round := range 10 {
					r = take(t, r, n)
					if ring.Used(r) != n || ring.Free(r) != size-n {
						t.Fatalf("round %d: %v: Used %d, Free %d", round, r, ring.Used(r), ring.Free(r))
					}
					r = drop(t, r, r.Tail)
					if ring.Used(r) != 0 || ring.Free(r) != size {
						t.Fatalf("round %d: %v: Used %d, Free %d", round, r, ring.Used(r), ring.Free(r))
					}
				}
			}
		}
	}
}

func TestPlacesLessThanSizeApart(t *testing.T) {
	for _, size := range []int{1, 2, 3, 4, 7, 64, 100, 4096} {
		r := ring.Ring{From: 5, Size: size}
		for _, first := range []int{0, 1, size - 1, size, 5*size - 2, mostTail - 1, mostAt - 3*size} {
			last := map[int]int{} // the last place of each sector
			for at := max(first, 0); at < first+3*size; at++ {
				sector := ring.Sector(r, at)
				if sector < 5 || sector >= 5+size {
					t.Fatalf("Sector(%v, %d) = %d is beyond the ring", r, at, sector)
				}
				if before, ok := last[sector]; ok && at-before != size {
					t.Fatalf("of %v, %d and %d stand in %d", r, before, at, sector)
				}
				last[sector] = at
			}
			if len(last) != size {
				t.Fatalf("%v from %d on: %d sectors", r, first, len(last))
			}
		}
	}
}

// steps takes and drops as bytes tell, with the places that count in a list and their sectors in a row.
func steps(t *testing.T, script []byte) {
	if len(script) < 3 {
		return
	}
	from, size := int(script[0])*16, int(script[1])%40+1
	tail := int(script[2])
	if tail > 127 { // near the last place of all
		tail += mostTail - 300
	}
	r := ring.Ring{From: from, Size: size, Head: tail, Tail: tail}
	row := make([]int, size) // the place that each sector was taken for
	var counts []int
	for i := 3; i+1 < len(script); i += 2 {
		n := int(script[i+1])%(size+3) - 1
		if script[i]%2 == 0 {
			r, counts = stepTake(t, r, n, row, counts)
		} else {
			r, counts = stepDrop(t, r, n, counts)
		}
		if !ring.Sane(r) || ring.Used(r) != len(counts) || ring.Free(r) != size-len(counts) {
			t.Fatalf("%v: Used %d, Free %d, want %d, %d", r, ring.Used(r), ring.Free(r), len(counts), size-len(counts))
		}
		for p := r.Head - 2; p < r.Tail+2; p++ {
			if ring.Holds(r, p) != slices.Contains(counts, p) {
				t.Fatalf("Holds(%v, %d) = %v", r, p, ring.Holds(r, p))
			}
		}
		for _, p := range counts {
			if got := row[ring.Sector(r, p)-from]; got != p {
				t.Fatalf("%v: the sector of %d was taken for %d", r, p, got)
			}
		}
	}
}

// stepTake takes n, and lays each place in its sector.
func stepTake(t *testing.T, r ring.Ring, n int, row, counts []int) (ring.Ring, []int) {
	t.Helper()
	got, e := ring.Take(r, n)
	switch {
	case n < 0:
		refused(t, "Take", r, n, got, e, api.ErrArg)
		return r, counts
	case len(counts)+n > len(row), r.Tail+n > mostTail:
		refused(t, "Take", r, n, got, e, api.ErrFull)
		return r, counts
	case e != api.OK:
		t.Fatalf("Take(%v, %d) = %v, %v", r, n, got, e)
	}
	p := r.Tail
	for _, lot := range ring.Spans(r, r.Tail, n) {
		for i := range lot[1] {
			row[lot[0]+i-r.From] = p
			counts = append(counts, p)
			p++
		}
	}
	return got, counts
}

// stepDrop drops the first n.
func stepDrop(t *testing.T, r ring.Ring, n int, counts []int) (ring.Ring, []int) {
	t.Helper()
	got, e := ring.Drop(r, r.Head+n)
	if n < 0 || n > len(counts) {
		refused(t, "Drop", r, r.Head+n, got, e, api.ErrArg)
		return r, counts
	}
	if e != api.OK {
		t.Fatalf("Drop(%v, %d) = %v, %v", r, r.Head+n, got, e)
	}
	return got, counts[n:]
}

// script is bytes of any kind, that a seed tells.
func script(seed uint32, n int) []byte {
	b := make([]byte, n)
	for i := range b {
		seed = seed*1664525 + 1013904223
		b[i] = byte(seed >> 24)
	}
	return b
}

func TestStepsOfAnyKind(t *testing.T) {
	for seed := range uint32(400) {
		steps(t, script(seed, 400))
	}
}

// The example of the chapter.

func TestTheExample(t *testing.T) {
	r := ring.Ring{From: 2, Size: 4}
	if got := ring.Sector(r, 7); got != 5 {
		t.Error(got)
	}
	if got := ring.Spans(r, 6, 3); !slices.Equal(got, [][2]int{{4, 2}, {2, 1}}) {
		t.Error(got)
	}
}

// P1

func FuzzRing(f *testing.F) {
	for _, r := range append(insane(), ring.Ring{From: 2, Size: 4, Head: 3, Tail: 5}) {
		f.Add(r.From, r.Size, r.Head, r.Tail, 6, 3)
	}
	f.Fuzz(func(t *testing.T, from, size, head, tail, at, n int) {
		r := ring.Ring{From: from, Size: size, Head: head, Tail: tail}
		if got, want := ring.Sane(r), plainSane(r); got != want {
			t.Fatalf("Sane(%v) = %v", r, got)
		}
		taken, e := ring.Take(r, n)
		if ring.Sane(taken) != (e == api.OK) {
			t.Errorf("Take(%v, %d) = %v, %v", r, n, taken, e)
		}
		dropped, e := ring.Drop(r, at)
		if ring.Sane(dropped) != (e == api.OK) {
			t.Errorf("Drop(%v, %d) = %v, %v", r, at, dropped, e)
		}
		count := 0
		for _, lot := range ring.Spans(r, at, n) {
			if lot[1] < 1 || lot[1] > size {
				t.Fatalf("Spans(%v, %d, %d) has a lot of %d", r, at, n, lot[1])
			}
			for i := range lot[1] {
				if got := ring.Sector(r, at+count); got != lot[0]+i && at+count <= mostAt {
					t.Errorf("Spans(%v, %d, %d): the place %d stands in %d", r, at, n, at+count, got)
				}
				count++
			}
		}
		if count != 0 && count != n {
			t.Errorf("Spans(%v, %d, %d) tells %d", r, at, n, count)
		}
		if ring.Used(r)+ring.Free(r) != 0 && ring.Used(r)+ring.Free(r) != size {
			t.Errorf("%v: Used %d, Free %d", r, ring.Used(r), ring.Free(r))
		}
		if ring.Holds(r, at) && (at < head || at >= tail) {
			t.Errorf("Holds(%v, %d)", r, at)
		}
	})
}

func FuzzSteps(f *testing.F) {
	for seed := range uint32(20) {
		f.Add(script(seed+1000, 90))
	}
	f.Fuzz(steps)
}
