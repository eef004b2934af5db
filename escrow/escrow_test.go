package escrow_test

import (
	"fmt"
	"maps"
	"math"
	"math/big"
	"slices"
	"testing"

	"heronry/api"
	"heronry/escrow"
	"heronry/span"
	"heronry/tree"
)

const (
	least = math.MinInt
	most  = math.MaxInt
)

var (
	noCounters = []int{-1, -2, -64, 64, 65, least, least + 1, most, most - 1, 1 << 32}
	noTxs      = []int{-1, -2, -64, 64, 65, least, least + 1, most, most - 1, 1 << 32, 1<<32 + 1}
)

func counter(lo, hi, value int) escrow.Counter {
	return escrow.Counter{Lo: lo, Hi: hi, Value: value}
}

func pend(counter, tx, up, down int) escrow.Pend {
	return escrow.Pend{Counter: counter, Tx: tx, Up: up, Down: down}
}

// roomy is a list with room behind it.
func roomy[T any](l []T) []T {
	room := make([]T, len(l), len(l)+8)
	copy(room, l)
	return room
}

// table is counters and pends, with room behind them.
func table(c []escrow.Counter, p ...escrow.Pend) escrow.Table {
	return escrow.Table{C: roomy(c), P: roomy(p)}
}

// one is a table of one counter.
func one(c escrow.Counter, p ...escrow.Pend) escrow.Table {
	return table([]escrow.Counter{c}, p...)
}

// many are counters that are from -100 to 100, and 0.
func many(n int) []escrow.Counter { return slices.Repeat([]escrow.Counter{counter(-100, 100, 0)}, n) }

// some is a table that may be, with several pends of one counter and several of one transaction.
func some() escrow.Table {
	return table(
		[]escrow.Counter{counter(0, 10, 5), counter(-100, 100, 0), counter(least, most, 0), counter(7, 7, 7), counter(-50, 50, -20)},
		pend(0, 1, 2, -1),
		pend(0, 4, 0, -3),
		pend(0, 6, 3, 0),
		pend(1, 0, 40, -40),
		pend(1, 1, 1, 0),
		pend(2, 8, most-5, least+5),
		pend(4, 1, 5, -5),
		pend(4, 5, 0, -1),
	)
}

// full is a table with as much in it as there may be.
func full() escrow.Table {
	t := escrow.Table{C: many(64)}
	for n := range 64 * 64 {
		t.P = append(t.P, pend(n/64, n%64, 1, -1))
	}
	return t
}

// grown is a tree of Live ones, by their parents.
func grown(parents ...int) tree.Tree {
	x := tree.Tree{Clock: len(parents)}
	for id, parent := range parents {
		x.L = append(x.L, tree.Tx{Parent: parent, State: tree.Live, Began: id + 1})
	}
	return x
}

// row is as many top ones.
func row(n int) tree.Tree { return grown(slices.Repeat([]int{-1}, n)...) }

// family is a tree of three top ones, which are 0, 6 and 8: 1 and 4 are in 0, 2 and 3 in 1, 5 is in 4, 7 is in 6.
func family() tree.Tree { return grown(-1, 0, 1, 1, 0, 4, -1, 6, -1) }

// ended is a tree one of which is not Live any more.
func ended(x tree.Tree, id, state int) tree.Tree {
	x.L = slices.Clone(x.L)
	x.Clock++
	x.L[id].State, x.L[id].Ended = state, x.Clock
	return x
}

func copied(t escrow.Table) escrow.Table {
	return escrow.Table{C: slices.Clone(t.C), P: slices.Clone(t.P)}
}

func same(a, b escrow.Table) bool { return slices.Equal(a.C, b.C) && slices.Equal(a.P, b.P) }

// nothing: is that the zero table?
func nothing(t escrow.Table) bool { return t.C == nil && t.P == nil }

// exact is a number that may be as great as it likes.
func exact(n int) *big.Int { return big.NewInt(int64(n)) }

// lot is how much is up and how much is down, all together.
type lot struct{ up, down *big.Int }

// lotOf is that of the pends of a counter, and of one amount more.
func lotOf(t escrow.Table, counter, more int) lot {
	all := []int{more}
	for _, p := range t.P {
		if p.Counter == counter {
			all = append(all, p.Up, p.Down)
		}
	}
	l := lot{exact(0), exact(0)}
	for _, n := range all {
		if n > 0 {
			l.up.Add(l.up, exact(n))
		} else {
			l.down.Add(l.down, exact(n))
		}
	}
	return l
}

// ends are how far a counter may go down and up, with one amount more.
func ends(t escrow.Table, counter, more int) (*big.Int, *big.Int) {
	l, v := lotOf(t, counter, more), exact(t.C[counter].Value)
	return l.down.Add(l.down, v), l.up.Add(l.up, v)
}

// plainFits: may a counter be with one amount more?
func plainFits(t escrow.Table, counter, more int) bool {
	c, l := t.C[counter], lotOf(t, counter, more)
	lo, hi := ends(t, counter, more)
	return l.up.IsInt64() && l.down.IsInt64() && lo.Cmp(exact(c.Lo)) >= 0 && hi.Cmp(exact(c.Hi)) <= 0
}

// plainSane tells each pend by one number, which must rise.
func plainSane(t escrow.Table) bool {
	last := -1
	for _, p := range t.P {
		switch {
		case p.Counter < 0, p.Counter >= len(t.C), p.Tx < 0, p.Tx > 63:
			return false
		case p.Up < 0, p.Down > 0, p.Up == 0 && p.Down == 0:
			return false
		case p.Counter*64+p.Tx <= last:
			return false
		}
		last = p.Counter*64 + p.Tx
	}
	if len(t.C) > 64 {
		return false
	}
	for counter := range t.C {
		if !plainFits(t, counter, 0) {
			return false
		}
	}
	return true
}

// A key tells of which counter and whose a pend is, a what how much is up and down.
type (
	key  struct{ counter, tx int }
	what struct{ up, down int }
)

// plus is one with more up, or down.
func (w what) plus(n int) what {
	if n > 0 {
		return what{w.up + n, w.down}
	}
	return what{w.up, w.down + n}
}

// spread are pends as a map; their order is lost.
func spread(t escrow.Table) map[key]what {
	m := map[key]what{}
	for _, p := range t.P {
		m[key{p.Counter, p.Tx}] = what{p.Up, p.Down}
	}
	return m
}

// gathered are counters and a map as a table, in order. Where nothing is up nor down there is no pend.
func gathered(c []escrow.Counter, m map[key]what) escrow.Table {
	byCounter := map[int][]int{}
	for k, w := range m {
		if w != (what{}) {
			byCounter[k.counter] = append(byCounter[k.counter], k.tx)
		}
	}
	t := escrow.Table{C: slices.Clone(c)}
	for _, counter := range slices.Sorted(maps.Keys(byCounter)) {
		for _, tx := range slices.Sorted(slices.Values(byCounter[counter])) {
			w := m[key{counter, tx}]
			t.P = append(t.P, pend(counter, tx, w.up, w.down))
		}
	}
	return t
}

// stands is what one stands in. Parents may go round: there are no more than there are transactions.
func stands(x tree.Tree, id int) map[int]bool {
	in := map[int]bool{}
	for range x.L {
		if id < 0 || id >= len(x.L) {
			break
		}
		in[id] = true
		id = x.L[id].Parent
	}
	return in
}

func plainAsked(t escrow.Table, x tree.Tree, tx, counter int) api.Errno {
	switch {
	case !plainSane(t), counter < 0, counter >= len(t.C), tx < 0, tx >= len(x.L), tx > 63:
		return api.ErrName
	case x.L[tx].State != tree.Live:
		return api.ErrState
	}
	return api.OK
}

func plainAdd(t escrow.Table, x tree.Tree, tx, counter, by int) (escrow.Table, api.Errno) {
	if e := plainAsked(t, x, tx, counter); e != api.OK {
		return escrow.Table{}, e
	}
	if !plainFits(t, counter, by) {
		return escrow.Table{}, api.ErrBounds
	}
	m := spread(t)
	m[key{counter, tx}] = m[key{counter, tx}].plus(by)
	return gathered(t.C, m), api.OK
}

func plainSee(t escrow.Table, x tree.Tree, tx, counter int) (int, api.Errno) {
	if e := plainAsked(t, x, tx, counter); e != api.OK {
		return 0, e
	}
	in := stands(x, tx)
	for k := range spread(t) {
		if k.counter == counter && !in[k.tx] {
			return 0, api.ErrWait
		}
	}
	l := lotOf(t, counter, 0)
	value := exact(t.C[counter].Value)
	value.Add(value, l.up).Add(value, l.down)
	return int(value.Int64()), api.OK
}

func plainPass(t escrow.Table, tx, parent int) escrow.Table {
	m, c := plainFreed(t, tx), slices.Clone(t.C)
	for k, w := range spread(t) {
		switch {
		case k.tx != tx:
		case parent < 0:
			c[k.counter].Value += w.up + w.down
		default:
			to := key{k.counter, parent}
			m[to] = m[to].plus(w.up).plus(w.down)
		}
	}
	return gathered(c, m)
}

func plainFreed(t escrow.Table, l ...int) map[key]what {
	m := spread(t)
	maps.DeleteFunc(m, func(k key, _ what) bool { return slices.Contains(l, k.tx) })
	return m
}

func plainReach(t escrow.Table, counter int) span.Span {
	if counter < 0 || counter >= len(t.C) {
		return span.Span{}
	}
	lo, hi := ends(t, counter, 0)
	return span.Span{Lo: int(lo.Int64()), Hi: int(hi.Int64())}
}

func plainOf(t escrow.Table, tx int) []escrow.Pend {
	var l []escrow.Pend
	for _, p := range t.P {
		if p.Tx == tx {
			l = append(l, p)
		}
	}
	return l
}

// stays lets what was handed in be held against what it was: the lists, what stands in the room behind them, and the tree.
func stays(t *testing.T, call string, l escrow.Table, x tree.Tree) func() {
	room := escrow.Table{C: l.C[:cap(l.C)], P: l.P[:cap(l.P)]}
	was, before := copied(room), slices.Clone(x.L)
	return func() {
		t.Helper()
		if !same(room, was) || !slices.Equal(x.L, before) {
			t.Fatalf("%s of %v and %v left %v and %v behind", call, was, before, room, x.L)
		}
	}
}

// adds holds Add against the plain one.
func adds(t *testing.T, l escrow.Table, x tree.Tree, tx, counter, by int) (escrow.Table, api.Errno) {
	t.Helper()
	stay := stays(t, "Add", l, x)
	got, e := escrow.Add(l, x, tx, counter, by)
	stay()
	if want, wantErr := plainAdd(l, x, tx, counter, by); !same(got, want) || e != wantErr {
		t.Fatalf("Add(%v, %v, %d, %d, %d) = %v, %v, want %v, %v", l, x, tx, counter, by, got, e, want, wantErr)
	}
	if e != api.OK && !nothing(got) {
		t.Fatalf("Add(%v, %v, %d, %d, %d): %v beside %v", l, x, tx, counter, by, got, e)
	}
	return got, e
}

func sees(t *testing.T, l escrow.Table, x tree.Tree, tx, counter int) (int, api.Errno) {
	t.Helper()
	stay := stays(t, "See", l, x)
	got, e := escrow.See(l, x, tx, counter)
	stay()
	if want, wantErr := plainSee(l, x, tx, counter); got != want || e != wantErr {
		t.Fatalf("See(%v, %v, %d, %d) = %d, %v, want %d, %v", l, x, tx, counter, got, e, want, wantErr)
	}
	return got, e
}

// passes holds Pass against the plain one, where the table is Sane.
func passes(t *testing.T, l escrow.Table, tx, parent int) escrow.Table {
	t.Helper()
	stay := stays(t, "Pass", l, tree.Tree{})
	got := escrow.Pass(l, tx, parent)
	stay()
	if plainSane(l) && !same(got, plainPass(l, tx, parent)) {
		t.Fatalf("Pass(%v, %d, %d) = %v, want %v", l, tx, parent, got, plainPass(l, tx, parent))
	}
	return got
}

func frees(t *testing.T, l escrow.Table, ids ...int) escrow.Table {
	t.Helper()
	stay, were := stays(t, "Free", l, tree.Tree{}), slices.Clone(ids)
	got := escrow.Free(l, ids)
	stay()
	if want := gathered(l.C, plainFreed(l, ids...)); plainSane(l) && !same(got, want) {
		t.Fatalf("Free(%v, %v) = %v, want %v", l, ids, got, want)
	}
	if !slices.Equal(ids, were) {
		t.Fatalf("Free(%v, %v) left %v behind", l, were, ids)
	}
	return got
}

func reaches(t *testing.T, l escrow.Table, counter int) span.Span {
	t.Helper()
	stay := stays(t, "Reach", l, tree.Tree{})
	got := escrow.Reach(l, counter)
	stay()
	if plainSane(l) && got != plainReach(l, counter) {
		t.Fatalf("Reach(%v, %d) = %v, want %v", l, counter, got, plainReach(l, counter))
	}
	return got
}

func ofs(t *testing.T, l escrow.Table, tx int) []escrow.Pend {
	t.Helper()
	stay := stays(t, "Of", l, tree.Tree{})
	got := escrow.Of(l, tx)
	stay()
	if want := plainOf(l, tx); plainSane(l) && !slices.Equal(got, want) {
		t.Fatalf("Of(%v, %d) = %v, want %v", l, tx, got, want)
	}
	return got
}

// sane holds Sane against what is known, and the plain one too.
func sane(t *testing.T, l escrow.Table, want bool) {
	t.Helper()
	stay := stays(t, "Sane", l, tree.Tree{})
	if got := escrow.Sane(l); got != want {
		t.Errorf("Sane(%v) = %v, want %v", l, got, want)
	}
	stay()
	if got := plainSane(l); got != want {
		t.Errorf("the plain Sane(%v) = %v, want %v", l, got, want)
	}
}

// around are numbers of a table or a tree, and some that are none.
func around(of []int) []int {
	l := append([]int{-1, 0, 63, 64, least, most}, of...)
	slices.Sort(l)
	return slices.Compact(l)
}

// edges are amounts of a counter that just fit, and one more, and some others.
func edges(t escrow.Table, counter int) []int {
	l := []int{0, 1, -1, 3, least, most}
	if counter < 0 || counter >= len(t.C) {
		return l
	}
	lo, hi := ends(t, counter, 0)
	both := lotOf(t, counter, 0)
	for _, end := range []*big.Int{
		lo.Sub(exact(t.C[counter].Lo), lo), hi.Sub(exact(t.C[counter].Hi), hi),
		new(big.Int).Sub(exact(least), both.down), new(big.Int).Sub(exact(most), both.up),
	} {
		for by := -1; by <= 1; by++ {
			if n := new(big.Int).Add(end, exact(by)); n.IsInt64() {
				l = append(l, int(n.Int64()))
			}
		}
	}
	return l
}

// all lets each call be held against the plain one, at what the table and the tree have and at what they don't.
func all(t *testing.T, l escrow.Table, x tree.Tree) {
	t.Helper()
	sane(t, l, plainSane(l))
	var ids, counters []int
	for _, p := range l.P {
		ids, counters = append(ids, p.Tx), append(counters, p.Counter)
	}
	for id := range x.L {
		ids = append(ids, id)
	}
	for counter := range l.C {
		counters = append(counters, counter, counter+1)
	}
	ids, counters = around(ids), around(counters)
	for _, counter := range counters {
		reaches(t, l, counter)
		amounts := edges(l, counter)
		for i, tx := range ids {
			sees(t, l, x, tx, counter)
			for j := range min(len(amounts), 4) {
				adds(t, l, x, tx, counter, amounts[(i*4+j)%len(amounts)])
			}
		}
	}
	for i, tx := range ids {
		for _, parent := range ids {
			passes(t, l, tx, parent)
		}
		ofs(t, l, tx)
		frees(t, l, tx)
		frees(t, l, ids[i:]...)
	}
	frees(t, l)
}

// P13.1

func TestSaneOfNone(t *testing.T) {
	sane(t, escrow.Table{}, true)
	sane(t, escrow.Table{C: []escrow.Counter{}, P: []escrow.Pend{}}, true)
	sane(t, escrow.Table{P: []escrow.Pend{pend(0, 0, 1, 0)}}, false)
}

func TestSaneOfSome(t *testing.T) {
	sane(t, some(), true)
	sane(t, one(counter(0, 10, 5)), true)
	sane(t, one(counter(0, 10, 5), pend(0, 0, 1, 0)), true)
	sane(t, table(many(2), pend(0, 0, 1, 0), pend(0, 1, 0, -1), pend(1, 0, 3, -4)), true)
}

func TestSaneOfManyCounters(t *testing.T) {
	for n, want := range map[int]bool{1: true, 2: true, 63: true, 64: true, 65: false, 66: false, 128: false, 1000: false} {
		sane(t, table(many(n)), want)
		sane(t, table(many(n), pend(0, 3, 1, 0)), want)
		sane(t, table(many(n), pend(n-1, 3, 1, 0)), want)
	}
}

func TestSaneOfAll(t *testing.T) {
	sane(t, full(), true)
	for _, at := range []int{0, 1, 63, 64, 2047, 2048, 4094, 4095} {
		is := full().P[at]
		for _, p := range []escrow.Pend{
			pend(-1, is.Tx, 1, 0), pend(64, is.Tx, 1, 0), pend(is.Counter, -1, 1, 0), pend(is.Counter, 64, 1, 0),
			pend(is.Counter, is.Tx, 0, 0), pend(is.Counter, is.Tx, -1, 0), pend(is.Counter, is.Tx, 0, 1),
			pend(is.Counter, is.Tx, 38, 0), pend(is.Counter, is.Tx, 0, -38),
		} {
			l := full()
			l.P[at] = p
			sane(t, l, false)
		}
		l := full()
		l.P = slices.Insert(l.P, at, l.P[at])
		sane(t, l, false)
		l = full()
		l.P[at].Up, l.P[at].Down = 37, -37 // 100 of 64 transactions
		sane(t, l, true)
	}
}

func TestSaneOfEachCounter(t *testing.T) {
	for _, n := range []int{0, 1, 2, 63, 64} {
		for _, c := range append([]int{0, 1, n - 1, n, n + 1, 62, 63}, noCounters...) {
			want := c >= 0 && c < n
			sane(t, table(many(n), pend(c, 5, 1, -1)), want)
			sane(t, table(many(n), pend(c, 5, 1, -1), pend(c, 6, 1, -1)), want)
		}
	}
	for c, want := range map[int]bool{least: false, -1: false, 0: true, 9: true, 10: false, 11: false, 20: false} {
		sane(t, table(many(64), pend(c, 5, 1, 0), pend(10, 5, 1, 0), pend(20, 5, 1, 0)), want)
	}
	for c, want := range map[int]bool{-1: false, 0: false, 10: false, 11: true, 19: true, 20: false, 21: false, 64: false} {
		sane(t, table(many(64), pend(10, 5, 1, 0), pend(c, 5, 1, 0), pend(20, 5, 1, 0)), want)
	}
	for c, want := range map[int]bool{most: false, 64: false, 63: true, 21: true, 20: false, 19: false, 10: false} {
		sane(t, table(many(64), pend(10, 5, 1, 0), pend(20, 5, 1, 0), pend(c, 5, 1, 0)), want)
	}
}

func TestSaneOfEachTx(t *testing.T) {
	for _, tx := range append([]int{0, 1, 5, 62, 63}, noTxs...) {
		want := tx >= 0 && tx <= 63
		sane(t, table(many(1), pend(0, tx, 1, -1)), want)
		sane(t, table(many(2), pend(0, tx, 1, 0), pend(1, 0, 1, 0)), want)
		sane(t, table(many(2), pend(0, 63, 1, 0), pend(1, tx, 1, 0)), want)
		sane(t, table(many(3), pend(0, 63, 1, 0), pend(1, tx, 1, 0), pend(2, 0, 1, 0)), want)
	}
	for tx, want := range map[int]bool{-1: false, 10: false, 11: true, 19: true, 20: false, 64: false} {
		sane(t, table(many(1), pend(0, 10, 1, 0), pend(0, tx, 1, 0), pend(0, 20, 1, 0)), want)
	}
}

func TestSaneOfEachUpAndDown(t *testing.T) {
	wide := []escrow.Counter{counter(least, most, 0), counter(least, most, 0)}
	for _, up := range []int{least, least + 1, -2, -1, 0, 1, 2, most - 1, most} {
		for _, down := range []int{least, least + 1, -2, -1, 0, 1, 2, most - 1, most} {
			want := up >= 0 && down <= 0 && (up > 0 || down < 0)
			sane(t, table(wide, pend(0, 5, up, down)), want)
			sane(t, table(wide, pend(0, 5, 1, -1), pend(1, 5, up, down)), want)
			sane(t, table(wide, pend(0, 5, up, down), pend(1, 5, 1, -1)), want)
		}
	}
}

func TestSaneOfEachOrder(t *testing.T) {
	for counters := range 9 {
		for txs := range 9 {
			a, b := pend(counters/3, txs/3, 1, 0), pend(counters%3, txs%3, 2, -1)
			want := a.Counter < b.Counter || a.Counter == b.Counter && a.Tx < b.Tx
			sane(t, table(many(5), a, b), want)
			a.Counter, b.Counter = a.Counter+1, b.Counter+1
			ahead, behind := pend(0, 9, 1, 0), pend(4, 0, 1, 0)
			sane(t, table(many(5), ahead, a, b), want)
			sane(t, table(many(5), a, b, behind), want)
			sane(t, table(many(5), ahead, a, b, behind), want)
		}
	}
}

func TestSaneOfTwoThatChangedPlaces(t *testing.T) {
	for at := range len(some().P) - 1 {
		l := some()
		l.P[at], l.P[at+1] = l.P[at+1], l.P[at]
		sane(t, l, false)
		l.P[at+1] = l.P[at]
		sane(t, l, false)
	}
}

// What just fits, and one more at each end.
func TestSaneAtTheBounds(t *testing.T) {
	for _, c := range []struct {
		c    escrow.Counter
		p    []escrow.Pend
		want bool
	}{
		{counter(0, 10, 0), nil, true},
		{counter(0, 10, 10), nil, true},
		{counter(0, 10, -1), nil, false},
		{counter(0, 10, 11), nil, false},
		{counter(5, 5, 5), nil, true},
		{counter(5, 5, 4), nil, false},
		{counter(5, 5, 6), nil, false},
		{counter(0, 10, 5), []escrow.Pend{pend(0, 1, 5, 0)}, true},
		{counter(0, 10, 5), []escrow.Pend{pend(0, 1, 6, 0)}, false},
		{counter(0, 10, 5), []escrow.Pend{pend(0, 1, 0, -5)}, true},
		{counter(0, 10, 5), []escrow.Pend{pend(0, 1, 0, -6)}, false},
		{counter(0, 10, 5), []escrow.Pend{pend(0, 1, 5, -5)}, true},
		{counter(0, 10, 5), []escrow.Pend{pend(0, 1, 6, -6)}, false},
		{counter(0, 10, 5), []escrow.Pend{pend(0, 1, 6, -1)}, false}, // both together would leave 10
		{counter(0, 10, 5), []escrow.Pend{pend(0, 1, 1, -6)}, false},
		{counter(0, 10, 5), []escrow.Pend{pend(0, 1, 2, -3), pend(0, 2, 3, -2)}, true},
		{counter(0, 10, 5), []escrow.Pend{pend(0, 1, 2, -3), pend(0, 2, 4, -2)}, false},
		{counter(0, 10, 5), []escrow.Pend{pend(0, 1, 2, -3), pend(0, 2, 3, -3)}, false},
		{counter(0, 10, 5), []escrow.Pend{pend(0, 1, 2, -3), pend(0, 2, 4, -3)}, false},
		{counter(0, 10, 5), []escrow.Pend{pend(0, 1, 2, 0), pend(0, 7, 0, -5), pend(0, 9, 3, 0)}, true},
		{counter(0, 10, 5), []escrow.Pend{pend(0, 1, 2, 0), pend(0, 7, 0, -5), pend(0, 9, 4, 0)}, false},
		{counter(0, 10, 5), []escrow.Pend{pend(0, 1, 2, 0), pend(0, 7, 0, -6), pend(0, 9, 3, 0)}, false},
		{counter(-10, -4, -7), []escrow.Pend{pend(0, 1, 3, -3)}, true},
		{counter(-10, -4, -7), []escrow.Pend{pend(0, 1, 4, -3)}, false},
		{counter(-10, -4, -7), []escrow.Pend{pend(0, 1, 3, -4)}, false},
		{counter(0, 10, -1), []escrow.Pend{pend(0, 1, 1, 0)}, false}, // it may not count
		{counter(0, 10, 11), []escrow.Pend{pend(0, 1, 0, -1)}, false},
	} {
		sane(t, one(c.c, c.p...), c.want)
		for at := range 3 { // other counters' pends don't count
			l := table(many(3))
			l.C[at] = c.c
			for other := range 3 {
				if other != at {
					l.P = append(l.P, pend(other, 1, 100, -100))
					continue
				}
				for _, p := range c.p {
					p.Counter = at
					l.P = append(l.P, p)
				}
			}
			sane(t, l, c.want)
		}
	}
}

func TestSaneOfTheLeastAndTheGreatest(t *testing.T) {
	for _, c := range []struct {
		c        escrow.Counter
		up, down int
		want     bool
	}{
		{counter(least, most, least), 0, 0, true},
		{counter(least, most, most), 0, 0, true},
		{counter(least, most, least), most, 0, true},
		{counter(least, most, least), 0, -1, false},
		{counter(least, most, most), 0, least, true},
		{counter(least, most, most), 1, 0, false},
		{counter(least, most, 0), most, least, true},
		{counter(least, most, 1), most, least, false},
		{counter(least, most, -1), most, least, false},
		{counter(least, most, 1), most - 1, least, true},
		{counter(least, most, -1), most, least + 1, true},
		{counter(least, most, -1), most, 0, true},
		{counter(least, least, least), 0, 0, true},
		{counter(least, least, least), 1, 0, false},
		{counter(least, least, least), 0, -1, false},
		{counter(least, least, most), 0, 0, false},
		{counter(most, most, most), 0, 0, true},
		{counter(most, most, most), 0, -1, false},
		{counter(most, most, most), 1, 0, false},
		{counter(most, most, least), 0, 0, false},
		{counter(least, most-1, most), 0, 0, false},
		{counter(least+1, most, least), 0, 0, false},
		{counter(least+1, most, 0), most, least, false},
		{counter(least, most-1, 0), most, least, false},
		{counter(least+1, most-1, 0), most - 1, least + 1, true},
	} {
		l := one(c.c)
		if c.up != 0 || c.down != 0 {
			l = one(c.c, pend(0, 5, c.up, c.down))
		}
		sane(t, l, c.want)
	}
}

// The bounds would hold them, but together they are no int.
func TestSaneOfSumsThatAreNoInt(t *testing.T) {
	for _, c := range []struct {
		value int
		p     []escrow.Pend
		want  bool
	}{
		{-1, []escrow.Pend{pend(0, 1, most, 0)}, true},
		{-1, []escrow.Pend{pend(0, 1, most-1, 0), pend(0, 2, 1, 0)}, true},
		{-1, []escrow.Pend{pend(0, 1, most, 0), pend(0, 2, 1, 0)}, false},
		{-2, []escrow.Pend{pend(0, 1, most, 0), pend(0, 2, 1, 0)}, false},
		{least, []escrow.Pend{pend(0, 1, most, 0), pend(0, 2, 1, 0)}, false},
		{least, []escrow.Pend{pend(0, 1, most, 0), pend(0, 2, most, 0)}, false},
		{least, []escrow.Pend{pend(0, 1, most, 0), pend(0, 2, most, 0), pend(0, 3, 1, 0)}, false},
		{least, []escrow.Pend{pend(0, 1, most-2, 0), pend(0, 2, 1, 0), pend(0, 3, 1, 0)}, true},
		{1, []escrow.Pend{pend(0, 1, 0, least)}, true},
		{1, []escrow.Pend{pend(0, 1, 0, least+1), pend(0, 2, 0, -1)}, true},
		{1, []escrow.Pend{pend(0, 1, 0, least), pend(0, 2, 0, -1)}, false},
		{2, []escrow.Pend{pend(0, 1, 0, least), pend(0, 2, 0, -1)}, false},
		{most, []escrow.Pend{pend(0, 1, 0, least), pend(0, 2, 0, -1)}, false},
		{most, []escrow.Pend{pend(0, 1, 0, least+1), pend(0, 2, 0, least+1)}, false},
		{most, []escrow.Pend{pend(0, 1, 0, least+2), pend(0, 2, 0, -1), pend(0, 3, 0, -1)}, true},
		{0, []escrow.Pend{pend(0, 1, most, least)}, true},
		{0, []escrow.Pend{pend(0, 1, most, 0), pend(0, 2, 0, least)}, true},
		{0, []escrow.Pend{pend(0, 1, most-1, least+1), pend(0, 2, 1, -1)}, true},
	} {
		sane(t, one(counter(least, most, c.value), c.p...), c.want)
	}
}

func TestSaneOfBoundsThatHoldNothing(t *testing.T) {
	for _, c := range []escrow.Counter{
		counter(1, 0, 0), counter(1, 0, 1), counter(6, 4, 5), counter(10, 0, 5), counter(10, 0, 0), counter(10, 0, 10),
		counter(most, least, 0), counter(most, least, most), counter(most, least, least),
		counter(most, most-1, most), counter(least+1, least, least),
	} {
		sane(t, one(c), false)
		for _, p := range []escrow.Pend{pend(0, 1, 1, 0), pend(0, 1, 0, -1), pend(0, 1, 5, -5)} {
			sane(t, one(c, p), false)
		}
		for at := range 3 { // one among others
			l := table(many(3))
			l.C[at] = c
			sane(t, l, false)
		}
	}
	l := table(many(64))
	l.C[63] = counter(1, 0, 0)
	sane(t, l, false)
}

func TestSaneOfEachSmallCounter(t *testing.T) {
	may := 0
	for n := range 5 * 5 * 5 {
		c := counter(n%5-2, n/5%5-2, n/25-2)
		for m := range 3 * 3 * 3 * 3 {
			l := one(c)
			if up, down := m%3, -(m / 3 % 3); up != 0 || down != 0 {
				l.P = append(l.P, pend(0, 3, up, down))
			}
			if up, down := m/9%3, -(m / 27); up != 0 || down != 0 {
				l.P = append(l.P, pend(0, 7, up, down))
			}
			sane(t, l, plainSane(l))
			if escrow.Sane(l) {
				may++
			}
		}
	}
	if may < 100 {
		t.Errorf("only %d may be", may)
	}
}

// P13.2

// added is what Add makes where it is known.
func added(t *testing.T, l escrow.Table, x tree.Tree, tx, counter, by int, want ...escrow.Pend) escrow.Table {
	t.Helper()
	got, e := adds(t, l, x, tx, counter, by)
	if e != api.OK || !slices.Equal(got.P, want) || !slices.Equal(got.C, l.C) {
		t.Errorf("Add(%v, .., %d, %d, %d) = %v, %v, want %v", l, tx, counter, by, got, e, want)
	}
	return got
}

// refused holds an error of Add against what is known; the table beside it is the zero one.
func refused(t *testing.T, l escrow.Table, x tree.Tree, tx, counter, by int, want api.Errno) {
	t.Helper()
	got, e := adds(t, l, x, tx, counter, by)
	if e != want || !nothing(got) {
		t.Errorf("Add(%v, .., %d, %d, %d) = %v, %v, want %v", l, tx, counter, by, got, e, want)
	}
}

// strange are tables that are not Sane.
func strange() []escrow.Table {
	bad := []escrow.Table{
		table(many(65)),
		table(many(300), pend(3, 3, 3, 0)),
		table(nil, pend(0, 0, 1, 0)),
		table(many(3), pend(-1, 0, 1, 0)),
		table(many(3), pend(3, 0, 1, 0)),
		table(many(3), pend(0, -1, 1, 0)),
		table(many(3), pend(0, 64, 1, 0)),
		table(many(3), pend(0, 0, 0, 0)),
		table(many(3), pend(0, 0, -1, 0)),
		table(many(3), pend(0, 0, 0, 1)),
		table(many(3), pend(0, 0, 1, 0), pend(0, 0, 1, 0)),
		table(many(3), pend(0, 1, 1, 0), pend(0, 0, 1, 0)),
		table(many(3), pend(1, 0, 1, 0), pend(0, 1, 1, 0)),
		table(many(3), pend(2, 0, 1, 0), pend(1, 1, 0, -1), pend(0, 2, 3, -1), pend(2, 2, 1, 0), pend(0, 0, 1, -1)),
		table(many(3), pend(0, 1, 101, 0)),
		table(many(3), pend(2, 1, 60, 0), pend(2, 2, 41, 0)),
		one(counter(0, 10, 11)),
		one(counter(10, 0, 5)),
		one(counter(least, most, -1), pend(0, 1, most, 0), pend(0, 2, 1, 0)),
		one(counter(least, most, 1), pend(0, 1, 0, least), pend(0, 2, 0, -1)),
		one(counter(least, most, most), pend(0, 1, most, least), pend(0, 2, most, least), pend(0, 3, most, least)),
		table(many(3), pend(least, most, least, most), pend(most, least, most, least)),
		table(many(3), pend(0, 0, 1, 0), pend(most, most, most, most), pend(least, least, least, least), pend(0, 0, 1, 0)),
	}
	for _, c := range []escrow.Counter{counter(most, least, least), counter(0, 0, 1)} {
		l := some()
		l.C[2] = c
		bad = append(bad, l)
	}
	return bad
}

func TestAddOfATableThatIsNotSane(t *testing.T) {
	for _, l := range strange() {
		sane(t, l, false)
		for c := range 4 {
			refused(t, l, family(), 8, c, 1, api.ErrName)
			refused(t, l, family(), 8, c, 0, api.ErrName)
			refused(t, l, family(), 0, c, -1, api.ErrName)
		}
	}
}

func TestAddOfCountersThatAreNone(t *testing.T) {
	for _, n := range []int{0, 1, 2, 63, 64} {
		for _, c := range append([]int{n, n + 1}, noCounters...) {
			refused(t, table(many(n)), family(), 8, c, 1, api.ErrName)
			refused(t, table(many(n)), family(), 8, c, 0, api.ErrName)
		}
	}
	for _, c := range append([]int{5, 6}, noCounters...) {
		refused(t, some(), family(), 8, c, 1, api.ErrName)
		refused(t, some(), family(), 8, c, 0, api.ErrName)
	}
}

func TestAddOfTransactionsThatAreNone(t *testing.T) {
	for _, tx := range append([]int{9, 10, 63}, noTxs...) {
		refused(t, one(counter(0, 10, 5)), family(), tx, 0, 1, api.ErrName)
		refused(t, some(), family(), tx, 0, -1, api.ErrName)
		refused(t, some(), family(), tx, 0, 0, api.ErrName)
		refused(t, some(), tree.Tree{}, tx, 0, 0, api.ErrName)
	}
	refused(t, some(), tree.Tree{}, 0, 0, 0, api.ErrName)
}

func TestAddOfTheGreatestIDs(t *testing.T) {
	for _, n := range []int{63, 64, 65, 66, 200} {
		for _, tx := range []int{62, 63, 64, 65, 66, 199, 200} {
			l := one(counter(0, 10, 5), pend(0, 0, 1, 0))
			if tx < n && tx <= 63 {
				added(t, l, row(n), tx, 0, 1, pend(0, 0, 1, 0), pend(0, tx, 1, 0))
				continue
			}
			refused(t, l, row(n), tx, 0, 1, api.ErrName)
			refused(t, l, row(n), tx, 0, 0, api.ErrName)
		}
	}
}

func TestAddOfEachState(t *testing.T) {
	for _, state := range []int{0, tree.Done, tree.Undone, 4, -1, least, most} {
		x := ended(family(), 4, state)
		for _, by := range []int{0, 1, -1, most, least} {
			refused(t, one(counter(0, 10, 5)), x, 4, 0, by, api.ErrState)
			refused(t, some(), x, 4, 0, by, api.ErrState) // it has some of it
		}
		added(t, one(counter(0, 10, 5)), x, 5, 0, 3, pend(0, 5, 3, 0)) // it is Live, whatever it stands in
	}
	added(t, one(counter(0, 10, 5)), family(), 4, 0, 3, pend(0, 4, 3, 0))
}

// Each of what is wrong by itself, and all of them together: what comes first is told.
func TestWhichErrorComesFirst(t *testing.T) {
	for wrong := range 1 << 5 {
		is := func(bit int) bool { return wrong>>bit&1 == 1 }
		l, x, tx, c, by := some(), family(), 6, 0, 0
		want := api.OK
		if is(4) {
			by, want = 1, api.ErrBounds // all its Ups are 5 from 5 on, to 10
		}
		if is(3) {
			x, want = ended(x, 6, tree.Done), api.ErrState
		}
		if is(2) {
			tx, want = 9, api.ErrName
		}
		if is(1) {
			c, want = 5, api.ErrName
		}
		if is(0) {
			l.P[0].Tx, want = 63, api.ErrName
		}
		got, e := adds(t, l, x, tx, c, by)
		if e != want || (e != api.OK) != nothing(got) {
			t.Errorf("%05b: %v, %v, want %v", wrong, got, e, want)
		}
		if want == api.ErrBounds || want == api.OK {
			want = api.ErrWait // others have some of it
		}
		if v, e := sees(t, l, x, tx, c); e != want || v != 0 {
			t.Errorf("%05b: See: %v, %v, want %v", wrong, v, e, want)
		}
	}
	for _, tx := range []int{64, 65} { // IDs, but too great, and not Live
		x := ended(row(70), tx, tree.Undone)
		refused(t, some(), x, tx, 0, most, api.ErrName)
		if _, e := sees(t, some(), x, tx, 0); e != api.ErrName {
			t.Errorf("See: %v", e)
		}
	}
}

func TestAddOfNothing(t *testing.T) {
	for c := range some().C {
		for tx := range family().L {
			added(t, some(), family(), tx, c, 0, some().P...)
		}
	}
	added(t, one(counter(0, 10, 5)), family(), 0, 0, 0)
	added(t, one(counter(5, 5, 5)), family(), 0, 0, 0)
	added(t, one(counter(0, 10, 5), pend(0, 1, 5, -5)), family(), 0, 0, 0, pend(0, 1, 5, -5))
	added(t, full(), row(64), 63, 63, 0, full().P...)
}

func TestAddOfWhatJustFits(t *testing.T) {
	x := family()
	for _, c := range []struct {
		t    escrow.Table
		c    int
		down int
		up   int
	}{
		{one(counter(0, 10, 5)), 0, -5, 5},
		{one(counter(0, 10, 0)), 0, 0, 10},
		{one(counter(0, 10, 10)), 0, -10, 0},
		{one(counter(7, 7, 7)), 0, 0, 0},
		{one(counter(-10, -4, -6)), 0, -4, 2},
		{one(counter(0, 10, 5), pend(0, 1, 4, 0)), 0, -5, 1},
		{one(counter(0, 10, 5), pend(0, 1, 0, -4)), 0, -1, 5},
		{one(counter(0, 10, 5), pend(0, 1, 4, -2), pend(0, 2, 1, -3)), 0, 0, 0},
		{one(counter(0, 10, 5), pend(0, 1, 3, -2), pend(0, 6, 1, -1)), 0, -2, 1},
		{table(many(3), pend(0, 1, 100, -100), pend(1, 0, 30, -20), pend(1, 8, 40, -60), pend(2, 1, 100, -100)), 1, -20, 30},
		{some(), 0, -1, 0},
		{some(), 1, -60, 59},
		{some(), 2, -5, 5},
		{some(), 3, 0, 0},
		{some(), 4, -24, 65},
		{one(counter(least, most, 0)), 0, least, most},
		{one(counter(least, most, 5)), 0, least, most - 5},
		{one(counter(least, most, -5)), 0, least + 5, most},
		{one(counter(least, most, least)), 0, 0, most},
		{one(counter(least, most, most)), 0, least, 0},
		{one(counter(least, most-3, 0), pend(0, 1, 3, -3)), 0, least + 3, most - 6},
		{one(counter(least, most, -10), pend(0, 1, 5, 0)), 0, least + 10, most - 5}, // the Ups alone are an int
		{one(counter(least, most, 10), pend(0, 1, 0, -5)), 0, least + 5, most - 10},
	} {
		for tx := range x.L {
			fits(t, c.t, x, tx, c.c, c.down, c.up)
		}
	}
}

// fits: what just fits is added, one more is not.
func fits(t *testing.T, l escrow.Table, x tree.Tree, tx, c, down, up int) {
	t.Helper()
	had := spread(l)[key{c, tx}]
	for _, by := range []int{down, up} {
		got, e := adds(t, l, x, tx, c, by)
		if has := spread(got)[key{c, tx}]; e != api.OK || has != had.plus(by) {
			t.Errorf("Add(%v, .., %d, %d, %d) = %v, %v", l, tx, c, by, got, e)
		}
	}
	for _, by := range []int{1, 2, 7, most/2 - 1} {
		if up <= most-by {
			refused(t, l, x, tx, c, up+by, api.ErrBounds)
		}
		if down >= least+by {
			refused(t, l, x, tx, c, down-by, api.ErrBounds)
		}
	}
	for _, by := range []int{least, most} {
		if by < down || by > up {
			refused(t, l, x, tx, c, by, api.ErrBounds)
		}
	}
}

// Of the least and the greatest int there may be one, and no more of that kind.
func TestAddOfTheLeastAndTheGreatest(t *testing.T) {
	x, wide := family(), one(counter(least, most, 0))
	l := added(t, wide, x, 0, 0, most, pend(0, 0, most, 0))
	refused(t, l, x, 0, 0, 1, api.ErrBounds)
	refused(t, l, x, 8, 0, 1, api.ErrBounds)
	refused(t, l, x, 0, 0, most, api.ErrBounds)
	both := added(t, l, x, 0, 0, least, pend(0, 0, most, least))
	refused(t, both, x, 0, 0, -1, api.ErrBounds)
	refused(t, both, x, 8, 0, least, api.ErrBounds)
	added(t, l, x, 8, 0, least, pend(0, 0, most, 0), pend(0, 8, 0, least))
	l = added(t, wide, x, 0, 0, least, pend(0, 0, 0, least))
	refused(t, l, x, 8, 0, -1, api.ErrBounds)
	added(t, l, x, 0, 0, most, pend(0, 0, most, least))
	added(t, one(counter(least, most, least)), x, 0, 0, most, pend(0, 0, most, 0))
	refused(t, one(counter(least, most, least)), x, 0, 0, least, api.ErrBounds)
	added(t, one(counter(least, most, most)), x, 0, 0, least, pend(0, 0, 0, least))
	refused(t, one(counter(least, most, most)), x, 0, 0, most, api.ErrBounds)
	refused(t, one(counter(0, 10, 5)), x, 0, 0, least, api.ErrBounds)
	refused(t, one(counter(0, 10, 5)), x, 0, 0, most, api.ErrBounds)
}

// The bounds would hold it, but all Ups (or Downs) together would be no int.
func TestAddOfSumsThatAreNoInt(t *testing.T) {
	x := family()
	l := one(counter(least, most, -10), pend(0, 1, most-3, 0))
	added(t, l, x, 1, 0, 3, pend(0, 1, most, 0))
	added(t, l, x, 2, 0, 3, pend(0, 1, most-3, 0), pend(0, 2, 3, 0))
	for _, by := range []int{4, 5, 9, 10, 13} {
		refused(t, l, x, 1, 0, by, api.ErrBounds)
		refused(t, l, x, 2, 0, by, api.ErrBounds)
	}
	l = one(counter(least, most, 10), pend(0, 1, 0, least+3))
	added(t, l, x, 1, 0, -3, pend(0, 1, 0, least))
	added(t, l, x, 2, 0, -3, pend(0, 1, 0, least+3), pend(0, 2, 0, -3))
	for _, by := range []int{-4, -5, -9, -10, -13} {
		refused(t, l, x, 1, 0, by, api.ErrBounds)
		refused(t, l, x, 2, 0, by, api.ErrBounds)
	}
	refused(t, one(counter(least, most, least), pend(0, 1, most, 0)), x, 2, 0, most, api.ErrBounds)
	refused(t, one(counter(least, most, most), pend(0, 1, 0, least)), x, 2, 0, least, api.ErrBounds)
}

func TestAddToItsOwn(t *testing.T) {
	x := family()
	l := added(t, one(counter(0, 10, 5)), x, 4, 0, 2, pend(0, 4, 2, 0))
	l = added(t, l, x, 4, 0, 1, pend(0, 4, 3, 0))
	l = added(t, l, x, 4, 0, -1, pend(0, 4, 3, -1)) // it takes nothing from the Ups
	l = added(t, l, x, 4, 0, 0, pend(0, 4, 3, -1))
	l = added(t, l, x, 4, 0, -3, pend(0, 4, 3, -4))
	l = added(t, l, x, 4, 0, 2, pend(0, 4, 5, -4))
	refused(t, l, x, 4, 0, 1, api.ErrBounds)
	refused(t, l, x, 4, 0, -2, api.ErrBounds)
	l = added(t, l, x, 4, 0, -1, pend(0, 4, 5, -5))
	refused(t, l, x, 4, 0, 1, api.ErrBounds)
	refused(t, l, x, 4, 0, -1, api.ErrBounds)
	added(t, l, x, 4, 0, 0, pend(0, 4, 5, -5))
	rest := some().P
	rest[4].Up = 7
	added(t, some(), x, 1, 1, 6, rest...)
	rest = some().P
	rest[1].Down = -4
	added(t, some(), x, 4, 0, -1, rest...)
	rest = some().P
	rest[7].Up = 2
	added(t, some(), x, 5, 4, 2, rest...)
}

func TestWhereANewPendComes(t *testing.T) {
	l := table(many(5),
		pend(1, 2, 1, 0),
		pend(1, 4, 1, 0),
		pend(3, 0, 1, 0),
		pend(3, 7, 1, 0),
	)
	for _, c := range []struct{ counter, tx, at int }{
		{0, 0, 0}, {0, 8, 0}, {1, 0, 0}, {1, 1, 0}, {1, 3, 1}, {1, 5, 2}, {1, 8, 2}, {2, 0, 2}, {2, 4, 2}, {2, 8, 2},
		{3, 1, 3}, {3, 6, 3}, {3, 8, 4}, {4, 0, 4}, {4, 8, 4},
	} {
		added(t, l, family(), c.tx, c.counter, 7, slices.Insert(slices.Clone(l.P), c.at, pend(c.counter, c.tx, 7, 0))...)
		added(t, l, family(), c.tx, c.counter, -7, slices.Insert(slices.Clone(l.P), c.at, pend(c.counter, c.tx, 0, -7))...)
	}
}

// All that there may be is added, one behind the other, in an order that does not rise.
func TestAddUntilAllIsFull(t *testing.T) {
	x, l := row(64), escrow.Table{C: many(64)}
	for n := range 64 * 64 {
		at := n * 2531 % 4096
		by := at%3 - 1
		if by == 0 {
			by = 2
		}
		got, e := escrow.Add(l, x, at%64, at/64, by)
		if e != api.OK {
			t.Fatalf("%v at %d", e, at)
		}
		l = got
	}
	sane(t, l, true)
	for at, p := range l.P {
		by := []int{-1, 2, 1}[at%3]
		if p != pend(at/64, at%64, max(by, 0), min(by, 0)) {
			t.Fatalf("%v at %d", p, at)
		}
	}
	if len(l.P) != 4096 {
		t.Errorf("%d pends", len(l.P))
	}
	for _, c := range []int{0, 31, 63} {
		fits(t, full(), x, c, c, -36, 36)
	}
}

func TestEachSmallAdd(t *testing.T) {
	x := row(3)
	for n := range 4 * 4 * 4 {
		c := counter(0, 3, n%4)
		l := one(c)
		if up := n / 4 % 4; up > 0 {
			l.P = append(l.P, pend(0, 1, up, 0))
		}
		if down := n / 16; down > 0 {
			l.P = append(l.P, pend(0, 2, 0, -down))
		}
		for by := -5; by <= 5; by++ {
			for tx := range 3 {
				adds(t, l, x, tx, 0, by)
				sees(t, l, x, tx, 0)
			}
		}
	}
}

// P13.3

// seen holds See against what is known.
func seen(t *testing.T, l escrow.Table, x tree.Tree, tx, counter, want int) {
	t.Helper()
	if got, e := sees(t, l, x, tx, counter); got != want || e != api.OK {
		t.Errorf("See(%v, .., %d, %d) = %d, %v, want %d", l, tx, counter, got, e, want)
	}
}

// unseen holds an error of See against what is known; the number beside it is 0.
func unseen(t *testing.T, l escrow.Table, x tree.Tree, tx, counter int, want api.Errno) {
	t.Helper()
	if got, e := sees(t, l, x, tx, counter); got != 0 || e != want {
		t.Errorf("See(%v, .., %d, %d) = %d, %v, want %v", l, tx, counter, got, e, want)
	}
}

func TestSeeOfNames(t *testing.T) {
	for _, l := range strange() {
		for c := range 4 {
			unseen(t, l, family(), 8, c, api.ErrName)
		}
	}
	for _, n := range []int{0, 1, 2, 63, 64} {
		for _, c := range append([]int{n, n + 1}, noCounters...) {
			unseen(t, table(many(n)), family(), 8, c, api.ErrName)
		}
	}
	for _, tx := range append([]int{9, 10, 63}, noTxs...) {
		unseen(t, some(), family(), tx, 3, api.ErrName)
		unseen(t, some(), family(), tx, 0, api.ErrName) // though others have some of it
		unseen(t, some(), tree.Tree{}, tx, 3, api.ErrName)
	}
	unseen(t, some(), tree.Tree{}, 0, 3, api.ErrName)
	for _, n := range []int{63, 64, 65, 66, 200} {
		for _, tx := range []int{62, 63, 64, 65, 66, 199, 200} {
			if tx < n && tx <= 63 {
				seen(t, some(), row(n), tx, 3, 7)
				continue
			}
			unseen(t, some(), row(n), tx, 3, api.ErrName)
		}
	}
}

func TestSeeOfEachState(t *testing.T) {
	for _, state := range []int{0, tree.Done, tree.Undone, 4, -1, least, most} {
		x := ended(family(), 4, state)
		unseen(t, some(), x, 4, 3, api.ErrState)
		unseen(t, some(), x, 4, 0, api.ErrState)
		unseen(t, one(counter(0, 10, 5), pend(0, 4, 1, 0)), x, 4, 0, api.ErrState)
		seen(t, one(counter(0, 10, 5), pend(0, 4, 1, 0)), x, 5, 0, 6) // it is Live, whatever it stands in
	}
}

func TestSeeOfNothingPending(t *testing.T) {
	for _, value := range []int{least, -1, 0, 5, most} {
		for tx := range family().L {
			seen(t, one(counter(least, most, value)), family(), tx, 0, value)
			l := table([]escrow.Counter{counter(0, 10, 5), counter(least, most, value), counter(0, 10, 5)},
				pend(0, 8, 1, 0), pend(0, 9, 1, 0), pend(2, 2, 0, -1), pend(2, 63, 1, 0)) // of other counters
			seen(t, l, family(), tx, 1, value)
		}
	}
}

// Each owner, seen by each: only those that stand in the owner see it.
func TestSeeOfEachKin(t *testing.T) {
	inside := [][]int{{0, 1, 2, 3, 4, 5}, {1, 2, 3}, {2}, {3}, {4, 5}, {5}, {6, 7}, {7}, {8}}
	for owner, ids := range inside {
		l := one(counter(0, 10, 5), pend(0, owner, 3, -1))
		other := table(many(2), pend(0, owner, 3, -1), pend(1, owner, 4, 0))
		for tx := range inside {
			if slices.Contains(ids, tx) {
				seen(t, l, family(), tx, 0, 7)
				seen(t, other, family(), tx, 1, 4)
				continue
			}
			unseen(t, l, family(), tx, 0, api.ErrWait)
			unseen(t, other, family(), tx, 1, api.ErrWait)
		}
	}
}

func TestSeeOfSeveral(t *testing.T) {
	x := family()
	way := one(counter(0, 100, 50), pend(0, 0, 10, -1), pend(0, 1, 7, 0), pend(0, 2, 0, -20))
	seen(t, way, x, 2, 0, 46) // its own, its parent's, and that one's parent's
	for _, tx := range []int{0, 1, 3, 4, 5, 6, 7, 8} {
		unseen(t, way, x, tx, 0, api.ErrWait)
	}
	above := one(counter(0, 100, 50), pend(0, 0, 10, -1), pend(0, 1, 7, 0))
	for _, tx := range []int{1, 2, 3} {
		seen(t, above, x, tx, 0, 66)
	}
	unseen(t, above, x, 0, 0, api.ErrWait) // its kid has some
	unseen(t, above, x, 4, 0, api.ErrWait) // its brother has
	unseen(t, above, x, 8, 0, api.ErrWait)
	brothers := one(counter(0, 100, 50), pend(0, 2, 1, 0), pend(0, 3, 1, 0))
	for tx := range x.L {
		unseen(t, brothers, x, tx, 0, api.ErrWait)
	}
	for at := range 64 { // whichever of many it is that one does not stand in
		l := one(counter(0, 100, 50), pend(0, at, 1, 0))
		if at == 0 {
			seen(t, l, x, 5, 0, 51)
		} else if at != 4 && at != 5 {
			unseen(t, l, x, 5, 0, api.ErrWait)
		}
		if at > 5 {
			unseen(t, one(counter(0, 100, 50), pend(0, 0, 1, 0), pend(0, 4, 1, 0), pend(0, 5, 1, 0), pend(0, at, 1, 0)), x, 5, 0, api.ErrWait)
		}
	}
}

func TestSeeOfTheLeastAndTheGreatest(t *testing.T) {
	x := family()
	seen(t, one(counter(least, most, 0), pend(0, 0, most, least)), x, 0, 0, -1)
	seen(t, one(counter(least, most, least), pend(0, 0, most, 0)), x, 0, 0, -1)
	seen(t, one(counter(least, most, most), pend(0, 0, 0, least)), x, 0, 0, -1)
	seen(t, one(counter(least, most, 0), pend(0, 0, most, 0)), x, 2, 0, most)
	seen(t, one(counter(least, most, 0), pend(0, 0, 0, least)), x, 2, 0, least)
	seen(t, one(counter(least, most, 1), pend(0, 0, most-1, 0), pend(0, 1, 0, least+5)), x, 2, 0, 4)
}

func TestSeeOfTreesThatAreNotSane(t *testing.T) {
	ring := grown(2, 0, 1, 2, 77)
	l := one(counter(0, 100, 50), pend(0, 0, 1, 0), pend(0, 2, 2, 0))
	for _, tx := range []int{0, 1, 2, 3} {
		seen(t, l, ring, tx, 0, 53)
	}
	unseen(t, l, ring, 4, 0, api.ErrWait)
	unseen(t, one(counter(0, 100, 50), pend(0, 13, 1, 0)), ring, 4, 0, api.ErrWait)
	above := grown(1, -1)
	seen(t, one(counter(0, 100, 50), pend(0, 1, 1, 0)), above, 0, 0, 51)
	unseen(t, one(counter(0, 100, 50), pend(0, 0, 1, 0)), above, 1, 0, api.ErrWait)
}

// P13.4

// passed holds Pass against what is known, where the counters are as they were.
func passed(t *testing.T, l escrow.Table, tx, parent int, want ...escrow.Pend) escrow.Table {
	t.Helper()
	got := passes(t, l, tx, parent)
	if !slices.Equal(got.P, want) || !slices.Equal(got.C, l.C) {
		t.Errorf("Pass(%v, %d, %d) = %v, want %v", l, tx, parent, got, want)
	}
	return got
}

func TestPassToAParentThatHasNothing(t *testing.T) {
	passed(t, one(counter(0, 10, 5), pend(0, 4, 3, -2)), 4, 0, pend(0, 0, 3, -2))
	passed(t, one(counter(0, 10, 5), pend(0, 4, 3, -2)), 4, 63, pend(0, 63, 3, -2))
	passed(t, table(many(4), pend(0, 4, 3, 0), pend(1, 4, 0, -1), pend(3, 4, 1, -1)), 4, 2, pend(0, 2, 3, 0), pend(1, 2, 0, -1), pend(3, 2, 1, -1))
	between := table(many(2), pend(0, 1, 1, 0), pend(0, 3, 2, 0), pend(0, 5, 3, 0), pend(0, 7, 4, 0))
	passed(t, between, 7, 0, pend(0, 0, 4, 0), pend(0, 1, 1, 0), pend(0, 3, 2, 0), pend(0, 5, 3, 0))
	passed(t, between, 7, 2, pend(0, 1, 1, 0), pend(0, 2, 4, 0), pend(0, 3, 2, 0), pend(0, 5, 3, 0))
	passed(t, between, 7, 6, pend(0, 1, 1, 0), pend(0, 3, 2, 0), pend(0, 5, 3, 0), pend(0, 6, 4, 0))
	passed(t, between, 1, 4, pend(0, 3, 2, 0), pend(0, 4, 1, 0), pend(0, 5, 3, 0), pend(0, 7, 4, 0))
	passed(t, between, 1, 9, pend(0, 3, 2, 0), pend(0, 5, 3, 0), pend(0, 7, 4, 0), pend(0, 9, 1, 0))
	passed(t, between, 3, 4, pend(0, 1, 1, 0), pend(0, 4, 2, 0), pend(0, 5, 3, 0), pend(0, 7, 4, 0))
}

func TestPassToAParentThatHasSome(t *testing.T) {
	passed(t, one(counter(0, 10, 5), pend(0, 0, 1, -1), pend(0, 4, 3, -2)), 4, 0, pend(0, 0, 4, -3))
	passed(t, one(counter(0, 10, 5), pend(0, 0, 1, 0), pend(0, 4, 0, -2)), 4, 0, pend(0, 0, 1, -2))
	passed(t, one(counter(0, 10, 5), pend(0, 0, 0, -2), pend(0, 4, 1, 0)), 0, 4, pend(0, 4, 1, -2))
	l := table(many(5),
		pend(0, 0, 1, -1), pend(0, 2, 5, 0), pend(0, 4, 3, -2),
		pend(1, 0, 7, 0), pend(1, 2, 1, 0),
		pend(2, 2, 1, 0), pend(2, 4, 0, -9),
		pend(3, 4, 6, 0), pend(3, 5, 2, 0),
		pend(4, 0, 8, -8), pend(4, 4, 1, -2), pend(4, 63, 1, 0),
	)
	passed(t, l, 4, 0,
		pend(0, 0, 4, -3), pend(0, 2, 5, 0),
		pend(1, 0, 7, 0), pend(1, 2, 1, 0),
		pend(2, 0, 0, -9), pend(2, 2, 1, 0),
		pend(3, 0, 6, 0), pend(3, 5, 2, 0),
		pend(4, 0, 9, -10), pend(4, 63, 1, 0))
	passed(t, l, 0, 4,
		pend(0, 2, 5, 0), pend(0, 4, 4, -3),
		pend(1, 2, 1, 0), pend(1, 4, 7, 0),
		pend(2, 2, 1, 0), pend(2, 4, 0, -9),
		pend(3, 4, 6, 0), pend(3, 5, 2, 0),
		pend(4, 4, 9, -10), pend(4, 63, 1, 0))
	wide := one(counter(least, most, 0), pend(0, 0, most-7, least+8), pend(0, 63, 7, -8))
	passed(t, wide, 63, 0, pend(0, 0, most, least))
	passed(t, wide, 0, 63, pend(0, 63, most, least))
}

func TestPassToItself(t *testing.T) {
	for _, l := range []escrow.Table{{}, some(), full(), one(counter(0, 10, 5), pend(0, 63, 5, -5))} {
		for _, tx := range append([]int{0, 1, 2, 4, 5, 6, 8, 9, 63}, noTxs...) {
			passed(t, l, tx, tx, l.P...)
		}
	}
}

func TestPassOfOneThatHasNothing(t *testing.T) {
	for _, tx := range append([]int{2, 3, 7, 9, 63}, noTxs...) {
		for _, parent := range append([]int{0, 1, 2, 4, 8, 63}, noTxs...) {
			passed(t, some(), tx, parent, some().P...)
			passed(t, escrow.Table{}, tx, parent)
			passed(t, one(counter(0, 10, 5)), tx, parent)
		}
	}
}

// fixed holds Pass to a parent below 0 against what is known.
func fixed(t *testing.T, l escrow.Table, tx int, values []int, want ...escrow.Pend) {
	t.Helper()
	for _, parent := range []int{-1, -2, -64, least, least + 1} {
		got := passes(t, l, tx, parent)
		c := slices.Clone(l.C)
		for at, value := range values {
			c[at].Value = value
		}
		if !same(got, escrow.Table{C: c, P: want}) {
			t.Errorf("Pass(%v, %d, %d) = %v, want %v and %v", l, tx, parent, got, values, want)
		}
	}
}

func TestPassToNone(t *testing.T) {
	fixed(t, one(counter(0, 10, 5), pend(0, 4, 3, 0)), 4, []int{8})
	fixed(t, one(counter(0, 10, 5), pend(0, 4, 0, -2)), 4, []int{3})
	fixed(t, one(counter(0, 10, 5), pend(0, 4, 5, -2)), 4, []int{8})
	fixed(t, one(counter(0, 10, 5), pend(0, 4, 5, -5)), 4, []int{5})
	fixed(t, one(counter(0, 10, 5), pend(0, 0, 2, -2), pend(0, 4, 3, 0), pend(0, 9, 0, -3)), 4, []int{8}, pend(0, 0, 2, -2), pend(0, 9, 0, -3))
	fixed(t, some(), 1, []int{6, 1, 0, 7, -20},
		pend(0, 4, 0, -3), pend(0, 6, 3, 0), pend(1, 0, 40, -40), pend(2, 8, most-5, least+5), pend(4, 5, 0, -1))
	fixed(t, some(), 8, []int{5, 0, -1, 7, -20}, slices.Delete(some().P, 5, 6)...)
	fixed(t, some(), 3, []int{5, 0, 0, 7, -20}, some().P...)
	fixed(t, one(counter(least, most, 0), pend(0, 4, most, least)), 4, []int{-1})
	fixed(t, one(counter(least, most, 0), pend(0, 4, most, 0)), 4, []int{most})
	fixed(t, one(counter(least, most, 0), pend(0, 4, 0, least)), 4, []int{least})
	fixed(t, one(counter(least, most, least), pend(0, 4, most, 0)), 4, []int{-1})
	fixed(t, one(counter(least, most, most), pend(0, 4, 0, least)), 4, []int{-1})
	fixed(t, full(), 63, make([]int, 64), slices.DeleteFunc(full().P, func(p escrow.Pend) bool { return p.Tx == 63 })...)
}

// Pass to one above 63 lets it have them, by the words; such a table is not Sane.
func TestPassToAParentThatIsNoTransaction(t *testing.T) {
	for _, parent := range []int{64, 65, 1 << 32, most - 1, most} {
		got := passed(t, one(counter(0, 10, 5), pend(0, 4, 3, -1), pend(0, 9, 1, 0)), 4, parent, pend(0, 9, 1, 0), pend(0, parent, 3, -1))
		sane(t, got, false)
	}
}

func TestPassOfTheGreatestTable(t *testing.T) {
	for _, tx := range []int{0, 1, 31, 62, 63} {
		for _, parent := range []int{-1, 0, 1, 30, 63} {
			got := passes(t, full(), tx, parent)
			if !escrow.Sane(got) {
				t.Errorf("Pass of %d to %d may not be", tx, parent)
			}
			for c := range 64 {
				if far := escrow.Reach(got, c); parent >= 0 && far != (span.Span{Lo: -64, Hi: 64}) || parent < 0 && far != (span.Span{Lo: -63, Hi: 63}) {
					t.Errorf("Pass of %d to %d: %v", tx, parent, far)
				}
			}
		}
	}
}

// freed holds Free against what is known.
func freed(t *testing.T, l escrow.Table, ids []int, want ...escrow.Pend) {
	t.Helper()
	if got := frees(t, l, ids...); !same(got, escrow.Table{C: l.C, P: want}) {
		t.Errorf("Free(%v, %v) = %v, want %v", l, ids, got, want)
	}
}

func TestFree(t *testing.T) {
	p := some().P
	freed(t, some(), nil, p...)
	freed(t, some(), []int{}, p...)
	freed(t, some(), []int{1}, p[1], p[2], p[3], p[5], p[7])
	freed(t, some(), []int{1, 1, 1}, p[1], p[2], p[3], p[5], p[7])
	freed(t, some(), []int{0}, p[0], p[1], p[2], p[4], p[5], p[6], p[7])
	freed(t, some(), []int{8, 4}, p[0], p[2], p[3], p[4], p[6], p[7])
	freed(t, some(), []int{4, 9, 8, 4, -1}, p[0], p[2], p[3], p[4], p[6], p[7])
	freed(t, some(), []int{0, 1, 4, 5, 6, 8})
	freed(t, some(), []int{8, 6, 5, 4, 1, 0, 2, 3, 7})
	freed(t, some(), append([]int{2, 3, 7, 9, 63}, noTxs...), p...)
	freed(t, escrow.Table{}, nil)
	freed(t, escrow.Table{}, []int{0, 1, 63})
	freed(t, one(counter(0, 10, 5)), []int{0, 1, 63})
	freed(t, one(counter(0, 10, 5), pend(0, 63, 1, 0)), []int{63})
	freed(t, one(counter(0, 10, 5), pend(0, 0, 1, 0)), []int{0, 0})
	freed(t, one(counter(least, most, 0), pend(0, 5, most, least)), []int{5})
}

func TestFreeOfTheGreatestTable(t *testing.T) {
	var odd []int
	for id := 1; id < 64; id += 2 {
		odd = append(odd, id, id)
	}
	freed(t, full(), odd, slices.DeleteFunc(full().P, func(p escrow.Pend) bool { return p.Tx%2 == 1 })...)
	var each []int
	for id := -100; id < 200; id++ {
		each = append(each, id)
	}
	freed(t, full(), each)
}

func TestOf(t *testing.T) {
	p := some().P
	for tx, want := range map[int][]escrow.Pend{
		0: {p[3]}, 1: {p[0], p[4], p[6]}, 2: nil, 3: nil, 4: {p[1]}, 5: {p[7]}, 6: {p[2]}, 7: nil, 8: {p[5]},
		9: nil, 63: nil, 64: nil, -1: nil, least: nil, most: nil,
	} {
		if got := ofs(t, some(), tx); !slices.Equal(got, want) {
			t.Errorf("Of(.., %d) = %v, want %v", tx, got, want)
		}
		if got := ofs(t, escrow.Table{}, tx); len(got) > 0 {
			t.Errorf("Of none: %v", got)
		}
	}
	for _, tx := range []int{0, 1, 62, 63} {
		if got := ofs(t, full(), tx); len(got) != 64 || got[0] != pend(0, tx, 1, -1) || got[63] != pend(63, tx, 1, -1) {
			t.Errorf("%v", got)
		}
	}
}

func TestReach(t *testing.T) {
	far := func(l escrow.Table, counter, lo, hi int) {
		t.Helper()
		if got := reaches(t, l, counter); got != (span.Span{Lo: lo, Hi: hi}) {
			t.Errorf("Reach(%v, %d) = %v, want %d, %d", l, counter, got, lo, hi)
		}
	}
	far(some(), 0, 1, 10)
	far(some(), 1, -40, 41)
	far(some(), 2, least+5, most-5)
	far(some(), 3, 7, 7)
	far(some(), 4, -26, -15)
	far(one(counter(least, most, 0), pend(0, 5, most, least)), 0, least, most)
	far(one(counter(least, most, least)), 0, least, least)
	far(one(counter(least, most, most)), 0, most, most)
	for c := range 64 {
		far(full(), c, -64, 64)
	}
	for _, c := range append([]int{5, 6, 63}, noCounters...) {
		far(some(), c, 0, 0)
		far(escrow.Table{}, c, 0, 0)
		far(one(counter(3, 3, 3)), c, 0, 0)
	}
	for _, c := range noCounters {
		far(full(), c, 0, 0)
	}
	far(escrow.Table{}, 0, 0, 0)
	far(one(counter(3, 3, 3)), 1, 0, 0)
}

// All calls, at tables and trees of any kind

func TestEachTableOfTwo(t *testing.T) {
	x := grown(-1, 0, -1)
	for n := range 3 * 3 * 3 * 3 {
		for m := range 3 * 3 * 3 * 3 {
			p := pend(n%3-1, n/3%3, n/9%3, -(n / 27))
			q := pend(m%3-1, m/3%3, m/9%3, -(m / 27))
			l := table([]escrow.Counter{counter(-3, 3, 0), counter(0, 2, 1)}, p, q)
			sane(t, l, plainSane(l))
			if plainSane(l) && (n+m)%4 == 0 || (n+m)%64 == 0 {
				all(t, l, x)
			}
		}
	}
}

// strangeTree is one that is not Sane: parents go round, or are no IDs, or stand above; States are none.
func strangeTree() tree.Tree {
	x := grown(1, 0, 1, 3, 77, most, least, -2, 9, -1)
	x.L[2].State, x.L[3].State, x.L[7].State = 4, -1, least
	return x
}

func TestStrangeTables(t *testing.T) {
	for _, l := range strange() {
		if len(l.C) > 70 {
			l.C = l.C[:70]
		}
		for _, x := range []tree.Tree{{}, family(), strangeTree()} {
			all(t, l, x)
		}
	}
	all(t, strange()[3], row(66))
}

func TestStrangeTrees(t *testing.T) {
	for _, l := range []escrow.Table{{}, some()} {
		all(t, l, family())
		all(t, l, strangeTree())
		all(t, l, tree.Tree{})
		all(t, l, grown(0))
		all(t, l, grown(slices.Repeat([]int{0}, 70)...))
	}
}

// script is as many bytes, of any kind, but the same ones each time.
func script(seed uint32, n int) []byte {
	b := make([]byte, n)
	for i := range b {
		seed = seed*1664525 + 1013904223
		b[i] = byte(seed >> 24)
	}
	return b
}

// kinds are counters of each kind that there may be, with room and without.
func kinds() []escrow.Counter {
	return []escrow.Counter{
		counter(0, 10, 5), counter(least, most, 0), counter(least, most, -1), counter(least, most, most-3),
		counter(-4, 4, 0), counter(7, 7, 7), counter(most-9, most, most-2), counter(least, least+9, least+4),
	}
}

// anyTable is a table of any kind: three bytes a pend. Many of them may be.
func anyTable(b []byte) escrow.Table {
	strange := len(b) > 0 && b[0]%4 == 0
	sizes := []int{0, 1, 2, 3, 5, most/2 - 1, most - 5, most}
	l := table(kinds())
	if strange && b[0]%8 == 0 {
		l.C[b[0]/8%8].Value = []int{least, most, 11, 0}[b[0]/64]
	}
	m := map[key]what{}
	for ; len(b) >= 3; b = b[3:] {
		k := key{int(b[0] % 8), []int{0, 1, 2, 3, 5, 8, 62, 63}[b[1]%8]}
		w := m[k].plus(sizes[b[2]%8]).plus(-sizes[b[2]/8%8])
		if !strange {
			if _, there := m[k]; !there && w != (what{}) {
				m[k] = w
				if !plainSane(gathered(l.C, m)) {
					delete(m, k)
				}
			}
			continue
		}
		p := pend(k.counter, k.tx, w.up, w.down)
		if b[2] > 230 {
			p = pend([]int{-1, 8, least, most}[b[0]%4], []int{-1, 64, least, most}[b[1]%4], int(b[2]%5)-1, int(b[2]/5%5)-3)
		}
		l.P = append(l.P, p)
	}
	if !strange {
		l.P = roomy(gathered(l.C, m).P)
	}
	return l
}

// anyTree is a tree of any kind: two bytes a transaction.
func anyTree(b []byte) tree.Tree {
	var x tree.Tree
	n := len(b) / 2
	for ; len(b) >= 2; b = b[2:] {
		parent := int(b[0])%(n+2) - 1
		if b[0] > 250 {
			parent = []int{-2, 64, least, most, n}[b[0]-251]
		}
		x.L = append(x.L, tree.Tx{Parent: parent, State: max(int(b[1]%6)-1, tree.Live)})
	}
	return x
}

func TestTablesOfAnyKind(t *testing.T) {
	may, pends := 0, 0
	for seed := range uint32(200) {
		l, x := anyTable(script(seed, 3+int(seed%50))), anyTree(script(seed+1000, int(seed%20)))
		all(t, l, x)
		if escrow.Sane(l) {
			may++
			pends += len(l.P)
		}
	}
	if may < 80 || may > 190 || pends < 300 {
		t.Errorf("%d of 200 may be, with %d pends", may, pends)
	}
}

// Each of these has many pends, or counters, and is not Sane; the tree is a way, a ring or a row of many.
func TestLargeTables(t *testing.T) {
	const n = 1 << 16
	way, ring := make([]int, n), make([]int, n)
	var ids []int
	for id := range n {
		way[id], ring[id] = id-1, (id+1)%n
		ids = append(ids, id*3)
	}
	trees := []tree.Tree{grown(way...), grown(ring...), row(n)}
	for _, counters := range []int{0, 6, 64, n} {
		for _, p := range []func(i int) escrow.Pend{
			func(i int) escrow.Pend { return pend(5, 5, 1, -1) },
			func(i int) escrow.Pend { return pend(5, i, most, 0) },
			func(i int) escrow.Pend { return pend(5, -i, 0, least) },
			func(i int) escrow.Pend { return pend(i, 5, 1, 0) },
			func(i int) escrow.Pend { return pend(-i, 5, most, least) },
			func(i int) escrow.Pend { return pend(i*40503%n, 5, 3, 0) },
			func(i int) escrow.Pend { return pend(i*40503%n, i*60493%n, 0, -3) },
		} {
			long := escrow.Table{C: many(counters)}
			for i := range n {
				long.P = append(long.P, p(i))
			}
			for _, x := range trees {
				if got, e := escrow.Add(long, x, 5, 5, 1); e != api.ErrName || !nothing(got) {
					t.Errorf("Add: %v", e)
				}
				if got, e := escrow.See(long, x, 5, 5); e != api.ErrName || got != 0 {
					t.Errorf("See: %v", e)
				}
			}
			for _, c := range []struct{ tx, parent int }{{5, 6}, {5, 5}, {5, -1}, {-5, most}, {6, 5}} {
				escrow.Pass(long, c.tx, c.parent)
			}
			escrow.Free(long, ids)
			escrow.Of(long, 5)
			escrow.Reach(long, 5)
			if escrow.Sane(long) {
				t.Error("it may be")
			}
		}
	}
	for _, x := range trees {
		if _, e := escrow.Add(full(), x, 63, 63, 1); e != api.OK {
			t.Errorf("Add: %v", e)
		}
		if _, e := escrow.See(full(), x, 62, 63); e != api.ErrWait && x.L[62].Parent != 63 {
			t.Errorf("See: %v", e)
		}
	}
}

// P13.5

// piece is an amount that was added, and who has it now.
type piece struct{ counter, tx, by int }

// world is a tree, what is pending by the package, and the same by pieces alone.
type world struct {
	x      tree.Tree
	t      escrow.Table
	values []int
	pieces []piece
}

// born is a world in which nothing was added.
func born(x tree.Tree, c ...escrow.Counter) world {
	w := world{x: x, t: table(c)}
	for _, one := range c {
		w.values = append(w.values, one.Value)
	}
	return w
}

// made is the table that the pieces tell.
func (w world) made() escrow.Table {
	m, c := map[key]what{}, slices.Clone(w.t.C)
	for at, value := range w.values {
		c[at].Value = value
	}
	for _, p := range w.pieces {
		k := key{p.counter, p.tx}
		m[k] = m[k].plus(p.by)
	}
	return gathered(c, m)
}

// holds holds a world against P13.5: the table is Sane, and just what the pieces tell; whichever of the pieces of a counter count, it lies in its bounds.
func (w world) holds(t *testing.T) {
	t.Helper()
	if !escrow.Sane(w.t) || !plainSane(w.t) {
		t.Fatalf("%v may not be", w.t)
	}
	if want := w.made(); !same(w.t, want) {
		t.Fatalf("%v, but pieces tell %v", w.t, want)
	}
	for at, c := range w.t.C {
		var own []int
		for _, p := range w.pieces {
			if p.counter == at {
				own = append(own, p.by)
			}
		}
		lies(t, c, own)
		if far := escrow.Reach(w.t, at); far.Lo < c.Lo || far.Hi > c.Hi || far.Lo > c.Value || far.Hi < c.Value {
			t.Fatalf("Reach(%v, %d) = %v", w.t, at, far)
		}
	}
}

// lies goes over each choice of some amounts; of many it takes those that are up, and those that are down.
func lies(t *testing.T, c escrow.Counter, l []int) {
	t.Helper()
	chosen := func(counts func(i int) bool) {
		v := exact(c.Value)
		for i, n := range l {
			if counts(i) {
				v.Add(v, exact(n))
			}
		}
		if v.Cmp(exact(c.Lo)) < 0 || v.Cmp(exact(c.Hi)) > 0 {
			t.Fatalf("%v may become %v by some of %v", c, v, l)
		}
	}
	chosen(func(i int) bool { return l[i] > 0 })
	chosen(func(i int) bool { return l[i] < 0 })
	if len(l) <= 6 {
		for choice := range 1 << len(l) {
			chosen(func(i int) bool { return choice>>i&1 == 1 })
		}
	}
}

// add adds, or shows that what is refused could leave the bounds, or be more than an int tells.
func (w world) add(t *testing.T, tx, counter, by int) (world, api.Errno) {
	t.Helper()
	l, e := adds(t, w.t, w.x, tx, counter, by)
	switch e {
	case api.OK:
		w.t = l
		if by != 0 {
			w.pieces = append(slices.Clip(w.pieces), piece{counter, tx, by})
		}
	case api.ErrBounds:
		w.rightly(t, counter, by)
	}
	return w, e
}

func (w world) rightly(t *testing.T, counter, by int) {
	t.Helper()
	up, down := exact(max(by, 0)), exact(min(by, 0))
	for _, p := range w.pieces {
		if p.counter == counter {
			up.Add(up, exact(max(p.by, 0)))
			down.Add(down, exact(min(p.by, 0)))
		}
	}
	c := w.t.C[counter]
	hi, lo := new(big.Int).Add(exact(c.Value), up), new(big.Int).Add(exact(c.Value), down)
	if up.IsInt64() && down.IsInt64() && hi.Cmp(exact(c.Hi)) <= 0 && lo.Cmp(exact(c.Lo)) >= 0 {
		t.Fatalf("%d to %d of %v is refused", by, counter, w.t)
	}
}

// see: what one sees is the Value with all that is pending, which is all its own, or had by what it stands in.
func (w world) see(t *testing.T, tx, counter int) api.Errno {
	t.Helper()
	got, e := sees(t, w.t, w.x, tx, counter)
	if e != api.OK {
		return e
	}
	in, v := stands(w.x, tx), exact(w.values[counter])
	for _, p := range w.pieces {
		if p.counter == counter && !in[p.tx] {
			t.Fatalf("%d sees %d of %v", tx, counter, w.t)
		}
		if p.counter == counter {
			v.Add(v, exact(p.by))
		}
	}
	if v.Cmp(exact(got)) != 0 {
		t.Fatalf("%d sees %d of %v as %d, want %v", tx, counter, w.t, got, v)
	}
	return e
}

// pass lets a parent have what one has, or none.
func (w world) pass(t *testing.T, tx, parent int) world {
	t.Helper()
	w.t = passes(t, w.t, tx, parent)
	w.values = slices.Clone(w.values)
	var rest []piece
	for _, p := range w.pieces {
		switch {
		case p.tx != tx:
			rest = append(rest, p)
		case parent < 0:
			w.values[p.counter] += p.by
		default:
			rest = append(rest, piece{p.counter, parent, p.by})
		}
	}
	w.pieces = rest
	return w
}

func (w world) free(t *testing.T, l ...int) world {
	t.Helper()
	w.t = frees(t, w.t, l...)
	w.pieces = slices.DeleteFunc(slices.Clone(w.pieces), func(p piece) bool { return slices.Contains(l, p.tx) })
	return w
}

// commit lets one be done, and its parent have what it has.
func (w world) commit(t *testing.T, id int) (world, api.Errno) {
	t.Helper()
	x, e := tree.Commit(w.x, id)
	if e != api.OK {
		return w, e
	}
	w.x = x
	return w.pass(t, id, x.L[id].Parent), api.OK
}

// abort undoes one, and all in it, and frees what they have.
func (w world) abort(t *testing.T, id int) (world, api.Errno) {
	t.Helper()
	x, gone, e := tree.Abort(w.x, id)
	if e != api.OK {
		return w, e
	}
	w.x = x
	return w.free(t, gone...), api.OK
}

// finish lets all that are Live end in each way that there is, those in others first: nothing is pending then.
func (w world) finish(t *testing.T) int {
	t.Helper()
	w.holds(t)
	for id, x := range slices.Backward(w.x.L) {
		if x.State != tree.Live {
			continue
		}
		done, e := w.commit(t, id)
		undone, f := w.abort(t, id)
		if e != api.OK || f != api.OK {
			t.Fatalf("%d of %v: %v, %v", id, w.x, e, f)
		}
		return done.finish(t) + undone.finish(t)
	}
	if len(w.t.P) > 0 {
		t.Fatalf("behind all there is %v", w.t)
	}
	return 1
}

// rows goes over all rows of so many steps that have no error, and tells how many there are, and how many adds are refused.
func (w world) rows(t *testing.T, amounts []int, steps int) (int, int) {
	t.Helper()
	w.holds(t)
	if steps == 0 {
		w.finish(t)
		return 1, 0
	}
	n, no := 1, 0
	further := func(next world, e api.Errno) {
		if e == api.OK {
			more, refused := next.rows(t, amounts, steps-1)
			n, no = n+more, no+refused
		}
		if e == api.ErrBounds {
			no++
		}
	}
	for id := range w.x.L {
		for counter := range w.t.C {
			for _, by := range amounts {
				further(w.add(t, id, counter, by))
			}
			w.see(t, id, counter)
		}
		further(w.commit(t, id))
		further(w.abort(t, id))
	}
	return n, no
}

func TestEachRowOfSteps(t *testing.T) {
	for _, c := range []struct {
		parents, amounts []int
		counters         []escrow.Counter
		steps            int
	}{
		{[]int{-1, 0, -1}, []int{2, -3}, []escrow.Counter{counter(0, 5, 3)}, 4},
		{[]int{-1, 0, 1}, []int{3, -2, -3}, []escrow.Counter{counter(-3, 3, 0)}, 3},
		{[]int{-1, 0, 0, -1}, []int{4, -5}, []escrow.Counter{counter(0, 10, 5)}, 3},
		{[]int{-1, 0, -1}, []int{1, -1}, []escrow.Counter{counter(0, 1, 0), counter(0, 2, 1)}, 3},
		{[]int{-1, 0, -1}, []int{most, least, -1}, []escrow.Counter{counter(least, most, 0)}, 3},
		{[]int{-1, 0, -1}, []int{most, 1, -2}, []escrow.Counter{counter(least, most, -9)}, 3},
	} {
		n, no := born(grown(c.parents...), c.counters...).rows(t, c.amounts, c.steps)
		if n < 400 || no < 100 {
			t.Errorf("%v: only %d rows, and %d refused", c.parents, n, no)
		}
	}
}

// pick is one of a tree, most often one of the last ones, or what is none.
func pick(x tree.Tree, b byte) int {
	n := len(x.L)
	switch {
	case b < 4 || n == 0:
		return []int{-1, n, 64, least}[b%4]
	case b < 128:
		return n - 1 - int(b)%min(n, 10)
	}
	return int(b) % n
}

// amount is one of a counter: what is small, what just fits, one more, or what is great.
func amount(l escrow.Table, counter int, b byte) int {
	if b < 128 {
		return int(b%16) - 7
	}
	all := edges(l, counter)
	return all[int(b)%len(all)]
}

// counts are how many steps went on, how many adds were refused, how many had to wait to see.
type counts struct{ done, refused, waited, seen int }

func (c *counts) count(e api.Errno) {
	switch e {
	case api.OK:
		c.done++
	case api.ErrBounds:
		c.refused++
	case api.ErrWait:
		c.waited++
	}
}

// steps goes over a row of steps, of which some have an error. With free passes, anybody's pends are passed to anybody, and freed, at any time.
func steps(t *testing.T, script []byte, freely bool) counts {
	t.Helper()
	var c counts
	w := born(tree.Tree{}, kinds()...)
	for ; len(script) > 3; script = script[4:] {
		id, counter, e := pick(w.x, script[1]), int(script[2]%9), api.OK
		switch script[0] % 16 {
		case 0, 1, 2:
			parent := id
			if script[2]%4 == 0 {
				parent = -1
			}
			x, _, begun := tree.Begin(w.x, parent)
			if e = begun; e == api.OK {
				w.x = x
			} else if e == api.ErrLimit && len(w.x.L) == api.MaxTx {
				w = world{tree.Tree{}, escrow.Free(w.t, numbers(64)), w.values, nil}
			}
		case 3, 4:
			w, e = w.commit(t, id)
		case 5:
			if script[2]%3 == 0 {
				w, e = w.abort(t, id)
			}
		case 6:
			if freely {
				w = w.pass(t, int(script[2]%64), int(script[3]%65)-1)
			}
		case 7:
			if freely && script[3]%4 == 0 {
				w = w.free(t, int(script[2]%64), int(script[1]))
			}
		case 8, 9:
			if e = w.see(t, id, counter); e == api.OK {
				c.seen++
			}
		default:
			w, e = w.add(t, id, counter, amount(w.t, counter, script[3]))
		}
		w.holds(t)
		c.count(e)
	}
	return c
}

// numbers are the first ones from 0 on.
func numbers(n int) []int {
	var l []int
	for i := range n {
		l = append(l, i)
	}
	return l
}

func TestStepsOfAnyKind(t *testing.T) {
	for _, freely := range []bool{false, true} {
		var c counts
		for seed := range uint32(50) {
			one := steps(t, script(seed, 2000), freely)
			c = counts{c.done + one.done, c.refused + one.refused, c.waited + one.waited, c.seen + one.seen}
		}
		if c.done < 5000 || c.refused < 500 || c.waited < 200 || c.seen < 100 {
			t.Errorf("only %v", c)
		}
	}
}

// A long life of some counters: kids add to what their parents add to, and are done or undone.
func TestALongRow(t *testing.T) {
	w := born(tree.Tree{}, counter(-2000, 2000, 0), counter(0, 50, 25))
	want := []int{0, 25}
	for round := range 8 {
		begin := func(parent int) int {
			x, id, e := tree.Begin(w.x, parent)
			if e != api.OK {
				t.Fatal(e)
			}
			w.x = x
			return id
		}
		step := func(next world, e api.Errno) {
			t.Helper()
			if e != api.OK {
				t.Fatal(e)
			}
			w = next
			w.holds(t)
		}
		top := begin(-1)
		step(w.add(t, top, 0, 10))
		step(w.add(t, top, 1, -1))
		for kid := range 4 {
			id := begin(top)
			step(w.add(t, id, 0, 100))
			step(w.add(t, id, 0, -1))
			step(w.add(t, id, 1, 1))
			if w.see(t, id, 0) != api.OK || w.see(t, top, 0) != api.ErrWait {
				t.Fatal("See")
			}
			if kid%2 == 0 {
				step(w.commit(t, id))
			} else {
				step(w.abort(t, id))
			}
		}
		seen(t, w.t, w.x, top, 0, want[0]+208)
		seen(t, w.t, w.x, top, 1, want[1]+1)
		if round%2 == 0 {
			want = []int{want[0] + 208, want[1] + 1}
			step(w.commit(t, top))
		} else {
			step(w.abort(t, top))
		}
		if len(w.t.P) > 0 || w.t.C[0].Value != want[0] || w.t.C[1].Value != want[1] {
			t.Fatalf("behind round %d there is %v, want %v", round, w.t, want)
		}
	}
}

// What is handed in, answered and kept

func TestAddTwiceToOneTable(t *testing.T) {
	l, x := some(), family() // with room behind
	first, _ := escrow.Add(l, x, 6, 4, 1)
	second, _ := escrow.Add(l, x, 8, 4, 2)
	third, _ := escrow.Add(l, x, 0, 0, -1)
	if first.P[8] != pend(4, 6, 1, 0) || second.P[8] != pend(4, 8, 2, 0) || third.P[0] != pend(0, 0, 0, -1) {
		t.Errorf("%v, %v, %v", first, second, third)
	}
	if behind := l.P[len(l.P):cap(l.P)]; behind[0] != (escrow.Pend{}) || !same(l, some()) {
		t.Errorf("%v, and behind the list %v", l, behind)
	}
	if !slices.Equal(first.P[:8], l.P) || !slices.Equal(second.P[:8], l.P) || !slices.Equal(third.P[1:], l.P) {
		t.Errorf("%v, %v, %v of %v", first, second, third, l)
	}
	fourth, _ := escrow.Add(first, x, 7, 4, 3)
	fifth, _ := escrow.Add(first, x, 8, 4, 4)
	if fourth.P[9] != pend(4, 7, 3, 0) || fifth.P[9] != pend(4, 8, 4, 0) {
		t.Errorf("%v, %v", fourth, fifth)
	}
}

// scribble writes over a table, and over the room behind its lists.
func scribble(l escrow.Table) {
	for i := range l.C[:cap(l.C)] {
		l.C[:cap(l.C)][i] = counter(77, 77, 77)
	}
	for i := range l.P[:cap(l.P)] {
		l.P[:cap(l.P)][i] = pend(77, 77, 77, 77)
	}
}

func TestWhatIsAnsweredIsNewMemory(t *testing.T) {
	x := family()
	for _, l := range []escrow.Table{some(), {}, one(counter(0, 10, 5)), one(counter(0, 10, 5), pend(0, 6, 3, -3))} {
		stay := stays(t, "each call", l, x)
		for range 2 {
			for _, tx := range []int{-1, 0, 1, 2, 4, 6, 64} {
				for c := range 5 {
					for _, by := range []int{0, 1, -1} {
						got, _ := adds(t, l, x, tx, c, by)
						scribble(got)
						stay()
					}
				}
				for _, parent := range []int{-1, 0, 1, 2, 4, 6, 64} {
					scribble(passes(t, l, tx, parent))
					stay()
				}
				scribble(frees(t, l, tx))
				scribble(frees(t, l))
				scribble(escrow.Table{P: ofs(t, l, tx)})
				stay()
			}
		}
	}
}

func TestNothingIsKept(t *testing.T) {
	l, x := some(), family()
	added, _ := escrow.Add(l, x, 6, 1, 3)
	asIs, _ := escrow.Add(l, x, 6, 1, 0)
	answers := []escrow.Table{added, asIs, escrow.Pass(l, 1, 0), escrow.Pass(l, 1, -1), escrow.Free(l, []int{1}), {P: escrow.Of(l, 1)}}
	var want []escrow.Table
	for _, got := range answers {
		want = append(want, copied(got))
	}
	scribble(l)
	x.L[6].State, x.L[1].Parent = tree.Undone, 6
	for i, got := range answers {
		if !same(got, want[i]) {
			t.Errorf("%d: %v, want %v", i, got, want[i])
		}
	}
	for range 3 {
		all(t, some(), family())
		all(t, l, x)
	}
}

// The example

func TestTheExample(t *testing.T) {
	x := row(3)
	l := added(t, one(counter(0, 10, 5)), x, 0, 0, 4, pend(0, 0, 4, 0))
	l = added(t, l, x, 1, 0, -5, pend(0, 0, 4, 0), pend(0, 1, 0, -5))
	refused(t, l, x, 2, 0, 2, api.ErrBounds)
	refused(t, l, x, 2, 0, -1, api.ErrBounds)
	added(t, l, x, 2, 0, 1, pend(0, 0, 4, 0), pend(0, 1, 0, -5), pend(0, 2, 1, 0))
	if far := reaches(t, l, 0); far != (span.Span{Lo: 0, Hi: 9}) {
		t.Errorf("%v", far)
	}
	w := born(x, counter(0, 10, 5))
	for id, by := range []int{4, -5} {
		next, e := w.add(t, id, 0, by)
		if e != api.OK {
			t.Fatal(e)
		}
		w = next
	}
	if n := w.finish(t); n != 8 {
		t.Errorf("%d ends", n)
	}
}

func ExampleAdd() {
	x, one, _ := tree.Begin(tree.Tree{}, -1)
	x, two, _ := tree.Begin(x, -1)
	x, three, _ := tree.Begin(x, -1)
	t := escrow.Table{C: []escrow.Counter{{Lo: 0, Hi: 10, Value: 5}}}
	t, _ = escrow.Add(t, x, one, 0, 4)
	t, _ = escrow.Add(t, x, two, 0, -5)
	_, more := escrow.Add(t, x, three, 0, 2)
	_, less := escrow.Add(t, x, three, 0, -1)
	fmt.Println(escrow.Reach(t, 0), more == api.ErrBounds, less == api.ErrBounds)
	// Output: {0 9} true true
}

// P1

func FuzzTable(f *testing.F) {
	f.Add([]byte{}, []byte{})
	for seed := range uint32(20) {
		f.Add(script(seed, int(seed*3)), script(seed+100, int(seed)))
	}
	f.Fuzz(func(t *testing.T, b, c []byte) {
		all(t, anyTable(b[:min(len(b), 60)]), anyTree(c[:min(len(c), 30)]))
	})
}

func FuzzNumbers(f *testing.F) {
	f.Add(0, 10, 5, 0, 1, 4, -5, 2, 0, 1, -1)
	f.Add(least, most, 0, 0, 5, most, least, 5, 0, most, least)
	f.Add(least, most, -1, 0, 0, most, 0, 1, 0, 1, 2)
	f.Add(most, least, most, most, least, most, least, most, least, most, least)
	f.Fuzz(func(t *testing.T, lo, hi, value, of, tx, up, down, asker, asked, by, parent int) {
		c, p := counter(lo, hi, value), pend(of, tx, up, down)
		x := family()
		for _, l := range []escrow.Table{one(c, p), one(c, p, pend(0, 63, 1, -1)), table([]escrow.Counter{c, c}, p, pend(1, 2, up, down)), one(c, p, p), one(c)} {
			sane(t, l, plainSane(l))
			adds(t, l, x, asker, asked, by)
			adds(t, l, x, asker&7, asked&1, by)
			sees(t, l, x, asker, asked)
			sees(t, l, x, asker&7, asked&1)
			for _, id := range []int{asker, tx} {
				passes(t, l, id, parent)
				passes(t, l, id, parent&63)
				frees(t, l, id, parent)
				ofs(t, l, id)
			}
			reaches(t, l, asked)
			reaches(t, l, of)
		}
	})
}

func FuzzSteps(f *testing.F) {
	for seed := range uint32(20) {
		f.Add(script(seed+1000, 300), seed%2 == 0)
	}
	f.Fuzz(func(t *testing.T, b []byte, freely bool) { steps(t, b[:min(len(b), 1500)], freely) })
}
