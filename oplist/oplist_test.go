package oplist_test

import (
	"fmt"
	"math"
	"math/big"
	"slices"
	"testing"

	"heronry/api"
	"heronry/oplist"
	"heronry/tree"
)

const (
	least = math.MinInt
	most  = math.MaxInt
)

// none are numbers of no transaction and of no counter.
var none = []int{-1, -2, -64, 64, 65, 128, least, least + 1, most, most - 1, 1 << 32, 1<<32 + 1}

// did is an entry that adds.
func did(tx, counter, by int) oplist.Entry {
	return oplist.Entry{Tx: tx, Counter: counter, By: by}
}

// back is an entry with Undo, by what it has itself: it undoes one of -by.
func back(tx, counter, by int) oplist.Entry {
	return oplist.Entry{Tx: tx, Counter: counter, By: by, Undo: true}
}

// behind is what stands in the room behind a list: it is looked at again.
func behind() []oplist.Entry {
	return []oplist.Entry{did(5, 5, 50), back(5, 5, -50), did(6, 6, 60), did(7, 7, 70)}
}

// list is entries, with room behind them.
func list(l ...oplist.Entry) oplist.List {
	return oplist.List{L: slices.Concat(l, behind())[:len(l)]}
}

// some is a list that may be: several of one transaction and of one counter, some of them undone, some the same ones.
func some() oplist.List {
	return list(
		did(1, 0, 5), did(1, 0, 3), did(4, 0, 5), did(0, 2, -7),
		did(1, 0, 5), back(1, 0, -5), did(6, 1, 0), did(4, 2, 8), back(4, 0, -5),
		did(1, 63, most), did(63, 2, least+1), did(0, 2, -7), did(4, 0, 9),
	)
}

// repeated is as many entries of one kind.
func repeated(e oplist.Entry, n int) []oplist.Entry {
	return slices.Repeat([]oplist.Entry{e}, n)
}

// filled is a list of so many pairs, each an entry and what undoes it, and so many that are open.
func filled(pairs, open int) oplist.List {
	var l []oplist.Entry
	for n := range pairs {
		l = append(l, did(n%64, n%7, n), back(n%64, n%7, -n))
	}
	for n := range open {
		l = append(l, did(n%64, n%5, n-3))
	}
	return list(l...)
}

// grown is a tree of Live ones, by their parents.
func grown(parents ...int) tree.Tree {
	x := tree.Tree{Clock: len(parents)}
	for id, parent := range parents {
		x.L = append(x.L, tree.Tx{Parent: parent, State: tree.Live, Began: id + 1})
	}
	return x
}

// row is as many top ones.
func row(n int) tree.Tree { return grown(slices.Repeat([]int{-1}, n)...) }

// chain is as many, each in the one before.
func chain(n int) tree.Tree { return grown(numbers(-1, n)...) }

// numbers are as many, from one on.
func numbers(from, many int) []int {
	l := make([]int, many)
	for i := range l {
		l[i] = from + i
	}
	return l
}

// family is a tree of three top ones, which are 0, 6 and 8: 1 and 4 are in 0, 2 and 3 in 1, 5 is in 4, 7 is in 6.
func family() tree.Tree { return grown(-1, 0, 1, 1, 0, 4, -1, 6, -1) }

// plainSettled goes back from each entry with Undo to what it undoes.
func plainSettled(l []oplist.Entry) (open []bool, each bool) {
	open, each = make([]bool, len(l)), true
	for at, e := range l {
		if !e.Undo {
			open[at] = true
			continue
		}
		found := false
		for ahead := at - 1; ahead >= 0 && !found; ahead-- {
			is := l[ahead]
			if open[ahead] && is.Tx == e.Tx && is.Counter == e.Counter && new(big.Int).Add(exact(is.By), exact(e.By)).Sign() == 0 {
				open[ahead], found = false, true
			}
		}
		each = each && found
	}
	return open, each
}

// exact is a number that may be as great as it likes.
func exact(n int) *big.Int { return big.NewInt(int64(n)) }

func plainMay(e oplist.Entry) bool {
	return 0 <= e.Tx && e.Tx <= 63 && 0 <= e.Counter && e.Counter <= 63 && e.By != least
}

// room is how many places entries take, with what is to undo them.
func room(l []oplist.Entry) int {
	n := len(l)
	open, _ := plainSettled(l)
	for _, is := range open {
		if is {
			n++
		}
	}
	return n
}

func plainSane(l oplist.List) bool {
	if len(l.L) > 256 {
		return false
	}
	_, each := plainSettled(l.L)
	return each && room(l.L) <= 256 && !slices.ContainsFunc(l.L, func(e oplist.Entry) bool { return !plainMay(e) })
}

// plainOpen are the open entries of those that are asked for, in order.
func plainOpen(l oplist.List, of func(tx int) bool) []oplist.Entry {
	var some []oplist.Entry
	open, _ := plainSettled(l.L)
	for at, e := range l.L {
		if open[at] && of(e.Tx) {
			some = append(some, e)
		}
	}
	return some
}

func plainDo(l oplist.List, tx, counter, by int) (oplist.List, api.Errno) {
	switch {
	case !plainSane(l), !plainMay(did(tx, counter, by)):
		return oplist.List{}, api.ErrArg
	case room(l.L)+2 > 256:
		return oplist.List{}, api.ErrLimit
	}
	return oplist.List{L: slices.Concat(l.L, []oplist.Entry{did(tx, counter, by)})}, api.OK
}

// plainUndo undoes one by one, from the last one on.
func plainUndo(l oplist.List, txs []int) oplist.List {
	all := slices.Clone(l.L)
	open := plainOpen(l, func(tx int) bool { return slices.Contains(txs, tx) })
	for n := len(open) - 1; n >= 0; n-- {
		all = append(all, back(open[n].Tx, open[n].Counter, -open[n].By))
	}
	return oplist.List{L: all}
}

func plainNet(l oplist.List, counter int) (int, api.Errno) {
	sum := new(big.Int)
	for _, e := range l.L {
		if e.Counter == counter {
			sum.Add(sum, exact(e.By))
		}
	}
	if !sum.IsInt64() {
		return 0, api.ErrOver
	}
	return int(sum.Int64()), api.OK
}

// stands is what one stands in. Parents may go round: none is told again.
func stands(x tree.Tree, id int) map[int]bool {
	in := map[int]bool{}
	for id >= 0 && id < len(x.L) && !in[id] {
		in[id] = true
		id = x.L[id].Parent
	}
	return in
}

func plainOps(l oplist.List, x tree.Tree, top int) []api.Op {
	in := map[int]bool{}
	for _, e := range l.L {
		if _, known := in[e.Tx]; !known {
			in[e.Tx] = stands(x, e.Tx)[top]
		}
	}
	var ops []api.Op
	for _, e := range plainOpen(l, func(tx int) bool { return in[tx] }) {
		ops = append(ops, api.Op{Counter: e.Counter, By: e.By})
	}
	return ops
}

// whole is a list with the room behind it.
func whole[T any](l []T) []T { return l[:cap(l)] }

// stays lets what was handed in be held against what it was, with what stands in the room behind the lists.
func stays(t *testing.T, call string, l oplist.List, x tree.Tree, txs []int) func() {
	was, tree, ids := slices.Clone(whole(l.L)), slices.Clone(whole(x.L)), slices.Clone(whole(txs))
	return func() {
		t.Helper()
		if !slices.Equal(whole(l.L), was[:cap(l.L)]) || !slices.Equal(whole(x.L), tree[:cap(x.L)]) || !slices.Equal(whole(txs), ids[:cap(txs)]) {
			t.Fatalf("%s of %v, %v and %v left %v, %v and %v behind", call, was, tree, ids, whole(l.L), whole(x.L), whole(txs))
		}
	}
}

// spoiled writes over a list and the room behind it, and tells what it was. What was handed in stays.
func spoiled(got []oplist.Entry, stay func()) []oplist.Entry {
	kept := slices.Clone(got)
	for i := range whole(got) {
		whole(got)[i] = back(77, 77, 77)
	}
	stay()
	return kept
}

// sane holds Sane against what is known, and the plain one too.
func sane(t *testing.T, l oplist.List, want bool) {
	t.Helper()
	stay := stays(t, "Sane", l, tree.Tree{}, nil)
	if got := oplist.Sane(l); got != want {
		t.Errorf("Sane(%v) = %v, want %v", l, got, want)
	}
	stay()
	if got := plainSane(l); got != want {
		t.Errorf("the plain Sane(%v) = %v, want %v", l, got, want)
	}
}

// does holds Do against the plain one. With an error the list is the zero one.
func does(t *testing.T, l oplist.List, tx, counter, by int) (oplist.List, api.Errno) {
	t.Helper()
	stay := stays(t, "Do", l, tree.Tree{}, nil)
	got, e := oplist.Do(l, tx, counter, by)
	stay()
	if want, wantErr := plainDo(l, tx, counter, by); !slices.Equal(got.L, want.L) || e != wantErr {
		t.Fatalf("Do(%v, %d, %d, %d) = %v, %v, want %v, %v", l, tx, counter, by, got, e, want, wantErr)
	}
	if e != api.OK {
		if got.L != nil {
			t.Fatalf("Do(%v, %d, %d, %d): %v beside %v", l, tx, counter, by, got, e)
		}
		return got, e
	}
	return oplist.List{L: spoiled(got.L, stay)}, e
}

// undoes holds Undo against the plain one, where the list is Sane.
func undoes(t *testing.T, l oplist.List, txs ...int) oplist.List {
	t.Helper()
	stay := stays(t, "Undo", l, tree.Tree{}, txs)
	got := oplist.Undo(l, txs)
	stay()
	if plainSane(l) && !slices.Equal(got.L, plainUndo(l, txs).L) {
		t.Fatalf("Undo(%v, %v) = %v, want %v", l, txs, got, plainUndo(l, txs))
	}
	return oplist.List{L: spoiled(got.L, stay)}
}

func opens(t *testing.T, l oplist.List, tx int) []oplist.Entry {
	t.Helper()
	stay := stays(t, "Open", l, tree.Tree{}, nil)
	got := oplist.Open(l, tx)
	stay()
	if want := plainOpen(l, func(of int) bool { return of == tx }); plainSane(l) && !slices.Equal(got, want) {
		t.Fatalf("Open(%v, %d) = %v, want %v", l, tx, got, want)
	}
	return spoiled(got, stay)
}

func nets(t *testing.T, l oplist.List, counter int) (int, api.Errno) {
	t.Helper()
	stay := stays(t, "Net", l, tree.Tree{}, nil)
	got, e := oplist.Net(l, counter)
	stay()
	if want, wantErr := plainNet(l, counter); plainSane(l) && (got != want || e != wantErr) {
		t.Fatalf("Net(%v, %d) = %d, %v, want %d, %v", l, counter, got, e, want, wantErr)
	}
	return got, e
}

func tells(t *testing.T, l oplist.List, x tree.Tree, top int) []api.Op {
	t.Helper()
	stay := stays(t, "Ops", l, x, nil)
	got := oplist.Ops(l, x, top)
	stay()
	if want := plainOps(l, x, top); plainSane(l) && !slices.Equal(got, want) {
		t.Fatalf("Ops(%v, %v, %d) = %v, want %v", l, x, top, got, want)
	}
	kept := slices.Clone(got)
	clear(whole(got))
	stay()
	return kept
}

// around are numbers of a list or a tree, and some that are none.
func around(of []int) []int {
	l := append([]int{-1, 0, 63, 64, least, most}, of...)
	slices.Sort(l)
	return slices.Compact(l)
}

// all lets each call be held against the plain one, at what the list and the tree have and at what they don't.
func all(t *testing.T, l oplist.List, x tree.Tree) {
	t.Helper()
	sane(t, l, plainSane(l))
	var txs, counters, amounts []int
	for _, e := range l.L {
		txs, counters, amounts = append(txs, e.Tx), append(counters, e.Counter), append(amounts, e.By)
	}
	for id := range x.L {
		txs = append(txs, id)
	}
	txs, counters, amounts = around(txs), around(counters), around(amounts)
	for i, tx := range txs {
		for j, counter := range counters {
			does(t, l, tx, counter, amounts[(i+j)%len(amounts)])
		}
		opens(t, l, tx)
		undoes(t, l, tx)
		undoes(t, l, txs[i:]...)
		tells(t, l, x, tx)
	}
	for _, counter := range counters {
		nets(t, l, counter)
	}
	for _, by := range amounts {
		does(t, l, 1, 0, by)
	}
	undoes(t, l)
}

// P15.1

func TestSaneOfNone(t *testing.T) {
	sane(t, oplist.List{}, true)
	sane(t, oplist.List{L: []oplist.Entry{}}, true)
	sane(t, list(), true)
	sane(t, list(oplist.Entry{}), true)
	sane(t, list(oplist.Entry{Undo: true}), false)
	sane(t, some(), true)
}

// amid are lists with an entry, and with what undoes it, at each place.
func amid(e, undo oplist.Entry) []oplist.List {
	l := []oplist.List{list(e), list(e, undo), list(e, e), list(e, undo, e, undo), list(e, e, undo, undo)}
	for at := range len(some().L) + 1 {
		l = append(l, list(slices.Insert(some().L, at, e)...), list(slices.Insert(some().L, at, e, undo)...))
	}
	return l
}

func TestSaneOfEachTx(t *testing.T) {
	for _, tx := range append([]int{0, 1, 2, 31, 32, 62, 63}, none...) {
		for _, l := range amid(did(tx, 7, 5), back(tx, 7, -5)) {
			sane(t, l, tx >= 0 && tx <= 63)
		}
	}
}

func TestSaneOfEachCounter(t *testing.T) {
	for _, counter := range append([]int{0, 1, 2, 31, 32, 62, 63}, none...) {
		for _, l := range amid(did(7, counter, 5), back(7, counter, -5)) {
			sane(t, l, counter >= 0 && counter <= 63)
		}
	}
}

func TestSaneOfEachBy(t *testing.T) {
	for _, by := range []int{least, least + 1, least + 2, -1 << 32, -2, -1, 0, 1, 2, 1 << 32, most - 1, most} {
		for _, l := range amid(did(7, 8, by), back(7, 8, -by)) {
			sane(t, l, by != least)
		}
	}
	sane(t, list(did(0, 0, most), back(0, 0, least+1)), true)
	sane(t, list(did(0, 0, least+1), back(0, 0, most)), true)
	sane(t, list(did(0, 0, least), back(0, 0, least)), false) // -By goes round to itself
	sane(t, list(did(0, 0, most), back(0, 0, least)), false)
	sane(t, list(back(0, 0, least)), false)
}

func TestSaneOfAnUndo(t *testing.T) {
	for _, c := range []struct {
		told string
		l    oplist.List
		want bool
	}{
		{"one", list(did(1, 2, 3), back(1, 2, -3)), true},
		{"one of less than 0", list(did(1, 2, -3), back(1, 2, 3)), true},
		{"one of 0", list(did(1, 2, 0), back(1, 2, 0)), true},
		{"one farther ahead", list(did(1, 2, 3), did(1, 2, 4), did(2, 2, 3), did(1, 1, 3), back(1, 2, -3)), true},
		{"none ahead", list(back(1, 2, -3)), false},
		{"none of 0 ahead", list(back(0, 0, 0)), false},
		{"another transaction's", list(did(2, 2, 3), back(1, 2, -3)), false},
		{"another counter's", list(did(1, 1, 3), back(1, 2, -3)), false},
		{"a transaction's and a counter's that changed places", list(did(2, 1, 3), back(1, 2, -3)), false},
		{"another number", list(did(1, 2, 4), back(1, 2, -3)), false},
		{"0", list(did(1, 2, 0), back(1, 2, -3)), false},
		{"by 0", list(did(1, 2, 3), back(1, 2, 0)), false},
		{"the number itself", list(did(1, 2, 3), back(1, 2, 3)), false},
		{"the number itself, below 0", list(did(1, 2, -3), back(1, 2, -3)), false},
		{"a sum of two", list(did(1, 2, 1), did(1, 2, 2), back(1, 2, -3)), false},
		{"one that is undone", list(did(1, 2, 3), back(1, 2, -3), back(1, 2, -3)), false},
		{"one of 0 that is undone", list(did(1, 2, 0), back(1, 2, 0), back(1, 2, 0)), false},
		{"one with Undo", list(did(1, 2, 3), back(1, 2, -3), back(1, 2, 3)), false},
		{"one with Undo by 0", list(back(1, 2, 0), back(1, 2, 0)), false},
		{"one behind it", list(back(1, 2, -3), did(1, 2, 3)), false},
		{"one behind it, and one ahead that is undone", list(did(1, 2, 3), back(1, 2, -3), back(1, 2, -3), did(1, 2, 3)), false},
		{"two", list(did(1, 2, 3), did(1, 2, 3), back(1, 2, -3), back(1, 2, -3)), true},
		{"two, and no third one", list(did(1, 2, 3), did(1, 2, 3), back(1, 2, -3), back(1, 2, -3), back(1, 2, -3)), false},
		{"one of two", list(did(1, 2, 3), did(1, 2, 3), back(1, 2, -3)), true},
		{"one, then one more", list(did(1, 2, 3), back(1, 2, -3), did(1, 2, 3), back(1, 2, -3)), true},
		{"one of each sign", list(did(1, 2, 3), did(1, 2, -3), back(1, 2, -3), back(1, 2, 3)), true},
		{"one, and its like of another sign that stays", list(did(1, 2, 3), did(1, 2, -3), back(1, 2, 3)), true},
		{"one of one sign, twice", list(did(1, 2, 3), did(1, 2, -3), back(1, 2, 3), back(1, 2, 3)), false},
		{"the ones of two, crosswise", list(did(1, 2, 3), did(4, 5, 6), back(1, 2, -3), back(4, 5, -6)), true},
		{"what two did alike", list(did(1, 2, 3), did(4, 2, 3), back(1, 2, -3), back(4, 2, -3)), true},
	} {
		if got := oplist.Sane(c.l); got != c.want {
			t.Errorf("an Undo of %s: %v", c.told, got)
		}
		sane(t, c.l, c.want)
		sane(t, list(slices.Concat(some().L, c.l.L)...), c.want)
		sane(t, list(slices.Concat(c.l.L, some().L)...), c.want)
	}
}

// Many of one kind, and as many with Undo in each order of up to eight: there are never more of these than of those ahead of them.
func TestSaneOfOneKindInEachOrder(t *testing.T) {
	for n := range 9 {
		for order := range 1 << n {
			var l []oplist.Entry
			open, want := 0, true
			for at := range n {
				if order>>at&1 == 0 {
					l = append(l, did(3, 4, 5))
					open++
				} else {
					l = append(l, back(3, 4, -5))
					open--
				}
				want = want && open >= 0
			}
			sane(t, list(l...), want)
		}
	}
}

func TestSaneOfMany(t *testing.T) {
	for open := range 131 {
		for _, pairs := range []int{0, 1, 2, 63, 64, 127 - open, 128 - open, 129 - open, 130 - open} {
			if pairs >= 0 {
				sane(t, filled(pairs, open), open+pairs <= 128)
			}
		}
	}
	sane(t, list(repeated(did(1, 2, 3), 128)...), true) // of one kind, 256 with what is to undo them
	sane(t, list(repeated(did(1, 2, 3), 129)...), false)
	sane(t, list(slices.Concat(repeated(did(1, 2, 3), 128), repeated(back(1, 2, -3), 127))...), true)
	sane(t, list(slices.Concat(repeated(did(1, 2, 3), 128), repeated(back(1, 2, -3), 128))...), true)
	sane(t, list(slices.Concat(repeated(did(1, 2, 3), 128), repeated(back(1, 2, -3), 129))...), false)
	sane(t, list(slices.Concat(repeated(did(1, 2, 3), 129), repeated(back(1, 2, -3), 129))...), false)
	sane(t, list(slices.Concat(filled(128, 0).L, repeated(back(1, 2, -3), 1))...), false) // 257: where each Undo undoes one, it is an even number
	sane(t, list(slices.Concat(filled(127, 0).L, repeated(did(1, 2, 3), 1))...), true)
	sane(t, list(slices.Concat(filled(128, 0).L, repeated(did(1, 2, 3), 1))...), false)
	sane(t, list(filled(200, 200).L[:300]...), false)
}

// Wherever in a list that is as long as may be an entry becomes another one, it is looked at.
func TestSaneOfEachPlace(t *testing.T) {
	for _, l := range []oplist.List{filled(128, 0), filled(64, 64), filled(0, 128), filled(30, 50)} {
		for at, is := range l.L {
			for _, e := range []oplist.Entry{
				did(-1, is.Counter, is.By), did(64, is.Counter, is.By), did(is.Tx, -1, is.By), did(is.Tx, 64, is.By), did(is.Tx, is.Counter, least),
				back(is.Tx, 63, is.By), back(is.Tx, is.Counter, 1<<40), back(is.Tx, is.Counter, least),
			} {
				l.L[at] = e
				sane(t, l, false)
			}
			l.L[at] = is
		}
		sane(t, l, true)
	}
}

// P15.2

// done holds Do against what is known: one more behind those that there are.
func done(t *testing.T, l oplist.List, tx, counter, by int) oplist.List {
	t.Helper()
	got, e := does(t, l, tx, counter, by)
	if e != api.OK || !slices.Equal(got.L, append(slices.Clip(l.L), did(tx, counter, by))) {
		t.Fatalf("Do(%v, %d, %d, %d) = %v, %v", l, tx, counter, by, got, e)
	}
	sane(t, got, true)
	return got
}

// refused holds an error of Do against what is known; the list beside it is the zero one.
func refused(t *testing.T, l oplist.List, tx, counter, by int, want api.Errno) {
	t.Helper()
	if got, e := does(t, l, tx, counter, by); e != want || got.L != nil {
		t.Errorf("Do(%v, %d, %d, %d) = %v, %v, want %v", l, tx, counter, by, got, e, want)
	}
}

func TestDo(t *testing.T) {
	for _, l := range []oplist.List{{}, {L: []oplist.Entry{}}, some(), filled(3, 4), list(did(1, 2, 3), back(1, 2, -3))} {
		for _, tx := range []int{0, 1, 31, 62, 63} {
			for _, counter := range []int{0, 1, 31, 62, 63} {
				for _, by := range []int{least + 1, -3, -1, 0, 1, 3, most} {
					done(t, l, tx, counter, by)
				}
			}
		}
	}
	l := done(t, oplist.List{}, 1, 0, 5)
	l = done(t, l, 1, 0, 5)  // the same once more
	l = done(t, l, 1, 0, -5) // this undoes nothing: it has no Undo
	if got := opens(t, l, 1); !slices.Equal(got, []oplist.Entry{did(1, 0, 5), did(1, 0, 5), did(1, 0, -5)}) {
		t.Errorf("%v", got)
	}
}

func TestDoOfWhatMayNotBe(t *testing.T) {
	for _, l := range []oplist.List{{}, some(), filled(0, 127)} {
		for _, n := range none {
			refused(t, l, n, 0, 1, api.ErrArg)
			refused(t, l, 0, n, 1, api.ErrArg)
			refused(t, l, n, n, 1, api.ErrArg)
		}
		refused(t, l, 0, 0, least, api.ErrArg)
		refused(t, l, 63, 63, least, api.ErrArg)
		refused(t, l, -1, -1, least, api.ErrArg)
		done(t, l, 0, 0, least+1)
		done(t, l, 63, 63, most)
	}
}

// strange are lists that are not Sane.
func strange() []oplist.List {
	bad := []oplist.List{
		list(oplist.Entry{Undo: true}), list(back(1, 0, -5)), list(back(1, 0, -5), did(1, 0, 5)),
		list(did(1, 0, 5), back(1, 0, -5), back(1, 0, -5)), list(did(1, 0, 5), back(1, 0, 5)),
		list(did(1, 0, 5), back(2, 0, -5)), list(did(1, 0, 5), back(1, 1, -5)), list(did(1, 0, 5), back(1, 0, -4)),
		list(did(1, 0, least)), list(did(1, 0, least), back(1, 0, least)), list(did(1, 0, least), did(1, 0, least), did(1, 0, -1)),
		list(did(1, 0, most), did(1, 0, most), back(1, 0, least)),
		filled(0, 129), filled(129, 0), filled(100, 100), filled(500, 500), list(repeated(back(0, 0, 0), 300)...),
		list(repeated(did(0, 0, most), 4096)...), list(repeated(did(0, 0, most), 4097)...), list(repeated(did(0, 0, 1), 5000)...),
		list(slices.Concat(some().L, []oplist.Entry{back(1, 0, 7)}, some().L)...),
	}
	for _, n := range none {
		bad = append(bad, list(did(n, 0, 5)), list(did(0, n, 5)), list(did(n, n, n)), list(did(n, 0, 5), back(n, 0, -5), did(0, n, 5)),
			list(append(some().L, did(n, 1, 2), did(1, n, 2))...))
	}
	return bad
}

func TestDoOfListsThatAreNotSane(t *testing.T) {
	for _, l := range strange() {
		sane(t, l, false)
		for _, by := range []int{0, 5, -5, least, most} {
			refused(t, l, 1, 0, by, api.ErrArg)
			refused(t, l, 64, 0, by, api.ErrArg)
			refused(t, l, 0, -1, by, api.ErrArg)
		}
	}
}

// One more needs room for what undoes it, too.
func TestDoUntilAllIsFull(t *testing.T) {
	for pairs := range 129 {
		l := filled(pairs, max(0, 127-pairs))
		if pairs < 128 {
			sane(t, done(t, l, 1, 2, 3), true)
			l = done(t, l, 63, 63, 0)
		}
		if room(l.L) != 256 {
			t.Fatalf("%d pairs: %d", pairs, room(l.L))
		}
		for _, by := range []int{0, 1, -1, most, least + 1} {
			refused(t, l, 0, 0, by, api.ErrLimit)
			refused(t, l, 63, 63, by, api.ErrLimit)
		}
	}
	l, n := oplist.List{}, 0
	for e := api.OK; e == api.OK; n++ {
		var more oplist.List
		if more, e = does(t, l, n%64, n%3, n); e == api.OK {
			l = more
		}
	}
	if n != 129 || len(l.L) != 128 {
		t.Errorf("%d were done, and there are %d", n-1, len(l.L))
	}
	l = undoes(t, l, numbers(0, 64)...)
	refused(t, l, 0, 0, 1, api.ErrLimit) // what is undone stays, and takes room
	if len(l.L) != 256 {
		t.Errorf("there are %d", len(l.L))
	}
}

// Each of what is wrong by itself, and all of them together: what comes first is told.
func TestWhichErrorComesFirst(t *testing.T) {
	for wrong := range 1 << 5 {
		is := func(bit int) bool { return wrong>>bit&1 == 1 }
		l, tx, counter, by, want := filled(60, 60), 1, 2, 3, api.OK
		if is(0) {
			l, want = filled(60, 68), api.ErrLimit
		}
		if is(1) {
			by, want = least, api.ErrArg
		}
		if is(2) {
			counter, want = 64, api.ErrArg
		}
		if is(3) {
			tx, want = -1, api.ErrArg
		}
		if is(4) {
			l.L[0].Counter, want = 63, api.ErrArg
		}
		got, e := does(t, l, tx, counter, by)
		if e != want || (e != api.OK) != (got.L == nil) {
			t.Errorf("%05b: %v, %v, want %v", wrong, got, e, want)
		}
	}
}

// P15.3

// gone holds Undo against what is known: what comes behind those that there are.
func gone(t *testing.T, l oplist.List, txs []int, want ...oplist.Entry) oplist.List {
	t.Helper()
	got := undoes(t, l, txs...)
	if !slices.Equal(got.L, slices.Concat(l.L, want)) {
		t.Errorf("Undo(%v, %v) = %v, want %v behind", l, txs, got, want)
	}
	sane(t, got, true)
	return got
}

func TestUndoOfNone(t *testing.T) {
	for _, l := range []oplist.List{{}, {L: []oplist.Entry{}}, some(), filled(64, 64), filled(128, 0)} {
		gone(t, l, nil)
		gone(t, l, []int{})
		gone(t, l, none)
		for _, n := range none {
			gone(t, l, []int{n})
		}
	}
	gone(t, oplist.List{}, numbers(0, 64))
	gone(t, some(), []int{2, 3, 5, 62}) // these did nothing
	gone(t, list(did(1, 2, 3), back(1, 2, -3)), []int{1})
	gone(t, filled(128, 0), numbers(-10, 100))
}

func TestUndo(t *testing.T) {
	gone(t, some(), []int{1}, back(1, 63, -most), back(1, 0, -3), back(1, 0, -5))
	gone(t, some(), []int{4}, back(4, 0, -9), back(4, 2, -8))
	gone(t, some(), []int{0}, back(0, 2, 7), back(0, 2, 7))
	gone(t, some(), []int{6}, back(6, 1, 0))
	gone(t, some(), []int{63}, back(63, 2, most))
	for _, txs := range [][]int{{1, 4}, {4, 1}, {1, 1, 4, 4}, {4, 1, 4}, {1, -1, 4, 64, most}, {1, 2, 3, 4, 5}} {
		gone(t, some(), txs, back(4, 0, -9), back(1, 63, -most), back(4, 2, -8), back(1, 0, -3), back(1, 0, -5))
	}
	gone(t, some(), []int{0, 63, 6}, back(0, 2, 7), back(63, 2, most), back(6, 1, 0), back(0, 2, 7))
	all := []oplist.Entry{
		back(4, 0, -9), back(0, 2, 7), back(63, 2, most), back(1, 63, -most), back(4, 2, -8),
		back(6, 1, 0), back(0, 2, 7), back(1, 0, -3), back(1, 0, -5),
	}
	gone(t, some(), numbers(0, 64), all...)
	gone(t, some(), numbers(-100, 300), all...)
	gone(t, some(), []int{6, 63, 4, 1, 0}, all...)
}

// What is undone is not undone again, and what is done behind it is.
func TestUndoAgain(t *testing.T) {
	l := gone(t, some(), []int{1}, back(1, 63, -most), back(1, 0, -3), back(1, 0, -5))
	l = gone(t, l, []int{1})
	l = gone(t, l, []int{1, 4}, back(4, 0, -9), back(4, 2, -8))
	l = gone(t, l, []int{4, 1})
	l = done(t, l, 1, 0, 3)
	l = done(t, l, 4, 0, 9)
	l = done(t, l, 1, 0, -3)
	l = gone(t, l, []int{1}, back(1, 0, 3), back(1, 0, -3))
	l = gone(t, l, []int{4}, back(4, 0, -9))
	l = gone(t, l, numbers(0, 64), back(0, 2, 7), back(63, 2, most), back(6, 1, 0), back(0, 2, 7))
	gone(t, l, numbers(0, 64))
}

// Of several that are the same the last one is undone: what stands between tells.
func TestWhichOneIsUndone(t *testing.T) {
	a, b, c := did(1, 2, 3), did(1, 5, 6), did(1, 2, 7)
	notA, notB, notC := back(1, 2, -3), back(1, 5, -6), back(1, 2, -7)
	for _, k := range []struct{ l, open []oplist.Entry }{
		{[]oplist.Entry{a, b, a}, []oplist.Entry{a, b, a}},
		{[]oplist.Entry{a, b, a, notA}, []oplist.Entry{a, b}},
		{[]oplist.Entry{a, notA, b, a}, []oplist.Entry{b, a}},
		{[]oplist.Entry{a, b, notA, a}, []oplist.Entry{b, a}},
		{[]oplist.Entry{a, b, a, c, a, notA}, []oplist.Entry{a, b, a, c}},
		{[]oplist.Entry{a, b, a, c, a, notA, notA}, []oplist.Entry{a, b, c}},
		{[]oplist.Entry{a, b, a, c, a, notA, notA, notA}, []oplist.Entry{b, c}},
		{[]oplist.Entry{a, b, a, notA, c, a, notA}, []oplist.Entry{a, b, c}},
		{[]oplist.Entry{a, b, a, notA, c, notA, a}, []oplist.Entry{b, c, a}},
		{[]oplist.Entry{a, b, c, a, b, c, notB, notA}, []oplist.Entry{a, b, c, c}},
		{[]oplist.Entry{a, b, c, a, b, c, notC, notA, notC}, []oplist.Entry{a, b, b}},
	} {
		l := list(k.l...)
		if got := opens(t, l, 1); !slices.Equal(got, k.open) {
			t.Errorf("Open(%v, 1) = %v, want %v", l, got, k.open)
		}
		var want []oplist.Entry
		for _, e := range slices.Backward(k.open) {
			want = append(want, back(e.Tx, e.Counter, -e.By))
		}
		gone(t, l, []int{1}, want...)
		var ops []api.Op
		for _, e := range k.open {
			ops = append(ops, api.Op{Counter: e.Counter, By: e.By})
		}
		if got := tells(t, l, row(2), 1); !slices.Equal(got, ops) {
			t.Errorf("Ops(%v, .., 1) = %v, want %v", l, got, ops)
		}
	}
}

func TestUndoOfTheGreatestList(t *testing.T) {
	for pairs := range 129 {
		l := filled(pairs, 128-pairs)
		got := undoes(t, l, numbers(0, 64)...)
		sane(t, got, true)
		if len(got.L) != 256 {
			t.Errorf("%d pairs: there are %d", pairs, len(got.L))
		}
		undoes(t, l, numbers(0, 32)...)
	}
	l := list(repeated(did(9, 9, -9), 128)...)
	gone(t, l, []int{9}, repeated(back(9, 9, 9), 128)...)
	gone(t, l, []int{8})
}

func TestOpen(t *testing.T) {
	for tx, want := range map[int][]oplist.Entry{
		0: {did(0, 2, -7), did(0, 2, -7)}, 1: {did(1, 0, 5), did(1, 0, 3), did(1, 63, most)}, 2: nil, 3: nil,
		4: {did(4, 2, 8), did(4, 0, 9)}, 5: nil, 6: {did(6, 1, 0)}, 62: nil, 63: {did(63, 2, least+1)},
		64: nil, -1: nil, least: nil, most: nil,
	} {
		if got := opens(t, some(), tx); !slices.Equal(got, want) {
			t.Errorf("Open(%v, %d) = %v, want %v", some(), tx, got, want)
		}
		if got := opens(t, undoes(t, some(), tx), tx); len(got) > 0 {
			t.Errorf("Open(.., %d) behind Undo: %v", tx, got)
		}
		if got := opens(t, oplist.List{}, tx); len(got) > 0 {
			t.Errorf("Open of none: %v", got)
		}
	}
	for _, n := range none {
		if got := opens(t, filled(30, 98), n); len(got) > 0 {
			t.Errorf("Open(.., %d) = %v", n, got)
		}
	}
	for tx := range 64 {
		if got := opens(t, filled(0, 128), tx); len(got) != 2 {
			t.Errorf("Open(.., %d) = %v", tx, got)
		}
	}
}

// net holds Net against what is known.
func net(t *testing.T, l oplist.List, counter, want int, wantErr api.Errno) {
	t.Helper()
	if got, e := nets(t, l, counter); got != want || e != wantErr {
		t.Errorf("Net(%v, %d) = %d, %v, want %d, %v", l, counter, got, e, want, wantErr)
	}
}

func TestNet(t *testing.T) {
	for counter, want := range map[int]int{0: 17, 1: 0, 3: 0, 62: 0, 63: most, 64: 0, -1: 0, least: 0, most: 0} {
		net(t, some(), counter, want, api.OK)
		net(t, oplist.List{}, counter, 0, api.OK)
	}
	net(t, some(), 2, 0, api.ErrOver) // -7, 8, least + 1 and -7
	net(t, undoes(t, some(), 0), 2, least+9, api.OK)
	net(t, undoes(t, some(), 63), 2, -6, api.OK)
	for counter := range 64 {
		net(t, undoes(t, some(), numbers(0, 64)...), counter, 0, api.OK)
	}
	net(t, list(did(1, 0, 5), did(2, 0, 3), did(3, 1, 100), back(1, 0, -5), did(63, 0, -9)), 0, -6, api.OK)
	net(t, filled(64, 64), 5, 0, api.OK)
	for _, n := range none {
		net(t, filled(64, 64), n, 0, api.OK)
	}
}

func TestNetThatIsGreat(t *testing.T) {
	for _, c := range []struct {
		l    oplist.List
		want int
		e    api.Errno
	}{
		{list(did(1, 0, most)), most, api.OK},
		{list(did(1, 0, most), did(2, 0, 1)), 0, api.ErrOver},
		{list(did(1, 0, most), did(2, 1, 1)), most, api.OK},
		{list(did(1, 0, most), did(2, 0, 1), did(3, 0, -1)), most, api.OK}, // it comes back
		{list(did(1, 0, most-1), did(2, 0, 1)), most, api.OK},
		{list(did(1, 0, most-1), did(2, 0, 2)), 0, api.ErrOver},
		{list(did(1, 0, least+1)), least + 1, api.OK},
		{list(did(1, 0, least+1), did(2, 0, -1)), least, api.OK},
		{list(did(1, 0, least+1), did(2, 0, -2)), 0, api.ErrOver},
		{list(did(1, 0, least+1), did(2, 0, -2), did(1, 0, 1)), least, api.OK},
		{list(did(1, 0, most), did(2, 0, most)), 0, api.ErrOver},
		{list(did(1, 0, most), did(2, 0, most), back(1, 0, -most)), most, api.OK},
		{list(did(1, 0, most), did(2, 0, most), back(1, 0, -most), back(2, 0, -most)), 0, api.OK},
		{list(repeated(did(1, 0, most), 128)...), 0, api.ErrOver},
		{list(repeated(did(1, 0, least+1), 128)...), 0, api.ErrOver},
		{list(slices.Concat(repeated(did(1, 0, most), 64), repeated(did(1, 0, -most), 64))...), 0, api.OK},
		{list(slices.Concat(repeated(did(1, 0, most), 128), repeated(back(1, 0, -most), 128))...), 0, api.OK},
		{list(slices.Concat(repeated(did(1, 0, most), 128), repeated(back(1, 0, -most), 127))...), most, api.OK},
		{list(slices.Concat(repeated(did(1, 0, most), 128), repeated(back(1, 0, -most), 126))...), 0, api.ErrOver},
	} {
		sane(t, c.l, true)
		net(t, c.l, 0, c.want, c.e)
	}
}

func TestOps(t *testing.T) {
	op := func(counter, by int) api.Op { return api.Op{Counter: counter, By: by} }
	var l oplist.List
	for id := range 9 { // each of the family does two things, and one that is undone
		l = done(t, l, id, id, 10+id)
		l.L = append(l.L, did(id, 9, 1), back(id, 9, -1))
	}
	for id := range 9 {
		l = done(t, l, id, 20+id, -id)
	}
	for top, in := range map[int][]int{
		0: {0, 1, 2, 3, 4, 5}, 1: {1, 2, 3}, 2: {2}, 3: {3}, 4: {4, 5}, 5: {5}, 6: {6, 7}, 7: {7}, 8: {8},
		9: nil, 63: nil, 64: nil, -1: nil, -2: nil, least: nil, most: nil,
	} {
		var want []api.Op
		for _, id := range in {
			want = append(want, op(id, 10+id))
		}
		for _, id := range in {
			want = append(want, op(20+id, -id))
		}
		if got := tells(t, l, family(), top); !slices.Equal(got, want) {
			t.Errorf("Ops(%v, .., %d) = %v, want %v", l, top, got, want)
		}
		if got := tells(t, l, tree.Tree{}, top); len(got) > 0 {
			t.Errorf("Ops(%v, nobody, %d) = %v", l, top, got)
		}
		if got := tells(t, oplist.List{}, family(), top); len(got) > 0 {
			t.Errorf("Ops(none, .., %d) = %v", top, got)
		}
		if got := tells(t, undoes(t, l, in...), family(), top); len(got) > 0 {
			t.Errorf("Ops(.., %d) behind Undo: %v", top, got)
		}
	}
}

// The tree need not know who has entries, nor those who have none; the states that it tells don't count.
func TestOpsOfOtherTrees(t *testing.T) {
	l := list(did(5, 1, 2), did(0, 3, 4), did(63, 5, 6), did(1, 7, 8))
	five, zero, last, one := api.Op{Counter: 1, By: 2}, api.Op{Counter: 3, By: 4}, api.Op{Counter: 5, By: 6}, api.Op{Counter: 7, By: 8}
	for _, c := range []struct {
		x    tree.Tree
		top  int
		want []api.Op
	}{
		{row(64), 5, []api.Op{five}}, {row(64), 63, []api.Op{last}}, {row(64), 2, nil}, {row(64), -1, nil},
		{row(5), 5, nil}, {row(6), 5, []api.Op{five}}, {row(63), 63, nil}, {row(1), 1, nil}, {row(1), 0, []api.Op{zero}},
		{chain(64), 0, []api.Op{five, zero, last, one}}, {chain(64), 1, []api.Op{five, last, one}}, {chain(64), 6, []api.Op{last}},
		{chain(6), 0, []api.Op{five, zero, one}}, {chain(5), 0, []api.Op{zero, one}}, {chain(200), 64, nil}, {chain(200), 1, []api.Op{five, last, one}},
		{grown(1, -1), 1, []api.Op{zero, one}}, {grown(1, -1), 0, []api.Op{zero}}, // a parent above it
		{grown(1, 0), 0, []api.Op{zero, one}}, {grown(1, 0), 1, []api.Op{zero, one}}, // a ring
		{grown(0, -1), 0, []api.Op{zero}}, {grown(77, 0, -1), 77, nil}, {grown(77, 0, -1), 0, []api.Op{zero, one}},
		{grown(least, most), 0, []api.Op{zero}}, {grown(least, most), most, nil}, {grown(-1, -2), -2, nil}, {grown(-1, -1), -1, nil},
	} {
		for _, state := range []int{tree.Live, tree.Done, tree.Undone, 0, 4, least} {
			x := c.x
			x.L = slices.Clone(x.L)
			for id := range x.L {
				x.L[id].State = state
			}
			if got := tells(t, l, x, c.top); !slices.Equal(got, c.want) {
				t.Errorf("Ops(%v, %v, %d) = %v, want %v", l, x, c.top, got, c.want)
			}
		}
	}
}

func TestOpsOfTheGreatestList(t *testing.T) {
	l := filled(0, 128)
	got := tells(t, l, chain(64), 0)
	if len(got) != 128 || got[0] != (api.Op{Counter: 0, By: -3}) || got[127] != (api.Op{Counter: 2, By: 124}) {
		t.Errorf("%v", got)
	}
	if got := tells(t, l, row(64), 63); !slices.Equal(got, []api.Op{{Counter: 3, By: 60}, {Counter: 2, By: 124}}) {
		t.Errorf("%v", got)
	}
}

// All calls, at lists and trees of any kind

// kinds are entries of some transactions and counters, of three numbers each.
func kinds(txs, counters int) []oplist.Entry {
	var l []oplist.Entry
	for tx := range txs {
		for counter := range counters {
			for by := -1; by <= 1; by++ {
				l = append(l, did(tx, counter, by), back(tx, counter, by))
			}
		}
	}
	return l
}

func TestEachListOfTwo(t *testing.T) {
	x := grown(-1, 0, -1)
	l := append(kinds(2, 2), did(0, 0, least), back(0, 0, least), did(-1, 0, 1), did(64, 0, 1), did(0, -1, 1), did(0, 64, 1))
	for _, a := range l {
		all(t, list(a), x)
		for _, b := range l {
			all(t, list(a, b), x)
		}
	}
}

// Each list of up to six of one transaction's entries with one counter, of up to four with two of either, of up to three with two of both.
func TestEachSmallList(t *testing.T) {
	may := 0
	for _, c := range []struct{ txs, counters, most int }{{1, 1, 6}, {2, 1, 4}, {1, 2, 4}, {2, 2, 3}} {
		l := kinds(c.txs, c.counters)
		var further func(so []oplist.Entry)
		further = func(so []oplist.Entry) {
			u := oplist.List{L: so}
			want := plainSane(u)
			if got := oplist.Sane(u); got != want {
				t.Fatalf("Sane(%v) = %v", so, got)
			}
			if want {
				may++
				undoes(t, u, 0)
				undoes(t, u, 1, 0)
				opens(t, u, 0)
				nets(t, u, 0)
				tells(t, u, grown(-1, 0), 0)
			}
			if len(so) < c.most {
				for _, e := range l {
					further(append(slices.Clip(so), e))
				}
			}
		}
		further(nil)
	}
	if may < 5000 {
		t.Errorf("only %d may be", may)
	}
}

// strangeTree is one that is not Sane: parents go round, or are no IDs, or stand above; States are none.
func strangeTree() tree.Tree {
	x := grown(1, 0, 1, 3, 77, most, least, -2, 9, -1)
	x.L[2].State, x.L[3].State, x.L[7].State = 4, -1, least
	return x
}

func TestStrangeLists(t *testing.T) {
	for _, l := range strange() {
		if len(l.L) > 300 {
			l.L = l.L[:300:300]
		}
		for _, x := range []tree.Tree{{}, family(), strangeTree()} {
			all(t, l, x)
		}
	}
}

func TestStrangeTrees(t *testing.T) {
	for _, l := range []oplist.List{{}, list(did(0, 0, 1)), some(), filled(20, 30)} {
		for _, x := range []tree.Tree{{}, family(), strangeTree(), grown(0), grown(slices.Repeat([]int{0}, 70)...), chain(70)} {
			all(t, l, x)
		}
	}
}

// script is as many bytes, of any kind, but the same ones each time.
func script(seed uint32, n int) []byte {
	b := make([]byte, n)
	for i := range b {
		seed = seed*1664525 + 1013904223
		b[i] = byte(seed >> 24)
	}
	return b
}

// anyList is a list of any kind: three bytes an entry. Most often one with Undo undoes one that is open, as many lists are to be Sane.
func anyList(b []byte) oplist.List {
	odd := len(b) > 0 && b[0]%4 == 0
	var l []oplist.Entry
	for ; len(b) >= 3; b = b[3:] {
		e := oplist.Entry{Tx: []int{0, 1, 2, 3, 5, 8, 62, 63}[b[0]%8], Counter: []int{0, 1, 2, 63}[b[1]%4], By: int(b[1]/4%5) - 2, Undo: odd && b[2]%16 == 0}
		if b[2] > 240 {
			e.By = []int{most, most - 1, -most, 1 << 40}[b[1]%4]
		}
		if odd && b[2]%32 == 1 {
			n := []int{-1, 64, least, most}[b[0]%4]
			e = []oplist.Entry{did(n, 0, 1), did(0, n, 1), did(n, n, n), did(0, 0, least)}[b[1]%4]
		}
		if open := plainOpen(oplist.List{L: l}, func(int) bool { return true }); b[2]%16 > 10 && len(open) > 0 {
			is := open[int(b[0])%len(open)]
			e = back(is.Tx, is.Counter, -is.By)
		}
		l = append(l, e)
	}
	return list(l...)
}

// anyTree is a tree of any kind: two bytes a transaction.
func anyTree(b []byte) tree.Tree {
	var x tree.Tree
	n := len(b) / 2
	for ; len(b) >= 2; b = b[2:] {
		parent := int(b[0])%(n+2) - 1
		if b[0] > 250 {
			parent = []int{-2, 64, least, most, n}[b[0]-251]
		}
		x.L = append(x.L, tree.Tx{Parent: parent, State: max(int(b[1]%6)-1, tree.Live)})
	}
	return x
}

func TestListsOfAnyKind(t *testing.T) {
	may, entries, with := 0, 0, 0
	for seed := range uint32(400) {
		l, x := anyList(script(seed, int(seed%150))), anyTree(script(seed+1000, int(seed%20)))
		all(t, l, x)
		if oplist.Sane(l) {
			may++
			entries += len(l.L)
			with += 2*len(l.L) - room(l.L)
		}
	}
	if may < 250 || may > 390 || entries < 5000 || with < 2000 {
		t.Errorf("%d of 400 may be, with %d entries, %d of them settled", may, entries, with)
	}
}

// Each of these has many entries, and is not Sane; the tree is a way, a ring or a row of many.
func TestLargeLists(t *testing.T) {
	const n = 1 << 16
	ring := grown(append(numbers(1, n-1), 0)...)
	trees := []tree.Tree{chain(n), ring, row(n)}
	for _, kind := range []func(i int) oplist.Entry{
		func(i int) oplist.Entry { return did(5, 5, 1) },
		func(i int) oplist.Entry { return did(63, i%64, i) },
		func(i int) oplist.Entry { return did(i, 5, most) },
		func(i int) oplist.Entry { return did(n-1-i, i, -i) },
		func(i int) oplist.Entry { return did(-i, -i, least) },
		func(i int) oplist.Entry { return back(i%64, 5, i) },
		func(i int) oplist.Entry { return oplist.Entry{Tx: 5, Counter: 5, By: i%2*-2 + 1, Undo: i%2 == 1} },
		func(i int) oplist.Entry {
			return oplist.Entry{Tx: i % 64, Counter: 5, By: i/(n/2)*-2 + 1, Undo: i >= n/2}
		},
	} {
		var l oplist.List
		for i := range n {
			l.L = append(l.L, kind(i))
		}
		if oplist.Sane(l) {
			t.Error("it may be")
		}
		if got, e := oplist.Do(l, 5, 5, 5); e != api.ErrArg || got.L != nil {
			t.Errorf("Do: %v", e)
		}
		oplist.Undo(l, numbers(0, n))
		oplist.Open(l, 5)
		oplist.Net(l, 5)
		for _, x := range trees {
			oplist.Ops(l, x, 0)
			oplist.Ops(l, x, n-1)
		}
	}
	for _, x := range trees {
		for _, top := range []int{-1, 0, 5, 63, 64, n - 1, n} {
			tells(t, some(), x, top)
		}
		tells(t, filled(0, 128), x, 5)
	}
	undoes(t, filled(20, 60), slices.Repeat([]int{1, 2, 70, -5}, n)...)
}

// P15.4

// world is a tree and a list, and beside them all that was done and counts, in order.
type world struct {
	x    tree.Tree
	l    oplist.List
	open []oplist.Entry
}

// holds: the list may be; what is open, what was added, and what stays of each is what counts; and there is room to undo whatever is named.
func (w world) holds(t *testing.T) {
	t.Helper()
	if !oplist.Sane(w.l) || !plainSane(w.l) {
		t.Fatalf("%v may not be", w.l)
	}
	if len(w.l.L)+len(w.open) > 256 {
		t.Fatalf("%v has no room for what undoes %v", w.l, w.open)
	}
	for _, tx := range w.txs() {
		if got, want := oplist.Open(w.l, tx), w.of(tx); !slices.Equal(got, want) {
			t.Fatalf("Open(%v, %d) = %v, want %v", w.l, tx, got, want)
		}
	}
	for _, counter := range []int{-1, 0, 1, 2, 3, 62, 63, 64} {
		want, wantErr := plainNet(oplist.List{L: w.open}, counter)
		if got, e := oplist.Net(w.l, counter); got != want || e != wantErr {
			t.Fatalf("Net(%v, %d) = %d, %v, want %d, %v", w.l, counter, got, e, want, wantErr)
		}
	}
	for top := max(0, len(w.x.L)-8); top < len(w.x.L); top++ {
		var want []api.Op
		for _, e := range w.open {
			if tree.Within(w.x, e.Tx, top) {
				want = append(want, api.Op{Counter: e.Counter, By: e.By})
			}
		}
		if got := oplist.Ops(w.l, w.x, top); !slices.Equal(got, want) {
			t.Fatalf("Ops(%v, %v, %d) = %v, want %v", w.l, w.x, top, got, want)
		}
	}
}

// txs are those that something counts of, and some others.
func (w world) txs() []int {
	l := []int{-1, 0, 1, 2, 3, 63, 64}
	for _, e := range w.open {
		l = append(l, e.Tx)
	}
	slices.Sort(l)
	return slices.Compact(l)
}

// of is what counts of one.
func (w world) of(tx int) []oplist.Entry {
	return slices.DeleteFunc(slices.Clone(w.open), func(e oplist.Entry) bool { return e.Tx != tx })
}

func (w world) do(t *testing.T, tx, counter, by int) (world, api.Errno) {
	t.Helper()
	l, e := does(t, w.l, tx, counter, by)
	if e == api.OK {
		w.l, w.open = l, append(slices.Clip(w.open), did(tx, counter, by))
	}
	if e == api.ErrLimit && len(w.l.L)+len(w.open) != 256 {
		t.Fatalf("%v has room for one more", w.l)
	}
	return w, e
}

// undo undoes what is named: it never counted. Nothing of it is open then, and there is one entry more for each.
func (w world) undo(t *testing.T, txs ...int) world {
	t.Helper()
	was := w
	w.l = undoes(t, w.l, txs...)
	w.open = slices.DeleteFunc(slices.Clone(w.open), func(e oplist.Entry) bool { return slices.Contains(txs, e.Tx) })
	if len(w.l.L) != len(was.l.L)+len(was.open)-len(w.open) || !slices.Equal(w.l.L[:len(was.l.L)], was.l.L) {
		t.Fatalf("Undo(%v, %v) = %v", was.l, txs, w.l)
	}
	for _, tx := range txs {
		if got := opens(t, w.l, tx); len(got) > 0 {
			t.Fatalf("%v of %d is open behind Undo(%v, %v)", got, tx, was.l, txs)
		}
	}
	return w
}

// finish undoes all: there is room for it, and nothing was added.
func (w world) finish(t *testing.T) {
	t.Helper()
	w = w.undo(t, numbers(0, 64)...)
	w.holds(t)
	for _, counter := range []int{0, 1, 2, 3, 62, 63} {
		net(t, w.l, counter, 0, api.OK)
	}
	if again := w.undo(t, numbers(0, 64)...); len(again.l.L) != len(w.l.L) {
		t.Fatalf("%v was undone once more", w.l)
	}
}

// rows goes over all rows of so many steps, and tells how many there are.
func (w world) rows(t *testing.T, txs, counters int, amounts []int, steps int) int {
	t.Helper()
	w.holds(t)
	w.finish(t)
	if steps == 0 {
		return 1
	}
	n := 1
	for tx := range txs {
		for counter := range counters {
			for _, by := range amounts {
				next, e := w.do(t, tx, counter, by)
				if e != api.OK {
					t.Fatal(e)
				}
				n += next.rows(t, txs, counters, amounts, steps-1)
			}
		}
	}
	for named := 1; named < 1<<txs; named++ {
		n += w.undo(t, slices.DeleteFunc(numbers(0, txs), func(tx int) bool { return named>>tx&1 == 0 })...).rows(t, txs, counters, amounts, steps-1)
	}
	return n
}

func TestEachRowOfSteps(t *testing.T) {
	for _, c := range []struct {
		txs, counters int
		amounts       []int
		steps         int
	}{
		{2, 1, []int{1, -1}, 4}, {2, 1, []int{3}, 5}, {1, 2, []int{2, 0}, 4}, {3, 1, []int{1}, 4}, {2, 1, []int{most, -most}, 3}, {2, 2, []int{1, 2}, 3},
	} {
		if n := (world{x: grown(-1, 0, -1)}).rows(t, c.txs, c.counters, c.amounts, c.steps); n < 100 {
			t.Errorf("only %d rows", n)
		}
	}
}

// Kids do what their parents do, and are done or undone: what is undone never was, what a top one has done in the end is told.
func TestALongRow(t *testing.T) {
	w := world{}
	step := func(next world, e api.Errno) {
		t.Helper()
		if e != api.OK {
			t.Fatal(e)
		}
		w = next
		w.holds(t)
	}
	begin := func(parent int) int {
		x, id, e := tree.Begin(w.x, parent)
		w.x = x
		step(w, e)
		return id
	}
	for round := range 5 {
		top := begin(-1)
		step(w.do(t, top, 0, 10))
		var want []api.Op
		for kid := range 4 {
			id := begin(top)
			step(w.do(t, id, 0, 10))
			step(w.do(t, id, kid, -1))
			if kid%2 == 0 {
				x, e := tree.Commit(w.x, id)
				w.x = x
				step(w, e)
				want = append(want, api.Op{Counter: 0, By: 10}, api.Op{Counter: kid, By: -1})
			} else {
				x, gone, e := tree.Abort(w.x, id)
				w.x = x
				step(w.undo(t, gone...), e)
			}
		}
		step(w.do(t, top, 1, 3))
		want = slices.Concat([]api.Op{{Counter: 0, By: 10}}, want, []api.Op{{Counter: 1, By: 3}})
		if got := tells(t, w.l, w.x, top); !slices.Equal(got, want) {
			t.Fatalf("Ops of round %d: %v, want %v", round, got, want)
		}
		x, gone, e := tree.Abort(w.x, top)
		w.x = x
		step(w.undo(t, gone...), e)
		if got := tells(t, w.l, w.x, top); len(got) > 0 {
			t.Fatalf("Ops behind round %d: %v", round, got)
		}
	}
	w.finish(t)
}

// pick is one of the transactions of a tree, most often one of the last ones, or any one.
func pick(x tree.Tree, b byte) int {
	n := len(x.L)
	switch {
	case b < 8 || n == 0:
		return []int{-1, n, 64, least, 0, 1, 62, 63}[b%8]
	case b < 128:
		return n - 1 - int(b)%min(n, 10)
	}
	return int(b) % n
}

// counts are how many were done, and refused for each reason, and how many entries were undone.
type counts struct{ done, wrong, full, undone int }

// steps goes over a row of steps. When the list is full, it begins anew.
func steps(t *testing.T, script []byte) counts {
	t.Helper()
	var c counts
	w := world{}
	for ; len(script) > 3; script = script[4:] {
		id := pick(w.x, script[1])
		before := len(w.open)
		switch script[0] % 16 {
		case 0, 1, 2:
			if script[2]%3 == 0 {
				id = -1
			}
			if x, _, e := tree.Begin(w.x, id); e == api.OK {
				w.x = x
			}
		case 3:
			if x, e := tree.Commit(w.x, id); e == api.OK {
				w.x = x
			}
		case 4:
			if x, gone, e := tree.Abort(w.x, id); e == api.OK && script[2]%2 == 0 {
				w.x = x
				w = w.undo(t, gone...)
			}
		case 5:
			w = w.undo(t, id)
		case 6:
			w = w.undo(t, id, int(script[2])%80-8, int(script[3])%80-8, id)
		default:
			by := int(script[3]%5) - 2
			if script[3] > 225 {
				by = []int{most, -most, most - 1, 1 << 40, least}[script[3]%5]
			}
			next, e := w.do(t, id, []int{0, 1, 2, 63, 0, 1, 2, 64}[script[2]%8], by)
			w = next
			switch e {
			case api.OK:
				c.done++
			case api.ErrArg:
				c.wrong++
			default:
				c.full++
				w.finish(t)
				w = world{}
			}
		}
		w.holds(t)
		c.undone += max(0, before-len(w.open))
	}
	w.finish(t)
	return c
}

func TestStepsOfAnyKind(t *testing.T) {
	var c counts
	for seed := range uint32(12) {
		one := steps(t, script(seed, 3000))
		c = counts{c.done + one.done, c.wrong + one.wrong, c.full + one.full, c.undone + one.undone}
	}
	if c.done < 2000 || c.wrong < 300 || c.full < 15 || c.undone < 1000 {
		t.Errorf("only %v", c)
	}
}

// What is handed in, answered and kept

func TestDoTwiceToOneList(t *testing.T) {
	l := some() // with room behind
	first, _ := oplist.Do(l, 1, 1, 1)
	second, _ := oplist.Do(l, 2, 2, 2)
	third := oplist.Undo(l, []int{6})
	fourth, _ := oplist.Do(first, 3, 3, 3)
	fifth, _ := oplist.Do(first, 4, 4, 4)
	sixth := oplist.Undo(first, []int{1})
	n := len(l.L)
	for i, c := range []struct {
		got  oplist.List
		want []oplist.Entry
	}{
		{first, []oplist.Entry{did(1, 1, 1)}}, {second, []oplist.Entry{did(2, 2, 2)}}, {third, []oplist.Entry{back(6, 1, 0)}},
		{fourth, []oplist.Entry{did(1, 1, 1), did(3, 3, 3)}}, {fifth, []oplist.Entry{did(1, 1, 1), did(4, 4, 4)}},
		{sixth, []oplist.Entry{did(1, 1, 1), back(1, 1, -1), back(1, 63, -most), back(1, 0, -3), back(1, 0, -5)}},
	} {
		if !slices.Equal(c.got.L[:n], some().L) || !slices.Equal(c.got.L[n:], c.want) {
			t.Errorf("%d: %v, want %v behind", i, c.got, c.want)
		}
	}
	if !slices.Equal(l.L, some().L) || !slices.Equal(whole(l.L)[n:], whole(some().L)[n:]) {
		t.Errorf("%v, and behind the list %v", l, whole(l.L)[n:])
	}
}

// Also where nothing is added, the answer is new memory.
func TestWhatIsAnsweredIsNewMemory(t *testing.T) {
	for _, l := range []oplist.List{{}, list(), list(did(1, 2, 3)), some(), filled(128, 0), filled(0, 128)} {
		stay := stays(t, "each call", l, tree.Tree{}, nil)
		for range 2 {
			spoiled(oplist.Undo(l, nil).L, stay)
			spoiled(oplist.Undo(l, []int{5}).L, stay)
			spoiled(oplist.Undo(l, numbers(0, 64)).L, stay)
			for tx := range 64 {
				spoiled(oplist.Open(l, tx), stay)
			}
			got, _ := oplist.Do(l, 1, 2, 3)
			spoiled(got.L, stay)
		}
	}
}

func TestNothingIsKept(t *testing.T) {
	l, x := some(), family()
	added, _ := oplist.Do(l, 6, 1, 3)
	answers := [][]oplist.Entry{added.L, oplist.Undo(l, []int{1, 4}).L, oplist.Undo(l, nil).L, oplist.Open(l, 1), oplist.Open(l, 0)}
	ops := oplist.Ops(l, x, 0)
	var want [][]oplist.Entry
	for _, got := range answers {
		want = append(want, slices.Clone(got))
	}
	wantOps := slices.Clone(ops)
	for i := range whole(l.L) {
		whole(l.L)[i] = back(1, 2, 3)
	}
	x.L[1].Parent = 6
	for i, got := range answers {
		if !slices.Equal(got, want[i]) {
			t.Errorf("%d: %v, want %v", i, got, want[i])
		}
	}
	if !slices.Equal(ops, wantOps) {
		t.Errorf("%v, want %v", ops, wantOps)
	}
	for range 3 {
		all(t, some(), family())
		all(t, l, x)
	}
}

// The example

func TestTheExample(t *testing.T) {
	l := done(t, oplist.List{}, 1, 0, 5)
	l = done(t, l, 1, 0, 3)
	net(t, l, 0, 8, api.OK)
	l = gone(t, l, []int{1}, back(1, 0, -3), back(1, 0, -5))
	net(t, l, 0, 0, api.OK)
	gone(t, l, []int{1})
}

func ExampleUndo() {
	l, _ := oplist.Do(oplist.List{}, 1, 0, 5)
	l, _ = oplist.Do(l, 1, 0, 3)
	l = oplist.Undo(l, []int{1})
	for _, e := range l.L {
		fmt.Println(e.Tx, e.Counter, e.By, e.Undo)
	}
	// Output:
	// 1 0 5 false
	// 1 0 3 false
	// 1 0 -3 true
	// 1 0 -5 true
}

// P1

func FuzzList(f *testing.F) {
	f.Add([]byte{}, []byte{})
	for seed := range uint32(20) {
		f.Add(script(seed, int(seed*9)), script(seed+100, int(seed)))
	}
	f.Fuzz(func(t *testing.T, b, c []byte) {
		all(t, anyList(b[:min(len(b), 120)]), anyTree(c[:min(len(c), 30)]))
	})
}

func FuzzNumbers(f *testing.F) {
	f.Add(1, 0, 5, false, 1, 0, -5, true, 1, 0, 3, 0)
	f.Add(0, 0, least, false, 0, 0, least, true, 63, 63, most, -1)
	f.Add(63, 63, most, false, 63, 63, least+1, true, -1, 64, least, 64)
	f.Add(least, most, 0, true, most, least, 0, false, least, most, least, most)
	f.Fuzz(func(t *testing.T, tx, counter, by int, undo bool, tx2, counter2, by2 int, undo2 bool, asker, asked, more, top int) {
		a := oplist.Entry{Tx: tx, Counter: counter, By: by, Undo: undo}
		b := oplist.Entry{Tx: tx2, Counter: counter2, By: by2, Undo: undo2}
		for _, l := range []oplist.List{list(a), list(a, b), list(a, a, b), list(a, b, a, b), list(slices.Concat(filled(30, 40).L, []oplist.Entry{a, b})...)} {
			sane(t, l, plainSane(l))
			does(t, l, asker, asked, more)
			does(t, l, asker&63, asked&63, more)
			undoes(t, l, asker)
			undoes(t, l, asker, tx, top, tx2)
			for _, id := range []int{asker, tx, tx2} {
				opens(t, l, id)
				tells(t, l, family(), id)
			}
			tells(t, l, family(), top)
			tells(t, l, strangeTree(), top)
			for _, of := range []int{asked, counter, counter2} {
				nets(t, l, of)
			}
		}
	})
}

func FuzzSteps(f *testing.F) {
	for seed := range uint32(20) {
		f.Add(script(seed+1000, 400))
	}
	f.Fuzz(func(t *testing.T, b []byte) { steps(t, b[:min(len(b), 1500)]) })
}
