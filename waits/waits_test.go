package waits_test

import (
	"fmt"
	"maps"
	"math"
	"slices"
	"testing"

	"heronry/api"
	"heronry/locks"
	"heronry/tree"
	"heronry/waits"
)

const (
	least = math.MinInt
	most  = math.MaxInt

	none  = locks.None
	read  = locks.Read
	write = locks.Write
)

var (
	modes   = []int{read, write}
	noTx    = []int{-1, -2, 64, 65, least, least + 1, most, most - 1, 1 << 32, 1<<32 + 1}
	noBlock = []int{-1, -2, 256, 257, least, least + 1, most, most - 1, 1 << 32, 1<<32 + 1}
	noModes = []int{none, 3, 4, -1, -2, least, least + 1, most, most - 1, 1<<32 + 1, 1<<32 + 2}
)

// want is a transaction's of a block.
func want(tx, block, mode int) waits.Want { return waits.Want{Tx: tx, Block: block, Mode: mode} }

// queue is some wants, with room behind them.
func queue(l ...waits.Want) waits.Queue {
	room := make([]waits.Want, len(l), len(l)+8)
	copy(room, l)
	return waits.Queue{L: room}
}

// few is a queue that may be.
func few() waits.Queue {
	return queue(want(5, 9, read), want(2, 9, write), want(63, 0, read), want(0, 255, write), want(1, 9, read), want(40, 7, write))
}

// many is a queue of as many wants, from the greatest ID on.
func many(n int) waits.Queue {
	var l []waits.Want
	for i := range n {
		l = append(l, want(63-i, i*4%256, modes[i%2]))
	}
	return queue(l...)
}

// lock is a transaction's of a block.
func lock(block, tx, held, kept int) locks.Lock {
	return locks.Lock{Block: block, Tx: tx, Held: held, Kept: kept}
}

func table(l ...locks.Lock) locks.Table { return locks.Table{L: l} }

// grown is a tree of Live ones, by their parents.
func grown(parents ...int) tree.Tree {
	x := tree.Tree{Clock: len(parents)}
	for id, parent := range parents {
		x.L = append(x.L, tree.Tx{Parent: parent, State: tree.Live, Began: id + 1})
	}
	return x
}

// row is as many top ones.
func row(n int) tree.Tree { return grown(slices.Repeat([]int{-1}, n)...) }

// family is a tree of four top ones, which are 0, 6, 8 and 9.
func family() tree.Tree { return grown(-1, 0, 1, 1, 0, 4, -1, 6, -1, -1) }

// turned is a tree in which some have another State.
func turned(x tree.Tree, state int, ids ...int) tree.Tree {
	x.L = slices.Clone(x.L)
	for _, id := range ids {
		x.Clock++
		x.L[id].State, x.L[id].Ended = state, x.Clock
	}
	return x
}

func sameQueue(a, b waits.Queue) bool { return slices.Equal(a.L, b.L) }

// stands is what one stands in. Parents may go round: there are no more than there are transactions.
func stands(x tree.Tree, id int) map[int]bool {
	in := map[int]bool{}
	for range x.L {
		if id < 0 || id >= len(x.L) {
			break
		}
		in[id] = true
		id = x.L[id].Parent
	}
	return in
}

// plainSane counts the wants of each number that an ID may be.
func plainSane(q waits.Queue) bool {
	many := map[int]int{}
	for _, w := range q.L {
		many[w.Tx]++
	}
	for tx, n := range many {
		if tx < 0 || tx > 63 || n > 1 {
			return false
		}
	}
	for _, w := range q.L {
		if w.Block < 0 || w.Block > 255 || !slices.Contains(modes, w.Mode) {
			return false
		}
	}
	return len(q.L) <= 64
}

func plainAdd(q waits.Queue, w waits.Want) (waits.Queue, api.Errno) {
	waiting := false
	for _, other := range q.L {
		waiting = waiting || other.Tx == w.Tx
	}
	switch {
	case !plainSane(q), !plainSane(queue(w)):
		return waits.Queue{}, api.ErrArg
	case waiting:
		return waits.Queue{}, api.ErrState
	case len(q.L) == 64:
		return waits.Queue{}, api.ErrFull
	}
	return waits.Queue{L: slices.Concat(q.L, []waits.Want{w})}, api.OK
}

func plainDrop(q waits.Queue, ids []int) waits.Queue {
	var left waits.Queue
	for _, w := range q.L {
		if !slices.Contains(ids, w.Tx) {
			left.L = append(left.L, w)
		}
	}
	return left
}

// plainAgainst are those whose locks are against a want, rising.
func plainAgainst(w waits.Want, l locks.Table, x tree.Tree) []int {
	in, found := stands(x, w.Tx), map[int]bool{}
	for _, one := range l.L {
		writes := one.Held == write || one.Kept == write
		if one.Block == w.Block && !in[one.Tx] && (w.Mode == write || w.Mode == read && writes) {
			found[one.Tx] = true
		}
	}
	return slices.Sorted(maps.Keys(found))
}

// plainHeld: is the first want held up by the other one, that is ahead of it?
func plainHeld(w, ahead waits.Want, l locks.Table, x tree.Tree) bool {
	if w.Block != ahead.Block || w.Mode != write && ahead.Mode != write {
		return false
	}
	in := stands(x, w.Tx)
	for _, id := range plainAgainst(ahead, l, x) {
		if in[id] {
			return false
		}
	}
	return true
}

// plainFrom are those that the want at a place of a queue waits for.
func plainFrom(q waits.Queue, at int, l locks.Table, x tree.Tree) []int {
	ids := plainAgainst(q.L[at], l, x)
	for _, ahead := range q.L[:at] {
		if plainHeld(q.L[at], ahead, l, x) {
			ids = append(ids, ahead.Tx)
		}
	}
	return ids
}

func plainEdges(q waits.Queue, l locks.Table, x tree.Tree) []waits.Edge {
	var edges []waits.Edge
	for at, w := range q.L {
		for _, id := range plainFrom(q, at, l, x) {
			edges = append(edges, waits.Edge{From: w.Tx, To: id})
		}
	}
	return edges
}

func plainReady(q waits.Queue, l locks.Table, x tree.Tree) []waits.Want {
	var ready []waits.Want
	for at, w := range q.L {
		if len(plainFrom(q, at, l, x)) == 0 {
			ready = append(ready, w)
		}
	}
	return ready
}

// ways tells of each ID to which ones it comes, be it by no step at all: over one more ID each time.
func ways(edges []waits.Edge, x tree.Tree) [][]bool {
	n := len(x.L)
	comes := make([][]bool, n)
	for id := range comes {
		comes[id] = make([]bool, n)
		comes[id][id] = true
	}
	for _, e := range edges {
		if isID(x, e.From) && isID(x, e.To) {
			comes[e.From][e.To] = true
		}
	}
	for kid, one := range x.L {
		if isLive(x, kid) && isLive(x, one.Parent) {
			comes[one.Parent][kid] = true
		}
	}
	for over := range n {
		for a := range n {
			for b := range n {
				comes[a][b] = comes[a][b] || comes[a][over] && comes[over][b]
			}
		}
	}
	return comes
}

func isID(x tree.Tree, id int) bool { return id >= 0 && id < len(x.L) }

func isLive(x tree.Tree, id int) bool { return isID(x, id) && x.L[id].State == tree.Live }

// plainStuck are those that come back to themselves by an edge of theirs and a way.
func plainStuck(edges []waits.Edge, x tree.Tree) []int {
	comes := ways(edges, x)
	var stuck []int
	for id := range x.L {
		for _, e := range edges {
			if e.From == id && isID(x, e.To) && comes[e.To][id] {
				stuck = append(stuck, id)
				break
			}
		}
	}
	return stuck
}

// stays lets what was handed in be held against what it was: the lists, and what stands in the room behind that of the queue.
func stays(t *testing.T, call string, q waits.Queue, l locks.Table, x tree.Tree) func() {
	room := q.L[:cap(q.L)]
	was, before, around := slices.Clone(room), slices.Clone(l.L), slices.Clone(x.L)
	return func() {
		t.Helper()
		if !slices.Equal(room, was) || !slices.Equal(l.L, before) || !slices.Equal(x.L, around) {
			t.Fatalf("%s of %v, %v and %v left %v, %v and %v behind", call, was, before, around, room, l.L, x.L)
		}
	}
}

// adds lets Add be held against the plain one.
func adds(t *testing.T, q waits.Queue, w waits.Want) (waits.Queue, api.Errno) {
	t.Helper()
	stay := stays(t, "Add", q, locks.Table{}, tree.Tree{})
	got, e := waits.Add(q, w)
	stay()
	if plain, plainErr := plainAdd(q, w); !sameQueue(got, plain) || e != plainErr {
		t.Fatalf("Add(%v, %v) = %v, %v, want %v, %v", q, w, got, e, plain, plainErr)
	}
	if e != api.OK && got.L != nil {
		t.Fatalf("Add(%v, %v) answers %v beside %v", q, w, got, e)
	}
	return got, e
}

func drops(t *testing.T, q waits.Queue, ids ...int) waits.Queue {
	t.Helper()
	stay, were := stays(t, "Drop", q, locks.Table{}, tree.Tree{}), slices.Clone(ids)
	got := waits.Drop(q, ids)
	stay()
	if plain := plainDrop(q, ids); !sameQueue(got, plain) {
		t.Fatalf("Drop(%v, %v) = %v, want %v", q, ids, got, plain)
	}
	if !slices.Equal(ids, were) {
		t.Fatalf("Drop(%v, %v) left %v behind", q, were, ids)
	}
	return got
}

// edges lets Edges be held against the plain one, where the table is Sane.
func edges(t *testing.T, q waits.Queue, l locks.Table, x tree.Tree) []waits.Edge {
	t.Helper()
	stay := stays(t, "Edges", q, l, x)
	got := waits.Edges(q, l, x)
	stay()
	if plain := plainEdges(q, l, x); locks.Sane(l) && !slices.Equal(got, plain) {
		t.Fatalf("Edges(%v, %v, %v) = %v, want %v", q, l, x, got, plain)
	}
	return got
}

func readies(t *testing.T, q waits.Queue, l locks.Table, x tree.Tree) []waits.Want {
	t.Helper()
	stay := stays(t, "Ready", q, l, x)
	got := waits.Ready(q, l, x)
	stay()
	if plain := plainReady(q, l, x); locks.Sane(l) && !slices.Equal(got, plain) {
		t.Fatalf("Ready(%v, %v, %v) = %v, want %v", q, l, x, got, plain)
	}
	return got
}

// stucks holds Stuck and Victim against the plain ones, of the edges that are told: also where the table is not Sane.
func stucks(t *testing.T, q waits.Queue, l locks.Table, x tree.Tree) []int {
	t.Helper()
	stay := stays(t, "Stuck and Victim", q, l, x)
	got, victim := waits.Stuck(q, l, x), waits.Victim(q, l, x)
	stay()
	plain := plainStuck(waits.Edges(q, l, x), x)
	if !slices.Equal(got, plain) {
		t.Fatalf("Stuck(%v, %v, %v) = %v, want %v", q, l, x, got, plain)
	}
	greatest := -1
	for _, id := range plain {
		greatest = max(greatest, id)
	}
	if victim != greatest {
		t.Fatalf("Victim(%v, %v, %v) = %d, want %d", q, l, x, victim, greatest)
	}
	return got
}

// all lets each call be held against the plain one.
func all(t *testing.T, q waits.Queue, l locks.Table, x tree.Tree) {
	t.Helper()
	if got, plain := waits.Sane(q), plainSane(q); got != plain {
		t.Fatalf("Sane(%v) = %v, want %v", q, got, plain)
	}
	edges(t, q, l, x)
	readies(t, q, l, x)
	stucks(t, q, l, x)
	ids := []int{-1, 0, 63, 64, least, most}
	for i, w := range q.L {
		ids = append(ids, w.Tx)
		adds(t, waits.Queue{L: q.L[:i:i]}, w)
		adds(t, waits.Queue{L: q.L[:i]}, w)
	}
	for i, id := range ids {
		adds(t, q, want(id, 9, write))
		adds(t, q, want(3, id, read))
		adds(t, q, want(3, 9, id))
		drops(t, q, id)
		drops(t, q, ids[i:]...)
	}
	drops(t, q)
}

// P11.1

// sane holds Sane against what is known, and the plain one too; one more want is refused of what may not be.
func sane(t *testing.T, q waits.Queue, may bool) {
	t.Helper()
	if got := waits.Sane(q); got != may {
		t.Errorf("Sane(%v) = %v, want %v", q, got, may)
	}
	if got := plainSane(q); got != may {
		t.Errorf("the plain Sane(%v) = %v, want %v", q, got, may)
	}
	if _, e := adds(t, q, want(30, 30, read)); !may && e != api.ErrArg {
		t.Errorf("Add to %v: %v", q, e)
	}
}

// saneAt holds Sane of queues in which one want is another one, at each place.
func saneAt(t *testing.T, change func(*waits.Want), may bool) {
	t.Helper()
	for at := range few().L {
		q := few()
		change(&q.L[at])
		sane(t, q, may)
		sane(t, queue(q.L[at]), may)
	}
	for _, at := range []int{0, 31, 63} {
		q := many(64)
		was := q.L[at]
		change(&q.L[at])
		sane(t, q, may && q.L[at].Tx == was.Tx)
	}
}

func TestSaneOfNone(t *testing.T) {
	sane(t, waits.Queue{}, true)
	sane(t, waits.Queue{L: []waits.Want{}}, true)
}

func TestSaneOfSome(t *testing.T) {
	sane(t, few(), true)
	sane(t, queue(want(0, 0, read)), true)
	sane(t, queue(want(63, 255, write)), true)
	sane(t, queue(want(1, 9, write), want(0, 9, write)), true)
}

func TestSaneOfManyAndOneMore(t *testing.T) {
	for n := range 65 {
		sane(t, many(n), true)
	}
	for _, w := range []waits.Want{want(0, 9, read), want(63, 9, read), want(64, 9, read), want(-1, 9, read), want(31, 9, write)} {
		sane(t, queue(append(many(64).L, w)...), false)
		sane(t, queue(append([]waits.Want{w}, many(64).L...)...), false)
	}
	sane(t, queue(append(many(64).L, many(64).L...)...), false)
}

func TestSaneOfEachTx(t *testing.T) {
	for _, tx := range []int{3, 4, 6, 10, 39, 41, 61, 62} {
		saneAt(t, func(w *waits.Want) { w.Tx = tx }, true)
	}
	for _, tx := range noTx {
		saneAt(t, func(w *waits.Want) { w.Tx = tx }, false)
	}
	for tx := range 64 {
		sane(t, queue(want(tx, 9, read)), true)
	}
}

func TestSaneOfEachBlock(t *testing.T) {
	for _, block := range []int{0, 1, 2, 63, 64, 127, 128, 254, 255} {
		saneAt(t, func(w *waits.Want) { w.Block = block }, true)
	}
	for _, block := range noBlock {
		saneAt(t, func(w *waits.Want) { w.Block = block }, false)
	}
}

func TestSaneOfEachMode(t *testing.T) {
	for _, mode := range modes {
		saneAt(t, func(w *waits.Want) { w.Mode = mode }, true)
	}
	for _, mode := range noModes {
		saneAt(t, func(w *waits.Want) { w.Mode = mode }, false)
	}
}

func TestSaneOfOneTxTwice(t *testing.T) {
	for a := range few().L {
		for b := range few().L {
			q := few()
			q.L[a].Tx = q.L[b].Tx
			sane(t, q, a == b)
			q.L[a] = q.L[b]
			sane(t, q, a == b)
		}
	}
	for _, tx := range []int{0, 1, 62, 63} {
		sane(t, queue(want(tx, 9, read), want(tx, 9, read)), false)
		sane(t, queue(want(tx, 9, read), want(tx, 10, write)), false)
	}
}

// added is what Add makes where it is known.
func added(t *testing.T, q waits.Queue, w waits.Want) waits.Queue {
	t.Helper()
	got, e := adds(t, q, w)
	if e != api.OK || len(got.L) != len(q.L)+1 || !slices.Equal(got.L[:len(q.L)], q.L) || got.L[len(q.L)] != w {
		t.Errorf("Add(%v, %v) = %v, %v", q, w, got, e)
	}
	sane(t, got, true)
	return got
}

// refused is the error of an Add where it is known; the Queue beside it is the zero one.
func refused(t *testing.T, q waits.Queue, w waits.Want, e api.Errno) {
	t.Helper()
	if got, gotErr := adds(t, q, w); gotErr != e || got.L != nil {
		t.Errorf("Add(%v, %v) = %v, %v, want %v", q, w, got, gotErr, e)
	}
}

func TestAdd(t *testing.T) {
	q := added(t, waits.Queue{}, want(5, 9, write))
	q = added(t, q, want(4, 9, write))
	q = added(t, q, want(63, 0, read))
	q = added(t, q, want(0, 255, read))
	q = added(t, q, want(6, 9, read))
	added(t, q, want(1, 9, read))
	added(t, few(), want(3, 9, read))
	added(t, few(), want(62, 0, write))
}

func TestAddToAQueueThatMayNotBe(t *testing.T) {
	change := func(at int, to waits.Want) waits.Queue {
		q := few()
		q.L[at] = to
		return q
	}
	for at := range few().L {
		for _, tx := range noTx {
			refused(t, change(at, want(tx, 9, read)), want(3, 3, read), api.ErrArg)
			refused(t, change(at, want(tx, 9, read)), want(tx, 9, read), api.ErrArg)
		}
		for _, block := range noBlock {
			refused(t, change(at, want(10, block, read)), want(3, 3, read), api.ErrArg)
			refused(t, change(at, want(10, block, read)), want(10, 3, read), api.ErrArg)
		}
		for _, mode := range noModes {
			refused(t, change(at, want(10, 9, mode)), want(3, 3, read), api.ErrArg)
			refused(t, change(at, want(10, 9, mode)), want(10, 3, read), api.ErrArg)
		}
		twice := few().L[(at+1)%6]
		refused(t, change(at, twice), want(3, 3, read), api.ErrArg)
		refused(t, change(at, twice), twice, api.ErrArg)
	}
}

func TestAddOfAWantThatMayNotBe(t *testing.T) {
	for _, q := range []waits.Queue{{}, few(), many(62), many(63), many(64)} {
		for _, tx := range noTx {
			refused(t, q, want(tx, 9, read), api.ErrArg)
		}
		for _, tx := range []int{0, 5, 63} {
			for _, block := range noBlock {
				refused(t, q, want(tx, block, read), api.ErrArg)
			}
			for _, mode := range noModes {
				refused(t, q, want(tx, 9, mode), api.ErrArg)
			}
		}
	}
}

func TestAddOfOneThatWaits(t *testing.T) {
	for _, q := range []waits.Queue{few(), many(1), many(63), many(64)} {
		for _, w := range q.L {
			refused(t, q, w, api.ErrState)
			refused(t, q, want(w.Tx, w.Block, 3-w.Mode), api.ErrState)
			refused(t, q, want(w.Tx, 255-w.Block, w.Mode), api.ErrState)
		}
	}
}

func TestAddToManyWants(t *testing.T) {
	q := added(t, many(62), want(1, 255, read))
	added(t, q, want(0, 255, write))
	q = added(t, many(62), want(0, 255, write))
	q = added(t, q, want(1, 254, write))
	if len(q.L) != 64 {
		t.Errorf("%d wants", len(q.L))
	}
	for tx := range 64 {
		refused(t, q, want(tx, 9, read), api.ErrState)
		refused(t, many(64), want(tx, 9, read), api.ErrState)
	}
	refused(t, queue(append(many(64).L, want(64, 0, read))...), want(0, 0, read), api.ErrArg)
}

// dropped is what Drop makes where it is known.
func dropped(t *testing.T, q waits.Queue, ids []int, left ...waits.Want) {
	t.Helper()
	if got := drops(t, q, ids...); !slices.Equal(got.L, left) {
		t.Errorf("Drop(%v, %v) = %v, want %v", q, ids, got, left)
	}
}

func TestDrop(t *testing.T) {
	l := few().L // of 5, 2, 63, 0, 1 and 40
	dropped(t, few(), nil, l...)
	dropped(t, few(), []int{}, l...)
	dropped(t, few(), []int{5}, l[1:]...)
	dropped(t, few(), []int{40}, l[:5]...)
	dropped(t, few(), []int{63}, l[0], l[1], l[3], l[4], l[5])
	dropped(t, few(), []int{0}, l[0], l[1], l[2], l[4], l[5])
	dropped(t, few(), []int{5, 40}, l[1:5]...)
	dropped(t, few(), []int{40, 0, 2}, l[0], l[2], l[4])
	dropped(t, few(), []int{0, 2, 40}, l[0], l[2], l[4])
	dropped(t, few(), []int{63, 63, 63}, l[0], l[1], l[3], l[4], l[5])
	dropped(t, few(), []int{0, 1, 2, 5, 40, 63})
	dropped(t, few(), []int{63, 40, 5, 2, 1, 0, 0, 63})
	dropped(t, queue(want(0, 0, read)), []int{0})
	dropped(t, waits.Queue{}, []int{0, 1})
	dropped(t, waits.Queue{}, nil)
}

func TestDropOfNumbersThatAreNone(t *testing.T) {
	dropped(t, few(), noTx, few().L...)
	dropped(t, few(), []int{3, 4, 62, 9, 255, 7}, few().L...)
	dropped(t, few(), append([]int{5}, noTx...), few().L[1:]...)
	dropped(t, waits.Queue{}, noTx)
}

func TestDropOfAQueueThatMayNotBe(t *testing.T) {
	a, b, c := want(-1, 256, 7), want(64, least, none), want(2, 9, read)
	dropped(t, queue(a, b, c, a), []int{-1}, b, c)
	dropped(t, queue(a, b, c, a), []int{64, 2}, a, a)
	dropped(t, queue(a, b, c, a), []int{2}, a, b, a)
	dropped(t, queue(c, c, b, c), []int{2}, b)
	dropped(t, queue(want(most, 0, 1), want(least, 0, 1)), []int{most}, want(least, 0, 1))
	dropped(t, queue(append(many(64).L, many(64).L...)...), []int{63, 0}, append(many(64).L[1:63], many(64).L[1:63]...)...)
}

func TestDropOfMany(t *testing.T) {
	for at, w := range many(64).L {
		dropped(t, many(64), []int{w.Tx}, slices.Delete(many(64).L, at, at+1)...)
	}
	var ids []int
	for id := range 64 {
		ids = append(ids, id)
	}
	dropped(t, many(64), ids)
	dropped(t, many(64), ids[1:], many(64).L[63])
}

// P11.2

// tells holds Edges against what is known: each edge is a From and a To. Ready is held against what has none, where no Tx waits twice.
func tells(t *testing.T, q waits.Queue, l locks.Table, x tree.Tree, known ...[2]int) {
	t.Helper()
	var want []waits.Edge
	from := map[int]bool{}
	for _, e := range known {
		want = append(want, waits.Edge{From: e[0], To: e[1]})
		from[e[0]] = true
	}
	if got := edges(t, q, l, x); !slices.Equal(got, want) {
		t.Errorf("Edges(%v, %v, ..) = %v, want %v", q, l, got, want)
	}
	var free []waits.Want
	for _, w := range q.L {
		if !from[w.Tx] {
			free = append(free, w)
		}
	}
	if got := readies(t, q, l, x); plainSane(q) && !slices.Equal(got, free) {
		t.Errorf("Ready(%v, %v, ..) = %v, want %v", q, l, got, free)
	}
	stucks(t, q, l, x)
}

func TestEdgesOfNone(t *testing.T) {
	tells(t, waits.Queue{}, locks.Table{}, tree.Tree{})
	tells(t, waits.Queue{}, table(lock(9, 0, write, write)), family())
}

func TestEdgesOfWantsThatNothingIsAgainst(t *testing.T) {
	q := queue(want(0, 1, write), want(1, 2, write), want(6, 3, read), want(7, 3, read), want(8, 4, read))
	tells(t, q, locks.Table{}, family())
	tells(t, q, table(lock(2, 0, write, write), lock(2, 1, read, none), lock(3, 8, read, read), lock(4, 0, none, read)), family())
}

func TestEdgesOfOneLock(t *testing.T) {
	x := family()
	for owner := range x.L {
		for _, held := range []int{none, read, write} {
			for _, kept := range modes {
				for _, l := range []locks.Lock{lock(7, owner, held, kept), lock(7, owner, kept, held)} {
					for tx := range x.L {
						var reads, writes [][2]int
						if !stands(x, tx)[owner] {
							writes = [][2]int{{tx, owner}}
							if held == write || kept == write {
								reads = writes
							}
						}
						tells(t, queue(want(tx, 7, read)), table(l), x, reads...)
						tells(t, queue(want(tx, 7, write)), table(l), x, writes...)
						tells(t, queue(want(tx, 6, write)), table(l), x)
						tells(t, queue(want(tx, 8, write)), table(l), x)
					}
				}
			}
		}
	}
}

func TestEdgesOfSeveralLocks(t *testing.T) {
	l := table(
		lock(6, 8, write, write),
		lock(7, 0, read, none),
		lock(7, 2, none, read),
		lock(7, 4, read, read),
		lock(7, 7, none, read),
		lock(8, 1, none, write),
		lock(8, 3, write, none),
		lock(8, 6, read, none),
	)
	tells(t, queue(want(8, 7, write)), l, family(), [2]int{8, 0}, [2]int{8, 2}, [2]int{8, 4}, [2]int{8, 7})
	tells(t, queue(want(8, 7, read)), l, family())
	tells(t, queue(want(5, 7, write)), l, family(), [2]int{5, 2}, [2]int{5, 7})
	tells(t, queue(want(2, 7, write)), l, family(), [2]int{2, 4}, [2]int{2, 7})
	tells(t, queue(want(8, 8, read)), l, family(), [2]int{8, 1}, [2]int{8, 3})
	tells(t, queue(want(8, 8, write)), l, family(), [2]int{8, 1}, [2]int{8, 3}, [2]int{8, 6})
	tells(t, queue(want(3, 8, read)), l, family())
	tells(t, queue(want(3, 8, write)), l, family(), [2]int{3, 6})
	tells(t, queue(want(7, 8, read)), l, family(), [2]int{7, 1}, [2]int{7, 3})
	tells(t, queue(want(8, 6, write)), l, family())
}

func TestEdgesOfTwoWants(t *testing.T) {
	for _, ahead := range modes {
		for _, behind := range modes {
			var held [][2]int
			if ahead == write || behind == write {
				held = [][2]int{{8, 6}}
			}
			for _, block := range []int{0, 7, 255} {
				tells(t, queue(want(6, block, ahead), want(8, block, behind)), locks.Table{}, family(), held...)
				tells(t, queue(want(6, block, ahead), want(0, 100, write), want(9, 101, read), want(8, block, behind)), locks.Table{}, family(), held...)
				tells(t, queue(want(0, 100, read), want(6, block, ahead), want(8, block, behind), want(9, 101, write)), locks.Table{}, family(), held...)
			}
			for _, blocks := range [][2]int{{7, 8}, {8, 7}, {0, 255}, {255, 0}, {0, 1}} {
				tells(t, queue(want(6, blocks[0], ahead), want(8, blocks[1], behind)), locks.Table{}, family())
			}
		}
	}
}

func TestEdgesOfSeveralAhead(t *testing.T) {
	x := row(64)
	tells(t, few(), table(lock(1, 0, write, none), lock(8, 5, write, write), lock(10, 0, read, none)), x, [2]int{2, 5}, [2]int{1, 2})
	tells(t, queue(want(9, 7, read), want(3, 7, read), want(30, 8, write), want(12, 7, read), want(5, 7, write)), locks.Table{}, x,
		[2]int{5, 9}, [2]int{5, 3}, [2]int{5, 12})
	tells(t, queue(want(9, 7, write), want(3, 7, read), want(12, 7, write), want(5, 7, read)), locks.Table{}, x,
		[2]int{3, 9}, [2]int{12, 9}, [2]int{12, 3}, [2]int{5, 9}, [2]int{5, 12})
	tells(t, queue(want(9, 7, write), want(8, 7, write), want(7, 7, write), want(6, 7, write)), locks.Table{}, x,
		[2]int{8, 9}, [2]int{7, 9}, [2]int{7, 8}, [2]int{6, 9}, [2]int{6, 8}, [2]int{6, 7})
	tells(t, queue(want(9, 7, read), want(8, 7, read), want(7, 7, read), want(6, 7, read)), locks.Table{}, x)
}

// Of both kinds of edges those against it come first; who is both is told twice.
func TestEdgesOfBothKinds(t *testing.T) {
	x := row(64)
	l := table(lock(7, 2, read, none), lock(7, 5, none, read), lock(7, 30, read, none))
	tells(t, queue(want(9, 7, write), want(1, 7, write)), l, x,
		[2]int{9, 2}, [2]int{9, 5}, [2]int{9, 30},
		[2]int{1, 2}, [2]int{1, 5}, [2]int{1, 30}, [2]int{1, 9})
	tells(t, queue(want(9, 7, read), want(1, 7, read), want(3, 7, write)), l, x,
		[2]int{3, 2}, [2]int{3, 5}, [2]int{3, 30}, [2]int{3, 9}, [2]int{3, 1})
	tells(t, queue(want(4, 7, write), want(30, 8, write), want(1, 7, read)), table(lock(7, 2, write, none), lock(8, 0, none, write)), x,
		[2]int{4, 2}, [2]int{30, 0}, [2]int{1, 2}, [2]int{1, 4})
	tells(t, queue(want(4, 7, write), want(1, 7, read)), table(lock(7, 4, write, none)), x, [2]int{1, 4}, [2]int{1, 4})
	tells(t, queue(want(4, 7, write), want(1, 7, write)), table(lock(7, 2, read, none), lock(7, 4, read, none)), x,
		[2]int{4, 2}, [2]int{1, 2}, [2]int{1, 4}, [2]int{1, 4})
}

// The top one 0 is against the one ahead, 8: who stands in it may go by.
func TestEdgesOfOneThatStandsInOneAgainst(t *testing.T) {
	x := family()
	for _, held := range []locks.Lock{lock(7, 0, write, none), lock(7, 0, none, write), lock(7, 0, read, none), lock(7, 0, none, read)} {
		for tx := range 8 {
			var goes [][2]int
			if stands(x, tx)[0] {
				goes = [][2]int{{8, 0}}
			} else {
				goes = [][2]int{{8, 0}, {tx, 0}, {tx, 8}}
			}
			tells(t, queue(want(8, 7, write), want(tx, 7, write)), table(held), x, goes...)
		}
	}
	kept := table(lock(7, 1, none, write))
	tells(t, queue(want(8, 7, read), want(2, 7, write)), kept, x, [2]int{8, 1})
	tells(t, queue(want(8, 7, write), want(3, 7, read)), kept, x, [2]int{8, 1})
	tells(t, queue(want(8, 7, write), want(4, 7, read)), kept, x, [2]int{8, 1}, [2]int{4, 1}, [2]int{4, 8})
	tells(t, queue(want(8, 7, write), want(0, 7, read)), kept, x, [2]int{8, 1}, [2]int{0, 1}, [2]int{0, 8})
}

// Who is ahead waits for a lock of another block, for one that is not against it, or for another one ahead alone: then nobody goes by.
func TestEdgesOfOneThatStandsInOneNotAgainst(t *testing.T) {
	x := family()
	tells(t, queue(want(8, 7, write), want(1, 7, write)), table(lock(6, 0, write, write)), x, [2]int{1, 8})
	tells(t, queue(want(8, 7, read), want(1, 7, write)), table(lock(7, 0, read, none)), x, [2]int{1, 8})
	tells(t, queue(want(2, 7, write), want(1, 7, write)), table(lock(7, 1, write, none)), x, [2]int{1, 2})
	tells(t, queue(want(6, 7, write), want(8, 7, write), want(7, 7, write)), table(lock(7, 9, write, none)), x,
		[2]int{6, 9}, [2]int{8, 9}, [2]int{8, 6}, [2]int{7, 9}, [2]int{7, 6}, [2]int{7, 8})
	tells(t, queue(want(6, 7, write), want(8, 7, write), want(7, 7, write)), locks.Table{}, x,
		[2]int{8, 6}, [2]int{7, 6}, [2]int{7, 8})
}

// Of several against the one ahead, one is enough; each one ahead is asked by itself.
func TestEdgesOfSeveralAgainstTheOneAhead(t *testing.T) {
	x := family()
	for _, own := range []int{0, 1, 2} {
		var l []locks.Lock
		for id := range 8 {
			if id == own || id > 5 {
				l = append(l, lock(7, id, read, none))
			}
		}
		tells(t, queue(want(9, 7, write), want(8, 7, read), want(2, 7, read)), table(l...), x,
			[2]int{9, own}, [2]int{9, 6}, [2]int{9, 7}, [2]int{8, 9})
	}
	l := table(lock(7, 0, none, read), lock(7, 6, read, none))
	tells(t, queue(want(3, 7, write), want(9, 7, write), want(2, 7, write), want(7, 7, read), want(1, 7, read)), l, x,
		[2]int{3, 6},
		[2]int{9, 0}, [2]int{9, 6}, [2]int{9, 3},
		[2]int{2, 6}, [2]int{2, 3},
		[2]int{1, 3}, [2]int{1, 2})
}

func TestEdgesOfManyWants(t *testing.T) {
	x := row(64)
	var reads, writes []waits.Want
	var l locks.Table
	for i := range 64 {
		reads, writes = append(reads, want(63-i, 7, read)), append(writes, want(i, 7, write))
		l.L = append(l.L, lock(7, i, read, none))
	}
	tells(t, queue(reads...), l, x)
	if got := edges(t, queue(writes...), locks.Table{}, x); len(got) != 64*63/2 {
		t.Errorf("%d edges", len(got))
	}
	if got := edges(t, queue(writes...), l, x); len(got) != 64*63 {
		t.Errorf("%d edges", len(got))
	}
	l.L = l.L[:1]
	if got := edges(t, queue(writes...), l, x); len(got) != 63+64*63/2 {
		t.Errorf("%d edges", len(got))
	}
	if got := readies(t, queue(writes...), locks.Table{}, x); !slices.Equal(got, writes[:1]) {
		t.Errorf("%v are ready", got)
	}
	all(t, queue(writes...), l, x)
	all(t, queue(reads...), l, grown(slices.Repeat([]int{-1, 0, 1, 2, 3, 4, 5, 6}, 8)...))
}

func TestEdgesOfTxThatAreNoIDs(t *testing.T) {
	l := table(lock(7, 1, write, none), lock(7, 40, none, write))
	tells(t, queue(want(40, 7, read)), l, row(2), [2]int{40, 1}, [2]int{40, 40})
	tells(t, queue(want(1, 7, read), want(40, 7, read), want(41, 7, write)), l, row(2),
		[2]int{1, 40}, [2]int{40, 1}, [2]int{40, 40}, [2]int{41, 1}, [2]int{41, 40}, [2]int{41, 1}, [2]int{41, 40})
	tells(t, queue(want(0, 7, read), want(1, 7, write)), l, tree.Tree{}, [2]int{0, 1}, [2]int{0, 40}, [2]int{1, 1}, [2]int{1, 40}, [2]int{1, 0})
}

// The words are for any queue, where the table is Sane: one that has two wants may wait for itself, and a mode that is none is of use behind and ahead of Write alone.
func TestEdgesOfAQueueThatMayNotBe(t *testing.T) {
	x := family()
	tells(t, queue(want(8, 7, write), want(8, 7, write)), locks.Table{}, x, [2]int{8, 8})
	tells(t, queue(want(8, 7, read), want(8, 7, read), want(8, 7, write)), locks.Table{}, x, [2]int{8, 8}, [2]int{8, 8})
	tells(t, queue(want(8, 7, none), want(9, 7, 3), want(6, 7, write), want(0, 7, -1)), table(lock(7, 5, write, none)), x,
		[2]int{6, 5}, [2]int{6, 8}, [2]int{6, 9}, [2]int{0, 6})
	tells(t, queue(want(8, -1, write), want(9, 256, write), want(6, -1, read), want(most, 256, write), want(least, -1, write)), locks.Table{}, x,
		[2]int{6, 8}, [2]int{most, 9}, [2]int{least, 8}, [2]int{least, 6})
	if got := readies(t, queue(want(8, 7, write), want(8, 7, read), want(8, 6, read)), locks.Table{}, x); !slices.Equal(got, []waits.Want{want(8, 7, write), want(8, 6, read)}) {
		t.Errorf("%v are ready", got)
	}
}

// P11.3

// stuck holds Stuck against what is known.
func stuck(t *testing.T, q waits.Queue, l locks.Table, x tree.Tree, known ...int) {
	t.Helper()
	if got := stucks(t, q, l, x); !slices.Equal(got, known) {
		t.Errorf("Stuck(%v, %v, %v) = %v, want %v", q, l, x, got, known)
	}
	all(t, q, l, x)
}

// A circle tells that some wait each for the next one, and the last one for the first: each holds the block of its number and wants that of the next one.
func circle(ids ...int) ([]waits.Want, []locks.Lock) {
	var l []waits.Want
	var held []locks.Lock
	for i, id := range ids {
		l = append(l, want(id, 100+ids[(i+1)%len(ids)], write))
		held = append(held, lock(100+id, id, write, none))
	}
	return l, held
}

// circles are several of them, in one queue and one table.
func circles(of ...[]int) (waits.Queue, locks.Table) {
	var l []waits.Want
	var held []locks.Lock
	for _, ids := range of {
		more, locked := circle(ids...)
		l, held = append(l, more...), append(held, locked...)
	}
	slices.SortFunc(held, func(a, b locks.Lock) int { return a.Block*64 + a.Tx - b.Block*64 - b.Tx })
	return queue(l...), table(held...)
}

func TestStuckOfNone(t *testing.T) {
	stuck(t, waits.Queue{}, locks.Table{}, tree.Tree{})
	stuck(t, waits.Queue{}, locks.Table{}, family())
	stuck(t, waits.Queue{}, table(lock(7, 0, write, none)), family())
	stuck(t, queue(want(8, 7, write)), table(lock(7, 0, write, none)), family())
	stuck(t, queue(want(8, 7, write), want(9, 7, write), want(6, 7, read)), table(lock(7, 0, write, none)), family())
}

func TestStuckOfOneCircle(t *testing.T) {
	x := row(64)
	for _, ids := range [][]int{{0, 1}, {1, 0}, {5, 63}, {63, 5}, {0, 1, 2}, {2, 1, 0}, {7, 3, 50}, {9, 1, 8, 2, 7, 3}} {
		q, l := circles(ids)
		stuck(t, q, l, x, slices.Sorted(slices.Values(ids))...)
		for at := range q.L {
			stuck(t, waits.Queue{L: slices.Delete(slices.Clone(q.L), at, at+1)}, l, x)
		}
		slices.Reverse(q.L)
		stuck(t, q, l, x, slices.Sorted(slices.Values(ids))...)
	}
	var ids []int
	for id := range 64 {
		ids = append(ids, id)
	}
	q, l := circles(ids)
	stuck(t, q, l, x, ids...)
	stuck(t, waits.Drop(q, []int{31}), l, x)
	stuck(t, q, locks.Free(l, []int{63}), x)
}

func TestStuckOfTwoCircles(t *testing.T) {
	x := row(64)
	q, l := circles([]int{1, 5}, []int{8, 3, 2})
	stuck(t, q, l, x, 1, 2, 3, 5, 8)
	stuck(t, waits.Drop(q, []int{8}), l, x, 1, 5)
	stuck(t, waits.Drop(q, []int{5}), l, x, 2, 3, 8)
	stuck(t, waits.Drop(q, []int{5, 2}), l, x)
}

// Both have 4, which waits for two that hold one block.
func TestStuckOfTwoCirclesThatShareOne(t *testing.T) {
	l := table(lock(7, 1, read, none), lock(7, 2, read, none), lock(8, 4, write, none))
	q := queue(want(4, 7, write), want(1, 8, read), want(2, 8, read))
	stuck(t, q, l, row(5), 1, 2, 4)
	stuck(t, waits.Drop(q, []int{1}), l, row(5), 2, 4)
	stuck(t, waits.Drop(q, []int{2}), l, row(5), 1, 4)
	stuck(t, waits.Drop(q, []int{4}), l, row(5))
}

// One waits for a circle, and the circle for another circle, or for one that is free.
func TestStuckOfOneThatWaitsForACircle(t *testing.T) {
	x := row(64)
	q, l := circles([]int{1, 5})
	stuck(t, queue(append(q.L, want(9, 101, read))...), l, x, 1, 5)
	stuck(t, queue(append([]waits.Want{want(0, 250, write)}, q.L...)...), table(append(l.L, lock(250, 5, read, none))...), x, 1, 5)
	stuck(t, queue(append(q.L, want(9, 101, read), want(10, 101, write))...), l, x, 1, 5)
	readers := table(lock(101, 1, read, none), lock(101, 20, read, none), lock(105, 5, write, none))
	stuck(t, q, readers, x, 1, 5)
	q, l = circles([]int{1, 5}, []int{30, 31})
	l.L = slices.Insert(l.L, 1, lock(101, 30, none, write))
	stuck(t, q, l, x, 1, 5, 30, 31)
	stuck(t, waits.Drop(q, []int{1}), l, x, 30, 31)
}

// The edge goes to a top one; the way back goes by those in it.
func TestStuckByKids(t *testing.T) {
	x := grown(-1, 0, 1, -1, 3)
	l := table(lock(7, 0, write, none), lock(8, 3, write, none))
	stuck(t, queue(want(3, 7, write), want(0, 8, write)), l, x, 0, 3)
	stuck(t, queue(want(3, 7, write), want(1, 8, write)), l, x, 1, 3)
	stuck(t, queue(want(3, 7, write), want(2, 8, write)), l, x, 2, 3)
	stuck(t, queue(want(4, 7, write), want(2, 8, write)), l, x, 2, 4)
	stuck(t, queue(want(4, 7, write), want(0, 8, write)), l, x, 0, 4)
	stuck(t, queue(want(4, 7, write)), l, x)
	kids := table(lock(7, 2, write, none), lock(8, 4, write, none))
	stuck(t, queue(want(4, 7, write), want(2, 8, write)), kids, x, 2, 4)
	stuck(t, queue(want(3, 7, write), want(0, 8, write)), kids, x)
	stuck(t, queue(want(3, 7, write), want(2, 8, write)), kids, x)
}

// A parent that wants what its own kid holds waits for that kid, no more; where the kid wants what a third one holds that waits for the parent, it has no edge of its own.
func TestStuckOfOneWithoutAnEdge(t *testing.T) {
	x := grown(-1, 0, -1)
	l := table(lock(7, 0, write, none), lock(8, 2, write, none))
	stuck(t, queue(want(2, 7, write), want(1, 8, write)), l, x, 1, 2)
	q, held := circles([]int{1, 2})
	stuck(t, q, held, x, 1, 2)
	stuck(t, queue(append(q.L, want(0, 101, write))...), held, x, 1, 2)
	stuck(t, queue(want(0, 7, write)), table(lock(7, 1, write, none)), x)
	stuck(t, queue(want(0, 7, read), want(1, 9, read)), table(lock(7, 1, write, none)), x)
	stuck(t, queue(want(0, 7, read), want(1, 7, write)), table(lock(7, 2, write, none)), x, 1)
}

func TestStuckByKidsThatAreNotLive(t *testing.T) {
	x := grown(-1, 0, 1, -1)
	l := table(lock(7, 0, write, none), lock(8, 3, write, none))
	q := queue(want(3, 7, write), want(2, 8, write))
	stuck(t, q, l, x, 2, 3)
	for _, state := range []int{tree.Done, tree.Undone, 0, 4, -1, least, most} {
		for _, id := range []int{0, 1, 2} {
			stuck(t, q, l, turned(x, state, id))
		}
		stuck(t, q, l, turned(x, state, 1, 2))
		stuck(t, q, l, turned(x, state, 0, 1, 2))
		stuck(t, q, l, turned(x, state, 3), 2, 3)
	}
	direct := queue(want(3, 7, write), want(0, 8, write))
	stuck(t, direct, l, turned(x, tree.Done, 0, 1, 2, 3), 0, 3)
}

func TestStuckByHeldUpWants(t *testing.T) {
	x := row(10)
	l := table(lock(7, 1, read, none), lock(8, 2, write, none))
	stuck(t, queue(want(3, 7, write), want(2, 7, read), want(1, 8, read)), l, x, 1, 2, 3)
	stuck(t, queue(want(2, 7, read), want(3, 7, write), want(1, 8, read)), l, x)
	stuck(t, queue(want(3, 7, read), want(2, 7, read), want(1, 8, read)), l, x)
	stuck(t, queue(want(3, 7, read), want(2, 7, write), want(1, 8, read)), l, x, 1, 2)
}

// Who stands in one that is against the one ahead goes by; else both would be stuck.
func TestStuckOfOneThatMayGoBy(t *testing.T) {
	x := grown(-1, 0, -1, 2)
	stuck(t, queue(want(2, 7, write), want(1, 7, write)), table(lock(7, 0, read, none)), x)
	stuck(t, queue(want(2, 7, write), want(1, 7, write)), table(lock(7, 0, read, none), lock(7, 2, read, none)), x, 1, 2)
	stuck(t, queue(want(2, 7, write), want(0, 7, write)), table(lock(7, 0, read, none), lock(7, 2, read, none)), x, 0, 2)
}

func TestStuckOfIDsAlone(t *testing.T) {
	q, l := circles([]int{5, 6})
	for n := range 6 {
		stuck(t, q, l, row(n))
	}
	stuck(t, q, l, row(6))
	stuck(t, q, l, row(7), 5, 6)
	q, l = circles([]int{1, 5, 2}, []int{0, 3})
	stuck(t, q, l, row(4), 0, 3)
	stuck(t, q, l, row(5), 0, 3)
	stuck(t, q, l, row(6), 0, 1, 2, 3, 5)
	itself := table(lock(7, 40, write, none))
	stuck(t, queue(want(40, 7, read)), itself, row(40))
	stuck(t, queue(want(40, 7, read)), itself, row(41))
	stuck(t, queue(want(8, 7, write), want(8, 7, write)), locks.Table{}, row(9), 8)
	stuck(t, queue(want(8, 7, write), want(8, 7, write)), locks.Table{}, row(8))
}

// Victim

func TestVictim(t *testing.T) {
	x := row(64)
	for _, c := range []struct {
		of     [][]int
		victim int
	}{
		{nil, -1}, {[][]int{{0, 1}}, 1}, {[][]int{{1, 0}}, 1}, {[][]int{{62, 63}}, 63}, {[][]int{{63, 0}}, 63},
		{[][]int{{1, 5}, {8, 3, 2}}, 8}, {[][]int{{8, 3, 2}, {9, 1}}, 9}, {[][]int{{0, 40}, {50, 3, 2}}, 50},
	} {
		q, l := circles(c.of...)
		if got := waits.Victim(q, l, x); got != c.victim {
			t.Errorf("Victim of %v: %d, want %d", c.of, got, c.victim)
		}
		q = queue(append(q.L, want(60, 0, write), want(61, 0, write))...)
		if got := waits.Victim(q, l, x); got != c.victim {
			t.Errorf("Victim of %v and two that wait: %d, want %d", c.of, got, c.victim)
		}
	}
	if got := waits.Victim(waits.Queue{}, locks.Table{}, tree.Tree{}); got != -1 {
		t.Errorf("Victim of none: %d", got)
	}
}

// All calls, at queues, tables and trees of any kind

// strangeTables may not be: their order, modes or numbers are none.
func strangeTables() []locks.Table {
	return []locks.Table{
		table(lock(7, 1, write, none), lock(7, 1, read, none), lock(7, 0, write, write)),
		table(lock(9, 1, write, none), lock(7, 8, write, none), lock(0, 0, read, none), lock(7, 9, read, read)),
		table(lock(7, 1, none, none), lock(7, 2, 3, none), lock(7, 3, -1, most), lock(7, 4, least, least)),
		table(lock(7, -1, write, none), lock(7, 64, write, none), lock(7, least, write, none), lock(7, most, write, none)),
		table(lock(least, 1, write, none), lock(-1, 1, write, none), lock(7, most, write, none), lock(256, 1, write, none), lock(most, 1, write, none)),
	}
}

// strangeTree is one that is not Sane: parents go round, or are no IDs, or stand above; States are none.
func strangeTree() tree.Tree {
	x := grown(1, 0, 1, 3, 77, most, least, -2, 9, -1)
	x.L[2].State, x.L[3].State, x.L[7].State = 4, -1, least
	return x
}

func strangeQueues() []waits.Queue {
	return []waits.Queue{
		queue(want(8, 7, write), want(8, 7, write), want(9, 7, read), want(8, 7, read)),
		queue(want(-1, 7, write), want(64, 7, write), want(most, 7, read), want(least, 7, write)),
		queue(want(1, -1, write), want(2, 256, write), want(3, most, read), want(4, least, write), want(5, -1, write)),
		queue(want(1, 7, none), want(2, 7, 3), want(3, 7, -1), want(4, 7, most), want(5, 7, least), want(6, 7, write), want(0, 7, none)),
		queue(append(many(64).L, many(64).L...)...),
	}
}

func TestWhatMayNotBe(t *testing.T) {
	trees := []tree.Tree{{}, family(), row(10), row(66), strangeTree(), grown(0), grown(1, 0), grown(1, 2, 0), grown(slices.Repeat([]int{0}, 70)...)}
	tables := append(strangeTables(), locks.Table{}, table(lock(7, 0, write, none), lock(9, 1, read, read)))
	queues := append(strangeQueues(), waits.Queue{}, few())
	for _, x := range trees {
		for _, l := range tables {
			for _, q := range queues {
				edges(t, q, l, x)
				readies(t, q, l, x)
				stucks(t, q, l, x)
			}
		}
	}
	for _, q := range queues {
		all(t, q, locks.Table{}, strangeTree())
	}
}

// Parents that go round: who is Live waits for its kids, be it itself.
func TestStuckWhereParentsGoRound(t *testing.T) {
	l := table(lock(7, 2, write, none))
	stuck(t, queue(want(0, 7, write)), l, grown(0, -1, -1))
	stuck(t, queue(want(0, 7, write)), l, grown(1, 0, -1))
	stuck(t, queue(want(0, 7, write)), l, grown(1, 2, 0))
	stuck(t, queue(want(2, 7, write)), l, grown(1, 2, 0))
	stuck(t, queue(want(3, 7, write)), l, grown(1, 2, 0, 3))
	stuck(t, queue(want(3, 7, write), want(1, 8, write)), table(lock(7, 2, write, none), lock(8, 3, write, none)), grown(1, 2, 0, 3), 1, 3)
}

// script is as many bytes, of any kind, but the same ones each time.
func script(seed uint32, n int) []byte {
	b := make([]byte, n)
	for i := range b {
		seed = seed*1664525 + 1013904223
		b[i] = byte(seed >> 24)
	}
	return b
}

// anyQueue is a queue of any kind: two bytes a want. Many of them may be.
func anyQueue(b []byte) waits.Queue {
	strange := len(b) > 0 && b[0]%4 == 0
	var q waits.Queue
	for ; len(b) >= 2; b = b[2:] {
		w := want(int(b[0]%12), []int{5, 6, 7}[b[1]%3], modes[b[1]/3%2])
		if strange && b[1] > 200 {
			w = want([]int{-1, 64, least, most, 3}[b[0]%5], []int{-1, 256, least, most, 5}[b[0]/5%5], int(b[1]%6)-1)
		}
		if next, e := waits.Add(q, w); e == api.OK && !strange {
			q = next
		} else if strange {
			q.L = append(q.L, w)
		}
	}
	return queue(q.L...)
}

// anyTable is a table of any kind: two bytes a lock. Many of them may be.
func anyTable(b []byte) locks.Table {
	strange := len(b) > 0 && b[0]%5 == 0
	byPlace := map[int]locks.Lock{}
	var l []locks.Lock
	for ; len(b) >= 2; b = b[2:] {
		block, tx := int(b[0]%3), int(b[1]%12)
		one := lock(5+block, tx, int(b[0]/3%3), int(b[1]/12%3))
		if strange && b[1] > 200 {
			one = lock([]int{-1, 5, least, most}[b[0]%4], []int{-1, 64, least, most}[b[1]%4], int(b[0]/4%5)-1, int(b[1]/4%5)-1)
		}
		if l = append(l, one); one.Held != none || one.Kept != none {
			byPlace[block*64+tx] = one
		}
	}
	if strange {
		return table(l...)
	}
	l = nil
	for _, place := range slices.Sorted(maps.Keys(byPlace)) {
		l = append(l, byPlace[place])
	}
	return table(l...)
}

// anyTree is a tree of any kind: two bytes a transaction. Most of them are Live.
func anyTree(b []byte) tree.Tree {
	var x tree.Tree
	n := len(b) / 2
	for ; len(b) >= 2; b = b[2:] {
		parent := int(b[0])%(n+2) - 1
		if b[0] > 250 {
			parent = []int{-2, 64, least, most, n}[b[0]-251]
		}
		if b[0] < 100 {
			parent = min(parent, len(x.L)-1)
		}
		x.L = append(x.L, tree.Tx{Parent: parent, State: max(int(b[1]%9)-5, tree.Live)})
	}
	return x
}

func TestAllOfAnyKind(t *testing.T) {
	may, tables, rings, free := 0, 0, 0, 0
	const n = 2000
	for seed := range uint32(n) {
		q, l, x := anyQueue(script(seed, int(seed%30))), anyTable(script(seed+n, int(seed/2%30))), anyTree(script(seed+2*n, int(seed/3%30)))
		if seed%5 == 0 {
			all(t, q, l, x)
		}
		edges(t, q, l, x)
		if got := stucks(t, q, l, x); len(got) > 1 && len(got) < len(q.L) {
			rings++
		}
		if got := readies(t, q, l, x); len(got) > 0 && len(got) < len(q.L) {
			free++
		}
		if waits.Sane(q) {
			may++
		}
		if locks.Sane(l) {
			tables++
		}
	}
	if may < n/2 || may > n*9/10 || tables < n/2 || tables > n*9/10 || rings < n/20 || free < n/5 {
		t.Errorf("of %d: %d queues and %d tables may be, some are stuck in %d, ready in %d", n, may, tables, rings, free)
	}
}

const large = 1 << 16

// shapes are trees of many: each in the one before, in the one behind, in a ring, in the first one, in none, in rings of two, and in one that stands far up.
func shapes() []tree.Tree {
	var l []tree.Tree
	for _, parent := range []func(id int) int{
		func(id int) int { return id - 1 },
		func(id int) int { return id + 1 },
		func(id int) int { return (id + 1) % large },
		func(id int) int { return min(id, 1) - 1 },
		func(id int) int { return -1 },
		func(id int) int { return id ^ 1 },
		func(id int) int {
			if id < 64 {
				return 64
			}
			return id + 1
		},
	} {
		var parents []int
		for id := range large {
			parents = append(parents, parent(id))
		}
		l = append(l, grown(parents...))
	}
	return l
}

// Each call ends soon, however far one stands up, and whoever else is there.
func TestLargeTrees(t *testing.T) {
	var l, longer locks.Table
	var q, mixed waits.Queue
	for i := range 64 {
		l.L = append(l.L, lock(7, i, read, none))
		q.L = append(q.L, want(i, 7, write))
		mixed.L = append(mixed.L, want(63-i, 7+i%2, modes[i%3/2]))
	}
	for i := range large {
		longer.L = append(longer.L, lock(7, i, write, none))
	}
	for at, x := range shapes() {
		from := map[int]int{}
		for _, e := range waits.Edges(q, l, x) {
			from[e.From]++
		}
		ready, stuck := waits.Ready(q, l, x), waits.Stuck(q, l, x)
		if len(ready)+len(from) != 64 || len(stuck) > len(from) {
			t.Errorf("shape %d: %d are ready, %d wait, %d are stuck", at, len(ready), len(from), len(stuck))
		}
		stuck = waits.Stuck(mixed, longer, x)
		if victim := waits.Victim(mixed, longer, x); len(stuck) > 0 && victim != stuck[len(stuck)-1] {
			t.Errorf("shape %d: the victim is %d of %v", at, victim, stuck)
		}
	}
	top := row(large)
	if got := waits.Stuck(q, l, top); len(got) != 64 {
		t.Errorf("%d are stuck", len(got))
	}
	if got := waits.Stuck(q, locks.Table{}, top); len(got) != 0 {
		t.Errorf("%d are stuck", len(got))
	}
	if got := waits.Victim(q, l, top); got != 63 {
		t.Errorf("the victim is %d", got)
	}
}

// From 5 one comes by its kid 64, that one's kid 65, and so on, to 65535, whose kid is 0, and so to 4. Who stands in whom is the other way round.
func TestStuckByALongWay(t *testing.T) {
	x := shapes()[0]
	x.L[64].Parent, x.L[0].Parent = 5, large-1
	x.L[5].Parent, x.L[6].Parent = -1, -1
	l := table(lock(8, 6, write, none), lock(9, 5, write, none))
	four, five, six := want(4, 8, read), want(5, 8, read), want(6, 9, read)
	for _, c := range []struct {
		q     waits.Queue
		stuck []int
	}{
		{queue(four, six), []int{4, 6}},
		{queue(six, four, five), []int{4, 5, 6}},
		{queue(five, six), []int{5, 6}},
		{queue(four, five), nil},
		{queue(six), nil},
	} {
		if got := waits.Stuck(c.q, l, x); !slices.Equal(got, c.stuck) {
			t.Errorf("Stuck(%v, ..) = %v, want %v", c.q, got, c.stuck)
		}
	}
	x.L[30000].State = tree.Done
	if got := waits.Stuck(queue(four, six), l, x); len(got) != 0 {
		t.Errorf("with one that is Done on the way: %v", got)
	}
	if got := waits.Victim(queue(five, six), l, x); got != 6 {
		t.Errorf("the victim is %d", got)
	}
}

// Queues that are too long: their Tx are no numbers of a queue that may be, but IDs of the tree.
func TestLargeQueues(t *testing.T) {
	x := row(large)
	var apart, circle waits.Queue
	var ids []int
	for i := range large {
		apart.L = append(apart.L, want(i, i, write))
		circle.L = append(circle.L, want(i, i, write), want((i+1)%large, i, write))
		ids = append(ids, i)
	}
	if got := waits.Ready(apart, locks.Table{}, x); !slices.Equal(got, apart.L) {
		t.Errorf("%d are ready", len(got))
	}
	if got := waits.Stuck(apart, locks.Table{}, x); len(got) != 0 {
		t.Errorf("%d are stuck", len(got))
	}
	if got := waits.Edges(circle, locks.Table{}, x); len(got) != large || got[large-1] != (waits.Edge{From: 0, To: large - 1}) {
		t.Errorf("%d edges", len(got))
	}
	if got := waits.Stuck(circle, locks.Table{}, x); !slices.Equal(got, ids) {
		t.Errorf("%d are stuck", len(got))
	}
	if got := waits.Stuck(waits.Queue{L: circle.L[1:]}, locks.Table{}, x); len(got) != 0 {
		t.Errorf("%d are stuck", len(got))
	}
	if got := waits.Drop(circle, ids[1:]); !slices.Equal(got.L, []waits.Want{want(0, 0, write), want(0, large-1, write)}) {
		t.Errorf("%v are left", got)
	}
	for _, q := range []waits.Queue{apart, circle} {
		if got, e := waits.Add(q, want(0, 0, read)); waits.Sane(q) || e != api.ErrArg || got.L != nil {
			t.Errorf("Add: %v", e)
		}
	}
	var one waits.Queue
	for i := range 1500 {
		one.L = append(one.L, want(i, 7, write))
	}
	if got := waits.Edges(one, locks.Table{}, x); len(got) != 1500*1499/2 {
		t.Errorf("%d edges", len(got))
	}
	if got := waits.Stuck(one, locks.Table{}, x); len(got) != 0 {
		t.Errorf("%d are stuck", len(got))
	}
}

// P11.4

// world is a tree, its locks and wants.
type world struct {
	x tree.Tree
	l locks.Table
	q waits.Queue
}

// waiting: does one have a want?
func (w world) waiting(id int) bool {
	return slices.ContainsFunc(w.q.L, func(one waits.Want) bool { return one.Tx == id })
}

// leaf: is one Live that has no kid that is?
func (w world) leaf(id int) bool {
	for kid, one := range w.x.L {
		if one.Parent == id && isLive(w.x, kid) {
			return false
		}
	}
	return isLive(w.x, id)
}

func (w world) begin(_ *testing.T, parent int) (world, api.Errno) {
	x, _, e := tree.Begin(w.x, parent)
	if e == api.OK {
		w.x = x
	}
	return w, e
}

// commit lets one be done, and its parent keep what it has; it waits for nothing any more.
func (w world) commit(t *testing.T, id int) (world, api.Errno) {
	x, e := tree.Commit(w.x, id)
	if e != api.OK {
		return w, e
	}
	return world{x, locks.Pass(w.l, id, x.L[id].Parent), drops(t, w.q, id)}, api.OK
}

// abort undoes one, and all in it; their locks and wants are gone.
func (w world) abort(t *testing.T, id int) (world, api.Errno) {
	x, gone, e := tree.Abort(w.x, id)
	if e != api.OK {
		return w, e
	}
	return world{x, locks.Free(w.l, gone), drops(t, w.q, gone...)}, api.OK
}

// ask lets one have a block, or wait for it, where locks are against it.
func (w world) ask(t *testing.T, id, block, mode int) (world, api.Errno) {
	l, e := locks.Ask(w.l, w.x, id, block, mode)
	if e == api.OK {
		w.l = l
	}
	if e != api.ErrWait {
		return w, e
	}
	q, e := adds(t, w.q, want(id, block, mode))
	if e == api.OK {
		w.q = q
	}
	return w, e
}

// stand lets one wait behind those that are there, and go on where it is ready.
func (w world) stand(t *testing.T, id, block, mode int) (world, api.Errno) {
	if !isLive(w.x, id) {
		return w, api.ErrState
	}
	q, e := adds(t, w.q, want(id, block, mode))
	if e != api.OK {
		return w, e
	}
	w.q = q
	if slices.Contains(readies(t, w.q, w.l, w.x), want(id, block, mode)) {
		return w.grant(t, id)
	}
	return w, api.OK
}

// grant lets one that is ready have what it waits for: nothing may be against it.
func (w world) grant(t *testing.T, id int) (world, api.Errno) {
	t.Helper()
	for _, one := range readies(t, w.q, w.l, w.x) {
		if one.Tx != id {
			continue
		}
		l, e := locks.Ask(w.l, w.x, id, one.Block, one.Mode)
		if e != api.OK {
			t.Fatalf("%v is ready in %v, but is answered %v", one, w, e)
		}
		return world{w.x, l, drops(t, w.q, id)}, api.OK
	}
	return w, api.ErrState
}

// goes holds P11.4 of a world, and tells how many are stuck.
func (w world) goes(t *testing.T) int {
	t.Helper()
	ids := map[int]bool{}
	for _, l := range w.l.L {
		ids[l.Tx] = true
	}
	for _, one := range w.q.L {
		ids[one.Tx] = true
	}
	for id := range ids {
		if !isLive(w.x, id) {
			t.Fatalf("%d is not Live in %v", id, w)
		}
	}
	stuck, may := stucks(t, w.q, w.l, w.x), len(readies(t, w.q, w.l, w.x)) > 0
	for id := range w.x.L {
		may = may || w.leaf(id) && !w.waiting(id)
	}
	if !may && len(stuck) == 0 && len(w.q.L) > 0 {
		t.Fatalf("nobody is stuck, and nobody goes on: %v", w)
	}
	for _, id := range stuck {
		if slices.Contains(stucks(t, drops(t, w.q, id), w.l, w.x), id) {
			t.Fatalf("%d is stuck without a want: %v", id, w)
		}
	}
	return len(stuck)
}

// ends lets all go on until nobody is Live: who is ready has its block, else the victim is undone, else the last one that may be is done.
func (w world) ends(t *testing.T) {
	t.Helper()
	for range 1000 {
		w.goes(t)
		var e api.Errno
		last := -1
		for id := range w.x.L {
			if w.leaf(id) && !w.waiting(id) {
				last = id
			}
		}
		ready, victim := readies(t, w.q, w.l, w.x), waits.Victim(w.q, w.l, w.x)
		switch {
		case len(ready) > 0:
			w, e = w.grant(t, ready[0].Tx)
		case victim >= 0:
			w, e = w.abort(t, victim)
		case last >= 0:
			w, e = w.commit(t, last)
		default:
			if len(w.q.L) > 0 || len(w.l.L) > 0 {
				t.Fatalf("behind all there is %v", w)
			}
			return
		}
		if e != api.OK {
			t.Fatalf("%v in %v", e, w)
		}
	}
	t.Fatalf("%v does not end", w)
}

// counts are how many worlds were come to, and in how many of these somebody waited, and was stuck.
type counts struct{ all, waited, stuck int }

func (c *counts) count(t *testing.T, w world) {
	c.all++
	if len(w.q.L) > 0 {
		c.waited++
	}
	if w.goes(t) > 0 {
		c.stuck++
	}
}

// rows goes over all rows of so many steps that have no error.
func (w world) rows(t *testing.T, c *counts, blocks, steps int) {
	c.count(t, w)
	if steps == 0 {
		if c.all%8 == 0 {
			w.ends(t)
		}
		return
	}
	further := func(next world, e api.Errno) {
		if e == api.OK {
			next.rows(t, c, blocks, steps-1)
		}
	}
	for id := range w.x.L {
		for block := range blocks {
			further(w.ask(t, id, block, write))
			further(w.stand(t, id, block, read))
		}
		further(w.commit(t, id))
		further(w.abort(t, id))
		further(w.grant(t, id))
	}
}

func TestEachRowOfSteps(t *testing.T) {
	for _, one := range []struct {
		parents       []int
		blocks, steps int
	}{
		{[]int{-1, 0, -1}, 1, 4},
		{[]int{-1, 0, 0}, 1, 5},
		{[]int{-1, -1}, 2, 5},
		{[]int{-1, 0, -1, 2}, 1, 4},
		{[]int{-1, 0, 1, -1}, 1, 4},
	} {
		var c counts
		world{x: grown(one.parents...)}.rows(t, &c, one.blocks, one.steps)
		if c.all < 1000 || c.waited < 100 || c.stuck < 10 {
			t.Errorf("%v: only %v", one, c)
		}
	}
}

// pick is one of a tree, most often one of the last ones, or what is none.
func pick(x tree.Tree, b byte) int {
	n := len(x.L)
	switch {
	case b < 4 || n == 0:
		return []int{-1, n, 64, least}[b%4]
	case b < 160:
		return n - 1 - int(b)%min(n, 12)
	}
	return int(b) % n
}

// step is one of any kind; it may have an error.
func (w world) step(t *testing.T, what, who, which byte) (world, api.Errno) {
	id := pick(w.x, who)
	block, mode := []int{0, 0, 1, 1, 2, 254, 255}[which%7], modes[which/7%2]
	switch what % 16 {
	case 0, 1, 2:
		if which%4 == 0 {
			id = -1
		}
		return w.begin(t, id)
	case 3:
		return w.commit(t, id)
	case 4:
		if which%4 > 0 {
			return w, api.OK
		}
		return w.abort(t, id)
	case 5, 6:
		return w.grant(t, id)
	case 7:
		if which%4 == 0 {
			return w.abort(t, waits.Victim(w.q, w.l, w.x))
		}
		return w, api.OK
	case 8, 9, 10, 11:
		return w.stand(t, id, block, mode)
	}
	return w.ask(t, id, block, mode)
}

// steps goes over a row of steps; behind it all ends.
func steps(t *testing.T, script []byte) counts {
	var w world
	var c counts
	for ; len(script) > 2; script = script[3:] {
		if len(w.x.L) == api.MaxTx && script[2]%16 == 0 {
			w.ends(t)
			w = world{}
		}
		next, e := w.step(t, script[0], script[1], script[2])
		if e == api.OK {
			w = next
			c.count(t, w)
		}
	}
	w.ends(t)
	return c
}

func TestStepsOfAnyKind(t *testing.T) {
	var c counts
	for seed := range uint32(30) {
		one := steps(t, script(seed, 900))
		c = counts{c.all + one.all, c.waited + one.waited, c.stuck + one.stuck}
	}
	if c.all < 3000 || c.waited < 1000 || c.stuck < 100 {
		t.Errorf("only %v", c)
	}
}

// What is handed in, answered and kept

func TestAddTwiceToOneQueue(t *testing.T) {
	q := few() // with room behind
	first, _ := waits.Add(q, want(30, 30, read))
	second, _ := waits.Add(q, want(31, 31, write))
	behind := q.L[len(q.L):cap(q.L)]
	if first.L[6] != want(30, 30, read) || second.L[6] != want(31, 31, write) || behind[0] != (waits.Want{}) {
		t.Errorf("%v, %v, and behind the list %v", first, second, behind)
	}
	if !sameQueue(q, few()) || !slices.Equal(first.L[:6], q.L) || !slices.Equal(second.L[:6], q.L) {
		t.Errorf("%v, %v of %v", first, second, q)
	}
	third, _ := waits.Add(first, want(32, 32, read))
	fourth, _ := waits.Add(first, want(33, 33, write))
	fifth, _ := waits.Add(waits.Drop(first, nil), want(34, 34, write))
	if third.L[7] != want(32, 32, read) || fourth.L[7] != want(33, 33, write) || fifth.L[7] != want(34, 34, write) {
		t.Errorf("%v, %v, %v", third, fourth, fifth)
	}
}

// scribble writes over a list, and over the room behind it.
func scribble[T any](l []T, with T) {
	l = l[:cap(l)]
	for i := range l {
		l[i] = with
	}
}

func TestWhatIsAnsweredIsNewMemory(t *testing.T) {
	x := family()
	l := table(lock(7, 0, read, none), lock(7, 6, read, none), lock(9, 2, write, none), lock(9, 8, none, write))
	for _, q := range []waits.Queue{few(), {}, queue(), queue(want(8, 7, write), want(6, 9, read), want(2, 7, write)), queue(want(1, 1, read))} {
		stay := stays(t, "each call", q, l, x)
		for range 2 {
			for _, w := range []waits.Want{want(30, 7, read), want(31, 9, write)} {
				got, _ := adds(t, q, w)
				scribble(got.L, want(77, 77, 77))
				stay()
			}
			for _, ids := range [][]int{nil, {5}, {8, 6}, {1}, {64}} {
				scribble(drops(t, q, ids...).L, want(77, 77, 77))
				stay()
			}
			scribble(readies(t, q, l, x), want(77, 77, 77))
			scribble(edges(t, q, l, x), waits.Edge{From: 77, To: 77})
			scribble(stucks(t, q, l, x), 77)
			stay()
		}
	}
}

func TestNothingIsKept(t *testing.T) {
	q, l := circles([]int{1, 5}, []int{8, 3, 2})
	q.L = append(q.L, want(9, 0, write))
	x := row(10)
	added, _ := waits.Add(q, want(0, 0, read))
	dropped, ready, told, ids := waits.Drop(q, []int{9}), waits.Ready(q, l, x), waits.Edges(q, l, x), waits.Stuck(q, l, x)
	wants, edges, stuck := []waits.Queue{queue(added.L...), queue(dropped.L...), queue(ready...)}, slices.Clone(told), slices.Clone(ids)
	scribble(q.L, want(77, 77, 77))
	scribble(l.L, lock(77, 77, 77, 77))
	scribble(x.L, tree.Tx{})
	if !sameQueue(added, wants[0]) || !sameQueue(dropped, wants[1]) || !slices.Equal(ready, wants[2].L) || !slices.Equal(told, edges) || !slices.Equal(ids, stuck) {
		t.Errorf("%v, %v, %v, %v, %v", added, dropped, ready, told, ids)
	}
	q, l = circles([]int{1, 5}, []int{8, 3, 2})
	for range 3 {
		all(t, q, l, row(10))
		all(t, q, l, x)
	}
}

// The example

func TestTheExample(t *testing.T) {
	x := row(2)
	l := table(lock(7, 0, write, none), lock(8, 1, write, none))
	q := added(t, waits.Queue{}, want(0, 8, write))
	tells(t, q, l, x, [2]int{0, 1})
	stuck(t, q, l, x)
	q = added(t, q, want(1, 7, write))
	tells(t, q, l, x, [2]int{0, 1}, [2]int{1, 0})
	stuck(t, q, l, x, 0, 1)
	if got := waits.Victim(q, l, x); got != 1 {
		t.Errorf("the victim is %d", got)
	}
	x, gone, _ := tree.Abort(x, 1)
	q, l = waits.Drop(q, gone), locks.Free(l, gone)
	tells(t, q, l, x)
	stuck(t, q, l, x)
}

func ExampleVictim() {
	x, first, _ := tree.Begin(tree.Tree{}, -1)
	x, second, _ := tree.Begin(x, -1)
	t, _ := locks.Ask(locks.Table{}, x, first, 7, locks.Write)
	t, _ = locks.Ask(t, x, second, 8, locks.Write)
	q, _ := waits.Add(waits.Queue{}, waits.Want{Tx: first, Block: 8, Mode: locks.Write})
	q, _ = waits.Add(q, waits.Want{Tx: second, Block: 7, Mode: locks.Write})
	fmt.Println(waits.Edges(q, t, x), waits.Stuck(q, t, x), waits.Victim(q, t, x))
	// Output: [{0 1} {1 0}] [0 1] 1
}

// P1

func FuzzAll(f *testing.F) {
	f.Add([]byte{}, []byte{}, []byte{})
	for seed := range uint32(20) {
		f.Add(script(seed, int(seed*2)), script(seed+100, int(seed*2)), script(seed+200, int(seed*2)))
	}
	f.Fuzz(func(t *testing.T, b, c, d []byte) {
		all(t, anyQueue(b[:min(len(b), 40)]), anyTable(c[:min(len(c), 40)]), anyTree(d[:min(len(d), 40)]))
	})
}

func FuzzNumbers(f *testing.F) {
	f.Add(1, 7, 1, 7, 0, 2, 0)
	f.Add(most, least, most, least, most, least, 2)
	f.Fuzz(func(t *testing.T, tx, block, mode, locked, owner, held, kept int) {
		one, own := want(tx, block, mode), lock(locked, owner, held, kept)
		for _, q := range []waits.Queue{queue(one), queue(want(8, 7, write), one, want(2, 7, read)), queue(one, want(6, block, write), one)} {
			for _, l := range []locks.Table{table(own), table(lock(7, 1, read, none), own, lock(9, 2, write, none)), table(own, own)} {
				all(t, q, l, family())
			}
		}
	})
}

func FuzzSteps(f *testing.F) {
	for seed := range uint32(20) {
		f.Add(script(seed+1000, 300))
	}
	f.Fuzz(func(t *testing.T, b []byte) { steps(t, b[:min(len(b), 900)]) })
}
