package locks_test

import (
	"fmt"
	"maps"
	"math"
	"slices"
	"testing"

	"heronry/api"
	"heronry/locks"
	"heronry/tree"
)

const (
	least = math.MinInt
	most  = math.MaxInt

	none  = locks.None
	read  = locks.Read
	write = locks.Write
)

var (
	modes   = []int{none, read, write}
	noModes = []int{none, 3, 4, -1, -2, least, least + 1, most, most - 1, 1<<32 + 1, 1<<32 + 2}
)

// lock is a transaction's of a block.
func lock(block, tx, held, kept int) locks.Lock {
	return locks.Lock{Block: block, Tx: tx, Held: held, Kept: kept}
}

// table is some locks, with room behind them.
func table(l ...locks.Lock) locks.Table {
	room := make([]locks.Lock, len(l), len(l)+8)
	copy(room, l)
	return locks.Table{L: room}
}

// some is a table that may be, with several locks of one block and several of one transaction.
func some() locks.Table {
	return table(
		lock(3, 1, read, none),
		lock(3, 4, none, read),
		lock(3, 6, read, none),
		lock(7, 0, none, write),
		lock(7, 1, write, write),
		lock(9, 4, write, read),
		lock(12, 1, read, none),
		lock(12, 8, none, read),
	)
}

// full is a table in which each transaction that may be has each block.
func full(held, kept int) locks.Table {
	var t locks.Table
	for n := range 256 * 64 {
		t.L = append(t.L, lock(n/64, n%64, held, kept))
	}
	return t
}

// grown is a tree of Live ones, by their parents.
func grown(parents ...int) tree.Tree {
	t := tree.Tree{Clock: len(parents)}
	for id, parent := range parents {
		t.L = append(t.L, tree.Tx{Parent: parent, State: tree.Live, Began: id + 1})
	}
	return t
}

// row is as many top ones.
func row(n int) tree.Tree { return grown(slices.Repeat([]int{-1}, n)...) }

// family is a tree of three top ones, which are 0, 6 and 8: inside tells who stands in each.
func family() tree.Tree { return grown(-1, 0, 1, 1, 0, 4, -1, 6, -1) }

func inside(of int) []int {
	return [][]int{{0, 1, 2, 3, 4, 5}, {1, 2, 3}, {2}, {3}, {4, 5}, {5}, {6, 7}, {7}, {8}}[of]
}

// ended is a tree one of which is not Live any more.
func ended(x tree.Tree, id, state int) tree.Tree {
	x.L = slices.Clone(x.L)
	x.Clock++
	x.L[id].State, x.L[id].Ended = state, x.Clock
	return x
}

func copied(t locks.Table) locks.Table { return locks.Table{L: slices.Clone(t.L)} }

func same(a, b locks.Table) bool { return slices.Equal(a.L, b.L) }

// A key tells of which block and whose a lock is, a what the modes that it is held and kept for.
type (
	key  struct{ block, tx int }
	what struct{ held, kept int }
)

// spread is a table as a map; its order is lost.
func spread(t locks.Table) map[key]what {
	m := map[key]what{}
	for _, l := range t.L {
		m[key{l.Block, l.Tx}] = what{l.Held, l.Kept}
	}
	return m
}

// gathered is a map as a table, in order.
func gathered(m map[key]what) locks.Table {
	byBlock := map[int][]int{}
	for k := range m {
		byBlock[k.block] = append(byBlock[k.block], k.tx)
	}
	var t locks.Table
	for _, block := range slices.Sorted(maps.Keys(byBlock)) {
		for _, tx := range slices.Sorted(slices.Values(byBlock[block])) {
			w := m[key{block, tx}]
			t.L = append(t.L, lock(block, tx, w.held, w.kept))
		}
	}
	return t
}

// stands is what one stands in. Parents may go round: there are no more than there are transactions.
func stands(x tree.Tree, id int) map[int]bool {
	in := map[int]bool{}
	for range x.L {
		if id < 0 || id >= len(x.L) {
			break
		}
		in[id] = true
		id = x.L[id].Parent
	}
	return in
}

// plainSane tells each lock by one number, which must rise.
func plainSane(t locks.Table) bool {
	last := -1
	for _, l := range t.L {
		switch {
		case l.Block < 0, l.Block > 255, l.Tx < 0, l.Tx > 63:
			return false
		case !slices.Contains(modes, l.Held), !slices.Contains(modes, l.Kept), l.Held == none && l.Kept == none:
			return false
		case l.Block*64+l.Tx <= last:
			return false
		}
		last = l.Block*64 + l.Tx
	}
	return true
}

func plainAgainst(t locks.Table, x tree.Tree, tx, block, mode int) []int {
	in := stands(x, tx)
	var l []int
	for k, w := range spread(t) {
		if k.block != block || in[k.tx] {
			continue
		}
		writes := w.held == write || w.kept == write
		reads := w.held == read || w.kept == read
		if mode == read && writes || mode == write && (writes || reads) {
			l = append(l, k.tx)
		}
	}
	return slices.Sorted(slices.Values(l))
}

func plainAsk(t locks.Table, x tree.Tree, tx, block, mode int) (locks.Table, api.Errno) {
	switch {
	case !plainSane(t), block < 0, block > 255, mode != read && mode != write:
		return locks.Table{}, api.ErrArg
	case tx < 0, tx >= len(x.L), tx > 63:
		return locks.Table{}, api.ErrName
	case x.L[tx].State != tree.Live:
		return locks.Table{}, api.ErrState
	case len(plainAgainst(t, x, tx, block, mode)) > 0:
		return locks.Table{}, api.ErrWait
	}
	m := spread(t)
	w := m[key{block, tx}]
	if mode == write || w.held == none {
		w.held = mode
	}
	m[key{block, tx}] = w
	return gathered(m), api.OK
}

func plainPass(t locks.Table, tx, parent int) locks.Table {
	m := plainFreed(t, tx)
	for k, w := range spread(t) {
		if k.tx != tx || parent < 0 {
			continue
		}
		to := m[key{k.block, parent}]
		to.kept = max(to.kept, w.held, w.kept)
		m[key{k.block, parent}] = to
	}
	return gathered(m)
}

func plainFreed(t locks.Table, l ...int) map[key]what {
	m := spread(t)
	maps.DeleteFunc(m, func(k key, _ what) bool { return slices.Contains(l, k.tx) })
	return m
}

// plainFind are all that may be told of a table of any kind: those that are there.
func plainFind(t locks.Table, tx, block int) []locks.Lock {
	var l []locks.Lock
	for _, one := range plainOf(t, tx) {
		if one.Block == block {
			l = append(l, one)
		}
	}
	if l == nil {
		l = []locks.Lock{lock(block, tx, none, none)}
	}
	return l
}

func plainOf(t locks.Table, tx int) []locks.Lock {
	var l []locks.Lock
	for _, one := range t.L {
		if one.Tx == tx {
			l = append(l, one)
		}
	}
	return l
}

// stays lets what was handed in be held against what it was: the list, what stands in the room behind it, and the tree.
func stays(t *testing.T, call string, l locks.Table, x tree.Tree) func() {
	room := l.L[:cap(l.L)]
	was, before := slices.Clone(room), slices.Clone(x.L)
	return func() {
		t.Helper()
		if !slices.Equal(room, was) || !slices.Equal(x.L, before) {
			t.Fatalf("%s of %v and %v left %v and %v behind", call, was, before, room, x.L)
		}
	}
}

// against lets Against be held against the plain one, where the table is Sane.
func against(t *testing.T, l locks.Table, x tree.Tree, tx, block, mode int) []int {
	t.Helper()
	stay := stays(t, "Against", l, x)
	got := locks.Against(l, x, tx, block, mode)
	stay()
	if want := plainAgainst(l, x, tx, block, mode); plainSane(l) && !slices.Equal(got, want) {
		t.Fatalf("Against(%v, %v, %d, %d, %d) = %v, want %v", l, x, tx, block, mode, got, want)
	}
	return got
}

func asks(t *testing.T, l locks.Table, x tree.Tree, tx, block, mode int) (locks.Table, api.Errno) {
	t.Helper()
	stay := stays(t, "Ask", l, x)
	got, e := locks.Ask(l, x, tx, block, mode)
	stay()
	if want, wantErr := plainAsk(l, x, tx, block, mode); !same(got, want) || e != wantErr {
		t.Fatalf("Ask(%v, %v, %d, %d, %d) = %v, %v, want %v, %v", l, x, tx, block, mode, got, e, want, wantErr)
	}
	return got, e
}

func passes(t *testing.T, l locks.Table, tx, parent int) locks.Table {
	t.Helper()
	stay := stays(t, "Pass", l, tree.Tree{})
	got := locks.Pass(l, tx, parent)
	stay()
	if want := plainPass(l, tx, parent); plainSane(l) && !same(got, want) {
		t.Fatalf("Pass(%v, %d, %d) = %v, want %v", l, tx, parent, got, want)
	}
	return got
}

func frees(t *testing.T, l locks.Table, ids ...int) locks.Table {
	t.Helper()
	stay, were := stays(t, "Free", l, tree.Tree{}), slices.Clone(ids)
	got := locks.Free(l, ids)
	stay()
	if want := gathered(plainFreed(l, ids...)); plainSane(l) && !same(got, want) {
		t.Fatalf("Free(%v, %v) = %v, want %v", l, ids, got, want)
	}
	if !slices.Equal(ids, were) {
		t.Fatalf("Free(%v, %v) left %v behind", l, were, ids)
	}
	return got
}

// finds holds Find against what is there, in tables of any kind.
func finds(t *testing.T, l locks.Table, tx, block int) locks.Lock {
	t.Helper()
	stay := stays(t, "Find", l, tree.Tree{})
	got := locks.Find(l, tx, block)
	stay()
	if want := plainFind(l, tx, block); !slices.Contains(want, got) {
		t.Fatalf("Find(%v, %d, %d) = %v, want one of %v", l, tx, block, got, want)
	}
	return got
}

// ofs holds Of against what is there, in tables of any kind.
func ofs(t *testing.T, l locks.Table, tx int) []locks.Lock {
	t.Helper()
	stay := stays(t, "Of", l, tree.Tree{})
	got := locks.Of(l, tx)
	stay()
	if want := plainOf(l, tx); !slices.Equal(got, want) {
		t.Fatalf("Of(%v, %d) = %v, want %v", l, tx, got, want)
	}
	return got
}

// around are numbers of a table or a tree, and some that are none.
func around(of []int) []int {
	l := append([]int{-1, 0, 63, 64, 255, 256, least, most}, of...)
	slices.Sort(l)
	return slices.Compact(l)
}

// all lets each call be held against the plain one, at what the table and the tree have and at what they don't.
func all(t *testing.T, l locks.Table, x tree.Tree) {
	t.Helper()
	if got, want := locks.Sane(l), plainSane(l); got != want {
		t.Fatalf("Sane(%v) = %v, want %v", l, got, want)
	}
	var ids, blocks []int
	for _, one := range l.L {
		ids, blocks = append(ids, one.Tx), append(blocks, one.Block)
	}
	for id := range x.L {
		ids = append(ids, id)
	}
	ids, blocks = around(ids), around(blocks)
	for i, tx := range ids {
		for _, block := range blocks {
			finds(t, l, tx, block)
			for _, mode := range []int{read, write, noModes[i%len(noModes)]} {
				against(t, l, x, tx, block, mode)
				asks(t, l, x, tx, block, mode)
			}
		}
		for _, parent := range ids {
			passes(t, l, tx, parent)
		}
		ofs(t, l, tx)
		frees(t, l, tx)
		frees(t, l, ids[i:]...)
	}
	frees(t, l)
}

// P10.1

// sane holds Sane against what is known, and the plain one too.
func sane(t *testing.T, l locks.Table, want bool) {
	t.Helper()
	if got := locks.Sane(l); got != want {
		t.Errorf("Sane(%v) = %v, want %v", l, got, want)
	}
	if got := plainSane(l); got != want {
		t.Errorf("the plain Sane(%v) = %v, want %v", l, got, want)
	}
}

func TestSaneOfNone(t *testing.T) {
	sane(t, locks.Table{}, true)
	sane(t, locks.Table{L: []locks.Lock{}}, true)
}

func TestSaneOfSome(t *testing.T) {
	sane(t, some(), true)
	sane(t, table(lock(0, 0, read, none)), true)
	sane(t, table(lock(0, 0, read, none), lock(0, 1, read, none), lock(1, 0, read, none)), true)
}

func TestSaneOfAll(t *testing.T) {
	all := full(read, write)
	if !locks.Sane(all) || !plainSane(all) {
		t.Error("a full table may not be")
	}
	for _, at := range []int{0, 1, 63, 64, 8191, 8192, 16382, 16383} {
		for _, l := range []locks.Lock{lock(-1, 5, read, none), lock(256, 5, read, none), lock(at/64, at%64, none, none), lock(at/64, at%64, 3, read)} {
			t2 := copied(all)
			t2.L[at] = l
			if locks.Sane(t2) {
				t.Errorf("%v at %d may be", l, at)
			}
		}
		twice := locks.Table{L: slices.Insert(slices.Clone(all.L), at, all.L[at])}
		if locks.Sane(twice) {
			t.Errorf("%v may be twice", all.L[at])
		}
	}
}

func TestSaneOfEachBlock(t *testing.T) {
	for block, want := range map[int]bool{least: false, -256: false, -2: false, -1: false, 0: true, 1: true, 254: true, 255: true, 256: false, 257: false, 1 << 32: false, most: false} {
		sane(t, table(lock(block, 5, read, write)), want)
		sane(t, table(lock(block, 5, none, read)), want)
	}
	for block, want := range map[int]bool{least: false, -1: false, 0: true, 9: true, 10: false, 20: false} {
		sane(t, table(lock(block, 5, read, none), lock(10, 5, read, none), lock(20, 5, read, none)), want)
	}
	for block, want := range map[int]bool{most: false, 256: false, 255: true, 21: true, 20: false, 10: false} {
		sane(t, table(lock(10, 5, read, none), lock(20, 5, read, none), lock(block, 5, read, none)), want)
	}
	for block, want := range map[int]bool{-1: false, 0: false, 10: false, 11: true, 19: true, 20: false, 21: false, 256: false} {
		sane(t, table(lock(10, 5, read, none), lock(block, 5, read, none), lock(20, 5, read, none)), want)
	}
}

func TestSaneOfEachTx(t *testing.T) {
	for tx, want := range map[int]bool{least: false, -64: false, -2: false, -1: false, 0: true, 1: true, 62: true, 63: true, 64: false, 65: false, 1 << 32: false, most: false} {
		sane(t, table(lock(5, tx, read, write)), want)
		sane(t, table(lock(5, tx, read, none), lock(6, 0, read, none)), want)
		sane(t, table(lock(4, 63, read, none), lock(5, tx, read, none)), want)
		sane(t, table(lock(4, 63, read, none), lock(5, tx, read, none), lock(6, 0, read, none)), want)
	}
}

func TestSaneOfEachMode(t *testing.T) {
	numbers := append([]int{read, write}, noModes...)
	for _, held := range numbers {
		for _, kept := range numbers {
			want := slices.Contains(modes, held) && slices.Contains(modes, kept) && (held != none || kept != none)
			sane(t, table(lock(5, 5, held, kept)), want)
			for at := range some().L {
				l := some()
				l.L[at].Held, l.L[at].Kept = held, kept
				sane(t, l, want)
			}
		}
	}
}

func TestSaneOfEachOrder(t *testing.T) {
	for blocks := range 9 {
		for txs := range 9 {
			a, b := lock(blocks/3, txs/3, read, none), lock(blocks%3, txs%3, write, read)
			want := a.Block < b.Block || a.Block == b.Block && a.Tx < b.Tx
			sane(t, table(a, b), want)
			sane(t, table(lock(0, 0, read, none), lock(0, 0, read, none), a, b), false)
			ahead, behind := lock(0, 0, read, none), lock(9, 0, read, none)
			a.Block, b.Block = a.Block+1, b.Block+1
			sane(t, table(ahead, a, b), want)
			sane(t, table(a, b, behind), want)
			sane(t, table(ahead, a, b, behind), want)
		}
	}
}

func TestSaneOfTwoThatChangedPlaces(t *testing.T) {
	for at := range len(some().L) - 1 {
		l := some()
		l.L[at], l.L[at+1] = l.L[at+1], l.L[at]
		sane(t, l, false)
		l.L[at+1] = l.L[at]
		sane(t, l, false)
	}
}

// P10.2

// tells holds Against against what is known.
func tells(t *testing.T, l locks.Table, x tree.Tree, tx, block, mode int, want ...int) {
	t.Helper()
	if got := against(t, l, x, tx, block, mode); !slices.Equal(got, want) {
		t.Errorf("Against(%v, .., %d, %d, %d) = %v, want %v", l, tx, block, mode, got, want)
	}
}

func TestAgainstOfEachModeAndKin(t *testing.T) {
	x := family()
	for owner := range x.L {
		for _, held := range modes {
			for _, kept := range modes[len(modes)-2:] {
				for _, l := range []locks.Lock{lock(7, owner, held, kept), lock(7, owner, kept, held)} {
					for tx := range x.L {
						var reads, writes []int
						if !slices.Contains(inside(owner), tx) {
							writes = []int{owner}
							if held == write || kept == write {
								reads = writes
							}
						}
						tells(t, table(l), x, tx, 7, read, reads...)
						tells(t, table(l), x, tx, 7, write, writes...)
					}
				}
			}
		}
	}
}

func TestAgainstOfSeveral(t *testing.T) {
	x := family()
	l := table(
		lock(6, 8, write, write),
		lock(7, 0, read, none),
		lock(7, 2, read, none),
		lock(7, 4, none, read),
		lock(7, 5, read, none),
		lock(7, 8, write, none),
		lock(8, 0, write, write),
	)
	tells(t, l, x, 0, 7, read, 8)
	tells(t, l, x, 0, 7, write, 2, 4, 5, 8)
	tells(t, l, x, 1, 7, write, 2, 4, 5, 8)
	tells(t, l, x, 2, 7, write, 4, 5, 8)
	tells(t, l, x, 4, 7, write, 2, 5, 8)
	tells(t, l, x, 5, 7, write, 2, 8)
	tells(t, l, x, 5, 7, read, 8)
	tells(t, l, x, 7, 7, write, 0, 2, 4, 5, 8)
	tells(t, l, x, 8, 7, write, 0, 2, 4, 5)
	tells(t, l, x, 8, 7, read)
}

func TestAgainstOfNoLocks(t *testing.T) {
	x := family()
	for _, mode := range []int{read, write} {
		tells(t, locks.Table{}, x, 0, 7, mode)
		tells(t, locks.Table{}, x, -1, -1, mode)
		for _, block := range []int{0, 2, 4, 6, 8, 10, 11, 13, 255} {
			tells(t, some(), x, 6, block, mode)
		}
	}
}

func TestAgainstOfModesThatAreNone(t *testing.T) {
	for _, mode := range noModes {
		for tx := range 9 {
			tells(t, table(lock(7, 0, write, write), lock(7, 8, read, read)), family(), tx, 7, mode)
		}
		tells(t, full(write, write), family(), 8, 7, mode)
	}
}

func TestAgainstOfBlocksThatAreNone(t *testing.T) {
	ends := table(lock(0, 1, write, none), lock(255, 1, write, none))
	for _, mode := range []int{read, write} {
		for _, block := range []int{-1, -2, 256, 257, least, least + 1, most, most - 1, 1 << 32, 1<<32 + 255} {
			tells(t, ends, family(), 8, block, mode)
			tells(t, full(write, none), family(), 8, block, mode)
		}
		tells(t, ends, family(), 8, 0, mode, 1)
		tells(t, ends, family(), 8, 255, mode, 1)
	}
}

func TestAgainstOfTransactionsThatAreNone(t *testing.T) {
	for _, tx := range []int{-1, -2, 9, 10, 63, 64, least, least + 1, most, most - 1} {
		tells(t, some(), family(), tx, 3, read)
		tells(t, some(), family(), tx, 3, write, 1, 4, 6)
		tells(t, some(), family(), tx, 7, read, 0, 1)
		tells(t, some(), family(), tx, 7, write, 0, 1)
		tells(t, some(), tree.Tree{}, tx, 7, write, 0, 1)
		tells(t, table(lock(7, 63, write, none)), family(), tx, 7, read, 63)
	}
}

func TestAgainstOfLocksOfNoID(t *testing.T) {
	tells(t, table(lock(7, 9, write, none), lock(7, 63, read, none)), family(), 0, 7, read, 9)
	tells(t, table(lock(7, 9, write, none), lock(7, 63, read, none)), family(), 0, 7, write, 9, 63)
}

func TestAgainstOfManyOfOneBlock(t *testing.T) {
	x, all := row(64), full(write, none)
	for _, block := range []int{0, 1, 100, 254, 255} {
		for tx := range 64 {
			var others []int
			for other := range 64 {
				if other != tx {
					others = append(others, other)
				}
			}
			for _, mode := range []int{read, write} {
				if got := locks.Against(all, x, tx, block, mode); !slices.Equal(got, others) {
					t.Fatalf("Against of %d at %d: %v", tx, block, got)
				}
			}
		}
		if got := locks.Against(full(read, read), x, 5, block, read); len(got) > 0 {
			t.Fatalf("%v", got)
		}
	}
}

func TestAgainstOfTreesThatAreNotSane(t *testing.T) {
	ring := grown(2, 0, 1, 2, 77)
	l := table(lock(7, 0, write, none), lock(7, 2, none, write), lock(7, 3, read, none), lock(7, 4, read, none))
	tells(t, l, ring, 0, 7, write, 3, 4)
	tells(t, l, ring, 1, 7, write, 3, 4)
	tells(t, l, ring, 3, 7, write, 4)
	tells(t, l, ring, 3, 7, read)
	tells(t, l, ring, 4, 7, write, 0, 2, 3)
	tells(t, l, ring, 4, 7, read, 0, 2)
	above := grown(1, -1)
	tells(t, table(lock(7, 1, write, none)), above, 0, 7, write)
	tells(t, table(lock(7, 0, write, none)), above, 1, 7, read, 0)
}

// P10.3

// asked is what Ask makes where it is known.
func asked(t *testing.T, l locks.Table, x tree.Tree, tx, block, mode int, want ...locks.Lock) locks.Table {
	t.Helper()
	got, e := asks(t, l, x, tx, block, mode)
	if e != api.OK || !slices.Equal(got.L, want) {
		t.Errorf("Ask(%v, .., %d, %d, %d) = %v, %v, want %v", l, tx, block, mode, got, e, want)
	}
	return got
}

// refused holds an error of Ask against what is known; the table beside it is the zero one.
func refused(t *testing.T, l locks.Table, x tree.Tree, tx, block, mode int, want api.Errno) {
	t.Helper()
	got, e := asks(t, l, x, tx, block, mode)
	if e != want || got.L != nil {
		t.Errorf("Ask(%v, .., %d, %d, %d) = %v, %v, want %v", l, tx, block, mode, got, e, want)
	}
}

func TestAskOfTheFirst(t *testing.T) {
	for _, mode := range []int{read, write} {
		for _, block := range []int{0, 1, 254, 255} {
			asked(t, locks.Table{}, family(), 0, block, mode, lock(block, 0, mode, none))
			asked(t, locks.Table{}, family(), 8, block, mode, lock(block, 8, mode, none))
		}
	}
}

// strange are tables that are not Sane.
func strange() []locks.Table {
	return []locks.Table{
		table(lock(-1, 0, read, none)),
		table(lock(256, 0, read, none)),
		table(lock(0, -1, read, none)),
		table(lock(0, 64, read, none)),
		table(lock(0, 0, none, none)),
		table(lock(0, 0, 3, none)),
		table(lock(0, 0, none, 3)),
		table(lock(0, 0, -1, read)),
		table(lock(0, 0, read, -1)),
		table(lock(0, 0, read, none), lock(0, 0, read, none)),
		table(lock(0, 0, read, none), lock(0, 0, write, none)),
		table(lock(0, 1, read, none), lock(0, 0, read, none)),
		table(lock(1, 0, read, none), lock(0, 1, read, none)),
		table(lock(5, 1, read, none), lock(4, 2, read, none), lock(3, 3, read, none), lock(2, 4, read, none)),
		table(lock(least, most, least, most), lock(most, least, most, least)),
		table(lock(0, 0, read, none), lock(most, most, most, most), lock(least, least, least, least), lock(0, 0, read, none)),
	}
}

func TestAskOfATableThatIsNotSane(t *testing.T) {
	for _, l := range strange() {
		sane(t, l, false)
		refused(t, l, family(), 8, 100, read, api.ErrArg)
		refused(t, l, family(), 8, 0, write, api.ErrArg)
	}
}

func TestAskOfBlocksThatAreNone(t *testing.T) {
	for _, block := range []int{-1, -2, -256, 256, 257, least, least + 1, most, most - 1, 1 << 32, 1<<32 + 7} {
		refused(t, some(), family(), 8, block, read, api.ErrArg)
		refused(t, locks.Table{}, family(), 8, block, write, api.ErrArg)
	}
}

func TestAskOfModesThatAreNone(t *testing.T) {
	for _, mode := range noModes {
		refused(t, some(), family(), 8, 5, mode, api.ErrArg)
		refused(t, locks.Table{}, family(), 0, 0, mode, api.ErrArg)
		refused(t, table(lock(0, 0, write, none)), family(), 0, 0, mode, api.ErrArg)
	}
}

func TestAskOfTransactionsThatAreNone(t *testing.T) {
	for _, tx := range []int{-1, -2, -64, 9, 10, 63, 64, least, least + 1, most, most - 1, 1 << 32} {
		refused(t, locks.Table{}, family(), tx, 5, read, api.ErrName)
		refused(t, some(), family(), tx, 5, write, api.ErrName)
		refused(t, locks.Table{}, tree.Tree{}, tx, 5, read, api.ErrName)
	}
	refused(t, locks.Table{}, tree.Tree{}, 0, 5, read, api.ErrName)
}

func TestAskOfTheGreatestIDs(t *testing.T) {
	for _, n := range []int{63, 64, 65, 66, 200} {
		for _, tx := range []int{62, 63, 64, 65, 66, 199, 200} {
			if tx < n && tx <= 63 {
				asked(t, table(lock(5, 0, read, none)), row(n), tx, 5, read, lock(5, 0, read, none), lock(5, tx, read, none))
				continue
			}
			refused(t, table(lock(5, 0, read, none)), row(n), tx, 5, read, api.ErrName)
		}
	}
}

func TestAskOfEachState(t *testing.T) {
	for _, state := range []int{0, tree.Done, tree.Undone, 4, -1, least, most} {
		x := ended(family(), 4, state)
		refused(t, locks.Table{}, x, 4, 5, read, api.ErrState)
		refused(t, some(), x, 4, 5, write, api.ErrState)
		refused(t, table(lock(5, 4, write, none)), x, 4, 5, write, api.ErrState)
		asked(t, locks.Table{}, x, 5, 5, read, lock(5, 5, read, none)) // it is Live, whatever it stands in
	}
	asked(t, locks.Table{}, family(), 4, 5, read, lock(5, 4, read, none))
}

func TestAskWithOneAgainst(t *testing.T) {
	x := family()
	for _, other := range []int{read, write} {
		for _, l := range []locks.Lock{lock(5, 4, other, none), lock(5, 4, none, other)} {
			for tx := range x.L {
				for _, mode := range []int{read, write} {
					if tx == 4 || tx == 5 || mode == read && other == read {
						got, e := asks(t, table(l), x, tx, 5, mode)
						if e != api.OK || locks.Find(got, tx, 5).Held != max(mode, locks.Find(table(l), tx, 5).Held) {
							t.Errorf("Ask(%v, .., %d, 5, %d) = %v, %v", l, tx, mode, got, e)
						}
						continue
					}
					refused(t, table(l), x, tx, 5, mode, api.ErrWait)
				}
			}
		}
	}
	refused(t, table(lock(5, 1, read, none), lock(5, 6, read, none)), x, 1, 5, write, api.ErrWait)
	refused(t, table(lock(5, 0, read, none), lock(5, 1, read, none)), x, 0, 5, write, api.ErrWait) // its kid reads it
}

// Each of what is wrong by itself, and all of them together: what comes first is told.
func TestWhichErrorComesFirst(t *testing.T) {
	for wrong := range 1 << 6 {
		is := func(bit int) bool { return wrong>>bit&1 == 1 }
		l, x, tx, block, mode := some(), family(), 6, 9, write // 4 has the block 9
		want := api.ErrWait
		if is(5) {
			block, want = 100, api.OK
		}
		if is(4) {
			x, want = ended(x, 6, tree.Done), api.ErrState
		}
		if is(3) {
			tx, want = 9, api.ErrName
		}
		if is(2) {
			mode, want = none, api.ErrArg
		}
		if is(1) {
			block, want = 256, api.ErrArg
		}
		if is(0) {
			l.L[0].Tx, want = 63, api.ErrArg
		}
		got, e := asks(t, l, x, tx, block, mode)
		if e != want || (e == api.OK) != (got.L != nil) {
			t.Errorf("%06b: %v, %v, want %v", wrong, got, e, want)
		}
	}
	for _, tx := range []int{64, 65} { // IDs, but too great, and not Live
		refused(t, some(), ended(row(70), tx, tree.Undone), tx, 9, write, api.ErrName)
		refused(t, some(), ended(row(70), tx, tree.Undone), tx, 9, none, api.ErrArg)
	}
}

func TestAskOfWhatItHas(t *testing.T) {
	for _, held := range modes {
		for _, kept := range modes {
			for _, mode := range []int{read, write} {
				var has []locks.Lock
				if held != none || kept != none {
					has = append(has, lock(5, 4, held, kept))
				}
				got := max(held, mode) // Read behind Write leaves Write
				asked(t, table(has...), family(), 4, 5, mode, lock(5, 4, got, kept))
				around := append(append([]locks.Lock{lock(4, 4, read, none), lock(5, 0, read, none)}, has...), lock(6, 4, read, read))
				asked(t, table(around...), family(), 4, 5, mode, lock(4, 4, read, none), lock(5, 0, read, none), lock(5, 4, got, kept), lock(6, 4, read, read))
			}
		}
	}
}

func TestAskTwice(t *testing.T) {
	l := asked(t, locks.Table{}, family(), 4, 5, write, lock(5, 4, write, none))
	l = asked(t, l, family(), 4, 5, read, lock(5, 4, write, none))
	l = asked(t, l, family(), 4, 5, write, lock(5, 4, write, none))
	l = asked(t, l, family(), 4, 6, read, lock(5, 4, write, none), lock(6, 4, read, none))
	l = asked(t, l, family(), 4, 6, read, lock(5, 4, write, none), lock(6, 4, read, none))
	asked(t, l, family(), 4, 6, write, lock(5, 4, write, none), lock(6, 4, write, none))
}

func TestWhereANewLockComes(t *testing.T) {
	l := table(
		lock(3, 2, read, none),
		lock(5, 1, read, none),
		lock(5, 4, read, none),
		lock(5, 6, read, none),
		lock(8, 2, read, none),
	)
	for _, c := range []struct{ block, tx, at int }{
		{0, 8, 0}, {2, 8, 0}, {3, 0, 0}, {3, 1, 0}, {3, 3, 1}, {3, 8, 1}, {4, 0, 1}, {4, 8, 1},
		{5, 0, 1}, {5, 2, 2}, {5, 3, 2}, {5, 5, 3}, {5, 7, 4}, {5, 8, 4}, {6, 0, 4}, {7, 8, 4},
		{8, 0, 4}, {8, 1, 4}, {8, 3, 5}, {8, 8, 5}, {9, 0, 5}, {255, 0, 5}, {255, 8, 5},
	} {
		asked(t, l, family(), c.tx, c.block, read, slices.Insert(slices.Clone(l.L), c.at, lock(c.block, c.tx, read, none))...)
	}
}

func TestAskOfAFullTable(t *testing.T) {
	x, all := row(64), full(read, none)
	for _, at := range []int{0, 1, 63, 64, 8191, 8192, 16382, 16383} {
		missing := locks.Table{L: slices.Delete(slices.Clone(all.L), at, at+1)}
		if got, e := locks.Ask(missing, x, at%64, at/64, read); e != api.OK || !same(got, all) {
			t.Errorf("Ask of what is missing at %d: %v", at, e)
		}
		if got, e := locks.Ask(all, x, at%64, at/64, read); e != api.OK || !same(got, all) {
			t.Errorf("Ask of what is there at %d: %v", at, e)
		}
		if got, e := locks.Ask(all, x, at%64, at/64, write); e != api.ErrWait || got.L != nil {
			t.Errorf("Ask to write at %d: %v", at, e)
		}
	}
}

// P10.4

// passed is what Pass makes where it is known.
func passed(t *testing.T, l locks.Table, tx, parent int, want ...locks.Lock) locks.Table {
	t.Helper()
	got := passes(t, l, tx, parent)
	if !slices.Equal(got.L, want) {
		t.Errorf("Pass(%v, %d, %d) = %v, want %v", l, tx, parent, got, want)
	}
	return got
}

// has is a lock of a block, if it is held or kept.
func has(block, tx, held, kept int) []locks.Lock {
	if held == none && kept == none {
		return nil
	}
	return []locks.Lock{lock(block, tx, held, kept)}
}

func TestPassOfEachModeToEachMode(t *testing.T) {
	for n := range 3 * 3 * 3 * 3 {
		held, kept, its, own := n%3, n/3%3, n/9%3, n/27%3
		for _, c := range []struct{ tx, parent int }{{4, 0}, {0, 4}, {63, 62}, {0, 63}} {
			rest := []locks.Lock{lock(4, c.parent, read, none)}
			both := [][]locks.Lock{has(5, c.tx, held, kept), has(5, c.parent, its, own)}
			if c.parent < c.tx {
				slices.Reverse(both)
			}
			l := table(append(append(rest, both[0]...), both[1]...)...)
			sane(t, l, true)
			want := append(slices.Clone(rest), has(5, c.parent, its, max(held, kept, own))...)
			sane(t, passed(t, l, c.tx, c.parent, want...), true)
		}
	}
}

func TestPassOfSome(t *testing.T) {
	want := []locks.Lock{
		lock(3, 0, none, read),
		lock(3, 4, none, read),
		lock(3, 6, read, none),
		lock(7, 0, none, write),
		lock(9, 4, write, read),
		lock(12, 0, none, read),
		lock(12, 8, none, read),
	}
	l := passed(t, some(), 1, 0, want...)
	l = passed(t, l, 4, 0, lock(3, 0, none, read), lock(3, 6, read, none), lock(7, 0, none, write), lock(9, 0, none, write), lock(12, 0, none, read), lock(12, 8, none, read))
	passed(t, l, 0, -1, lock(3, 6, read, none), lock(12, 8, none, read))
	passed(t, some(), 1, 6,
		lock(3, 4, none, read),
		lock(3, 6, read, read),
		lock(7, 0, none, write),
		lock(7, 6, none, write),
		lock(9, 4, write, read),
		lock(12, 6, none, read),
		lock(12, 8, none, read),
	)
}

// The locks of others of these blocks stand ahead of the parent's and behind it.
func TestWhereAParentsLockComes(t *testing.T) {
	for parent := range 64 {
		for _, tx := range []int{0, 31, 63} {
			if parent == tx {
				continue
			}
			m := map[key]what{}
			for block := 2; block < 12; block++ {
				m[key{block, tx}] = what{read, none}
				m[key{block, (block * 7) % 64}] = what{none, write}
			}
			sane(t, passes(t, gathered(m), tx, parent), true)
		}
	}
}

func TestPassToItself(t *testing.T) {
	for _, held := range modes {
		for _, kept := range modes {
			l := table(append(has(5, 4, held, kept), lock(6, 1, write, read))...)
			passed(t, l, 4, 4, append(has(5, 4, none, max(held, kept)), lock(6, 1, write, read))...)
		}
	}
	passed(t, some(), 1, 1,
		lock(3, 1, none, read),
		lock(3, 4, none, read),
		lock(3, 6, read, none),
		lock(7, 0, none, write),
		lock(7, 1, none, write),
		lock(9, 4, write, read),
		lock(12, 1, none, read),
		lock(12, 8, none, read),
	)
}

func TestPassToNone(t *testing.T) {
	for _, parent := range []int{-1, -2, -64, least, least + 1} {
		passed(t, some(), 1, parent, lock(3, 4, none, read), lock(3, 6, read, none), lock(7, 0, none, write), lock(9, 4, write, read), lock(12, 8, none, read))
		passed(t, some(), 2, parent, some().L...)
		passed(t, locks.Table{}, 1, parent)
		passed(t, table(lock(5, 1, write, none)), 1, parent)
	}
}

func TestPassToOneThatIsTooGreat(t *testing.T) {
	for _, parent := range []int{64, 65, 1 << 32, most - 1, most} {
		got := passed(t, table(lock(3, 1, read, none), lock(3, 63, read, none), lock(4, 0, write, none), lock(4, 1, write, read)), 1, parent,
			lock(3, 63, read, none), lock(3, parent, none, read), lock(4, 0, write, none), lock(4, parent, none, write))
		sane(t, got, false)
	}
	passed(t, table(lock(3, 1, read, none)), 1, 63, lock(3, 63, none, read))
}

func TestPassOfOneWithoutLocks(t *testing.T) {
	for _, tx := range []int{2, 3, 5, 63, -1, 64, least, most} {
		for _, parent := range []int{0, 1, 2, 63, 64, -1, least, most} {
			passed(t, some(), tx, parent, some().L...)
			passed(t, locks.Table{}, tx, parent)
		}
	}
}

func TestPassOfAFullTable(t *testing.T) {
	all := full(write, none)
	for _, c := range []struct{ tx, parent int }{{0, 63}, {63, 0}, {5, 6}, {6, 5}, {5, 5}, {5, -1}} {
		passes(t, all, c.tx, c.parent)
		passes(t, gathered(plainFreed(all, c.parent)), c.tx, c.parent)
	}
}

// freed is what Free makes where it is known.
func freed(t *testing.T, l locks.Table, ids []int, want ...locks.Lock) {
	t.Helper()
	got := frees(t, l, ids...)
	if !slices.Equal(got.L, want) {
		t.Errorf("Free(%v, %v) = %v, want %v", l, ids, got, want)
	}
}

func TestFree(t *testing.T) {
	freed(t, some(), nil, some().L...)
	freed(t, some(), []int{}, some().L...)
	freed(t, some(), []int{2}, some().L...)
	freed(t, some(), []int{-1, 64, least, most, 1 << 32, 1<<32 + 1, 2, 63}, some().L...)
	without1 := []locks.Lock{lock(3, 4, none, read), lock(3, 6, read, none), lock(7, 0, none, write), lock(9, 4, write, read), lock(12, 8, none, read)}
	freed(t, some(), []int{1}, without1...)
	freed(t, some(), []int{1, 1}, without1...)
	freed(t, some(), []int{1, 2, 1, -1, most}, without1...)
	freed(t, some(), []int{4, 1}, lock(3, 6, read, none), lock(7, 0, none, write), lock(12, 8, none, read))
	freed(t, some(), []int{1, 4, 1, 4}, lock(3, 6, read, none), lock(7, 0, none, write), lock(12, 8, none, read))
	freed(t, some(), []int{8}, some().L[:7]...)
	freed(t, some(), []int{0, 1, 4, 6, 8})
	freed(t, some(), []int{8, 6, 4, 1, 0})
	freed(t, table(lock(0, 0, read, none)), []int{0})
	freed(t, locks.Table{}, []int{0, 1})
	freed(t, locks.Table{}, nil)
}

func TestFreeOfAFullTable(t *testing.T) {
	all := full(write, none)
	frees(t, all, 0, 63, 31)
	freed(t, all, nil, all.L...)
	var ids []int
	for id := range 64 {
		ids = append(ids, id)
	}
	freed(t, all, ids)
}

// P10.5

// found holds Find against what is known.
func found(t *testing.T, l locks.Table, tx, block, held, kept int) {
	t.Helper()
	if got, want := finds(t, l, tx, block), lock(block, tx, held, kept); got != want {
		t.Errorf("Find(%v, %d, %d) = %v, want %v", l, tx, block, got, want)
	}
}

func TestFindOfWhatIsThere(t *testing.T) {
	for _, l := range some().L {
		found(t, some(), l.Tx, l.Block, l.Held, l.Kept)
		found(t, table(l), l.Tx, l.Block, l.Held, l.Kept)
	}
	for n := range len(some().L) {
		l := some()
		l.L = l.L[:n+1]
		for _, one := range l.L {
			found(t, l, one.Tx, one.Block, one.Held, one.Kept)
		}
	}
}

func TestFindOfWhatIsNotThere(t *testing.T) {
	for _, c := range []struct{ block, tx int }{
		{0, 0}, {2, 63}, {3, 0}, {3, 2}, {3, 5}, {3, 7}, {3, 63}, {4, 0}, {6, 1}, {7, 2}, {7, 63}, {8, 4}, {9, 3}, {9, 5}, {10, 1}, {12, 0}, {12, 7}, {12, 9}, {13, 0}, {255, 63}, {1, 3}, {4, 3}, {8, 12},
		{-1, 1}, {256, 1}, {3, -1}, {3, 64}, {-1, -1}, {256, 64}, {least, least}, {most, most}, {least, most}, {most, least}, {3, least}, {3, most}, {least, 1}, {most, 1}, {1<<32 + 3, 1}, {3, 1<<32 + 1},
	} {
		found(t, some(), c.tx, c.block, none, none)
		found(t, locks.Table{}, c.tx, c.block, none, none)
	}
}

func TestFindOfAFullTable(t *testing.T) {
	var all locks.Table
	for n := range 256 * 64 {
		all.L = append(all.L, lock(n/64, n%64, n%3, 2-n%2))
	}
	for _, l := range all.L {
		if got := locks.Find(all, l.Tx, l.Block); got != l {
			t.Fatalf("%v, want %v", got, l)
		}
	}
	for _, at := range []int{0, 1, 8191, 16383} {
		l, gone := locks.Table{L: slices.Delete(slices.Clone(all.L), at, at+1)}, all.L[at]
		if got := locks.Find(l, gone.Tx, gone.Block); got != lock(gone.Block, gone.Tx, none, none) {
			t.Errorf("%v", got)
		}
	}
}

// A lock is found in a table of any kind: the promise does not ask for one that is Sane.
func TestFindOfATableInAnyOrder(t *testing.T) {
	l := some()
	for range 40 {
		for at := range l.L {
			other := (at*5 + 3) % len(l.L)
			l.L[at], l.L[other] = l.L[other], l.L[at]
			for _, one := range some().L {
				found(t, l, one.Tx, one.Block, one.Held, one.Kept)
			}
			found(t, l, 5, 3, none, none)
			found(t, l, -1, -1, none, none)
		}
	}
	for _, l := range strange() {
		for _, one := range l.L {
			finds(t, l, one.Tx, one.Block)
		}
		found(t, l, 7, 7, none, none)
	}
	found(t, table(lock(most, least, 5, -5), lock(least, most, -7, 7)), most, least, -7, 7)
}

func TestOf(t *testing.T) {
	for tx, want := range map[int][]locks.Lock{
		0:  {lock(7, 0, none, write)},
		1:  {lock(3, 1, read, none), lock(7, 1, write, write), lock(12, 1, read, none)},
		4:  {lock(3, 4, none, read), lock(9, 4, write, read)},
		6:  {lock(3, 6, read, none)},
		8:  {lock(12, 8, none, read)},
		2:  nil,
		63: nil, -1: nil, 64: nil, 3: nil, 7: nil, 12: nil, least: nil, most: nil,
	} {
		if got := ofs(t, some(), tx); !slices.Equal(got, want) {
			t.Errorf("Of(.., %d) = %v, want %v", tx, got, want)
		}
		if got := ofs(t, locks.Table{}, tx); len(got) > 0 {
			t.Errorf("Of none: %v", got)
		}
	}
	if got := locks.Of(full(read, write), 63); len(got) != 256 || got[0] != lock(0, 63, read, write) || got[255] != lock(255, 63, read, write) {
		t.Errorf("%v", got)
	}
}

// All calls, at tables and trees of any kind

func TestEachTableOfTwo(t *testing.T) {
	x := grown(-1, 0, -1)
	for n := range 3 * 3 * 3 * 3 {
		for m := range 3 * 3 * 3 * 3 {
			l := table(lock(n%3-1, n/3%3, n/9%3, n/27), lock(m%3-1, m/3%3, m/9%3, m/27))
			sane(t, l, plainSane(l))
			if plainSane(l) || (n+m)%16 == 0 {
				all(t, l, x)
			}
		}
	}
}

func TestStrangeTables(t *testing.T) {
	for _, l := range strange() {
		for _, x := range []tree.Tree{{}, family(), row(66), strangeTree()} {
			all(t, l, x)
		}
	}
}

// strangeTree is one that is not Sane: parents go round, or are no IDs, or stand above; States are none.
func strangeTree() tree.Tree {
	x := grown(1, 0, 1, 3, 77, most, least, -2, 9, -1)
	x.L[2].State, x.L[3].State, x.L[7].State = 4, -1, least
	return x
}

func TestStrangeTrees(t *testing.T) {
	all(t, some(), strangeTree())
	all(t, some(), tree.Tree{})
	all(t, some(), grown(0))
	all(t, some(), grown(slices.Repeat([]int{0}, 70)...))
	all(t, locks.Table{}, strangeTree())
}

// script is as many bytes, of any kind, but the same ones each time.
func script(seed uint32, n int) []byte {
	b := make([]byte, n)
	for i := range b {
		seed = seed*1664525 + 1013904223
		b[i] = byte(seed >> 24)
	}
	return b
}

// anyTable is a table of any kind: three bytes a lock. Many of them are in order.
func anyTable(b []byte) locks.Table {
	strange := len(b) > 0 && b[0]%4 == 0
	var l []locks.Lock
	for ; len(b) >= 3; b = b[3:] {
		one := lock([]int{0, 1, 5, 254, 255}[b[0]%5], []int{0, 1, 2, 3, 5, 8, 62, 63}[b[1]%8], int(b[2]%3), int(b[2]/3%3))
		if strange && b[2] > 200 {
			one = lock([]int{-1, 256, least, most}[b[0]%4], []int{-1, 64, least, most}[b[1]%4], int(b[2]%5)-1, int(b[2]/5%5)-1)
		}
		l = append(l, one)
	}
	if !strange {
		m := spread(locks.Table{L: l})
		delete(m, key{})
		maps.DeleteFunc(m, func(_ key, w what) bool { return w == what{} })
		l = gathered(m).L
	}
	return table(l...)
}

// anyTree is a tree of any kind: two bytes a transaction.
func anyTree(b []byte) tree.Tree {
	var x tree.Tree
	n := len(b) / 2
	for ; len(b) >= 2; b = b[2:] {
		parent := int(b[0])%(n+2) - 1
		if b[0] > 250 {
			parent = []int{-2, 64, least, most, n}[b[0]-251]
		}
		x.L = append(x.L, tree.Tx{Parent: parent, State: max(int(b[1]%6)-1, tree.Live)})
	}
	return x
}

func TestTablesOfAnyKind(t *testing.T) {
	may := 0
	for seed := range uint32(250) {
		l, x := anyTable(script(seed, 3+int(seed%50))), anyTree(script(seed+1000, int(seed%20)))
		all(t, l, x)
		if locks.Sane(l) {
			may++
		}
	}
	if may < 100 || may > 240 {
		t.Errorf("%d of 250 may be", may)
	}
}

// Each of these has many locks, and is not Sane; the tree is a way, a ring or a row of many.
func TestLargeTables(t *testing.T) {
	const n = 1 << 16
	way, ring, tops := make([]int, n), make([]int, n), slices.Repeat([]int{-1}, n)
	for id := range n {
		way[id], ring[id] = id-1, (id+1)%n
	}
	for _, l := range []func(i int) locks.Lock{
		func(i int) locks.Lock { return lock(5, 5, write, none) },
		func(i int) locks.Lock { return lock(5, i, write, none) },
		func(i int) locks.Lock { return lock(5, -i, write, read) },
		func(i int) locks.Lock { return lock(i, 5, write, none) },
		func(i int) locks.Lock { return lock(-i, 5, none, write) },
		func(i int) locks.Lock { return lock(i*40503%n, 5, none, write) },
		func(i int) locks.Lock { return lock(i*40503%n, i*60493%n, write, 0) },
	} {
		var long locks.Table
		for i := range n {
			long.L = append(long.L, l(i))
		}
		for _, parents := range [][]int{way, ring, tops} {
			x := grown(parents...)
			locks.Against(long, x, n-1, 5, write)
			locks.Against(long, x, 5, 5, read)
			if got, e := locks.Ask(long, x, 5, 5, write); e != api.ErrArg || got.L != nil {
				t.Errorf("Ask: %v", e)
			}
			if _, e := locks.Ask(some(), x, 63, 3, read); e != api.OK {
				t.Errorf("Ask: %v", e)
			}
		}
		locks.Pass(long, 5, 6)
		locks.Pass(long, 5, 5)
		locks.Pass(long, -5, most)
		var ids []int
		for id := range n {
			ids = append(ids, id*3)
		}
		locks.Free(long, ids)
		if got := locks.Find(long, 5, 5); !slices.Contains(plainFind(long, 5, 5), got) {
			t.Errorf("Find: %v", got)
		}
		if locks.Sane(long) || !slices.Equal(locks.Of(long, 5), plainOf(long, 5)) {
			t.Errorf("Sane: %v", locks.Sane(long))
		}
	}
}

// P10.6

// akin: does one of two stand in the other one?
func akin(x tree.Tree, a, b int) bool { return stands(x, a)[b] || stands(x, b)[a] }

// apart holds a table against P10.6.
func apart(t *testing.T, l locks.Table, x tree.Tree) {
	t.Helper()
	if !locks.Sane(l) || !plainSane(l) {
		t.Fatalf("%v may not be", l)
	}
	for i, a := range l.L {
		for _, b := range l.L[:i] {
			writes := slices.Contains([]int{a.Held, a.Kept, b.Held, b.Kept}, write)
			if a.Block == b.Block && writes && !akin(x, a.Tx, b.Tx) {
				t.Fatalf("%v and %v are in %v", a, b, l)
			}
		}
	}
}

// world is a tree and its locks.
type world struct {
	x tree.Tree
	l locks.Table
}

// commit lets one be done, and its parent keep what it has.
func (w world) commit(t *testing.T, id int) (world, api.Errno) {
	x, e := tree.Commit(w.x, id)
	if e != api.OK {
		return w, e
	}
	return world{x, passes(t, w.l, id, x.L[id].Parent)}, api.OK
}

// abort undoes one, and all in it, and frees what they have.
func (w world) abort(t *testing.T, id int) (world, api.Errno) {
	x, gone, e := tree.Abort(w.x, id)
	if e != api.OK {
		return w, e
	}
	return world{x, frees(t, w.l, gone...)}, api.OK
}

func (w world) ask(t *testing.T, id, block, mode int) (world, api.Errno) {
	l, e := asks(t, w.l, w.x, id, block, mode)
	if e != api.OK {
		return w, e
	}
	return world{w.x, l}, api.OK
}

// rows goes over all rows of so many steps that have no error, and tells how many there are.
func (w world) rows(t *testing.T, blocks, steps int) int {
	apart(t, w.l, w.x)
	n := 1
	if steps == 0 {
		return n
	}
	further := func(next world, e api.Errno) {
		if e == api.OK {
			n += next.rows(t, blocks, steps-1)
		}
	}
	for id := range w.x.L {
		for block := range blocks {
			further(w.ask(t, id, block, read))
			further(w.ask(t, id, block, write))
		}
		further(w.commit(t, id))
		further(w.abort(t, id))
	}
	return n
}

func TestEachRowOfSteps(t *testing.T) {
	for _, c := range []struct {
		parents       []int
		blocks, steps int
	}{
		{[]int{-1, 0, 0, -1}, 1, 5},
		{[]int{-1, 0, 1, 0}, 1, 5},
		{[]int{-1, 0, -1}, 2, 4},
		{[]int{-1, 0, 0, 1, 2, -1, 5}, 1, 4},
	} {
		if n := (world{x: grown(c.parents...)}).rows(t, c.blocks, c.steps); n < 1000 {
			t.Errorf("%v: only %d rows", c.parents, n)
		}
	}
}

// pick is one of a tree, most often one of the last ones, or what is none.
func pick(x tree.Tree, b byte) int {
	n := len(x.L)
	switch {
	case b < 4 || n == 0:
		return []int{-1, n, 64, least}[b%4]
	case b < 128:
		return n - 1 - int(b)%min(n, 10)
	}
	return int(b) % n
}

// counts are how many steps went on, how many had to wait, and how many did but one thing by itself.
type counts struct{ done, waited, late int }

// late lets one that is Done be passed, or one that is Undone be freed, though that may have been done before.
func (w world) late(t *testing.T, id int) (world, bool) {
	if id < 0 || id >= len(w.x.L) {
		return w, false
	}
	switch w.x.L[id].State {
	case tree.Done:
		w.l = passes(t, w.l, id, w.x.L[id].Parent)
		return w, true
	case tree.Undone:
		w.l = frees(t, w.l, id)
		return w, true
	}
	return w, false
}

// lazy is a step of the tree alone: what is to be passed and freed waits.
func (w world) lazy(id int, undo bool) (world, api.Errno) {
	x, e := tree.Commit(w.x, id)
	if undo {
		x, _, e = tree.Abort(w.x, id)
	}
	if e == api.OK {
		w.x = x
	}
	return w, e
}

// steps goes over a row of steps, of which some have an error.
func steps(t *testing.T, script []byte) counts {
	var w world
	var c counts
	for ; len(script) > 2; script = script[3:] {
		id := pick(w.x, script[1])
		var e api.Errno
		switch script[0] % 16 {
		case 0, 1, 2:
			parent := id
			if script[2]%4 == 0 {
				parent = -1
			}
			x, _, begun := tree.Begin(w.x, parent)
			if e = begun; e == api.OK {
				w.x = x
			}
		case 3:
			w, e = w.commit(t, id)
		case 4:
			if script[2]%3 == 0 {
				w, e = w.abort(t, id)
			}
		case 5:
			w, e = w.lazy(id, script[2]%4 == 0)
		case 6, 7:
			late := false
			if w, late = w.late(t, id); late {
				c.late++
			}
		default:
			block := []int{0, 0, 0, 1, 1, 2, 254, 255, 256, -1}[script[2]%10]
			w, e = w.ask(t, id, block, []int{read, write, read, write, read, none}[script[2]/10%6])
		}
		apart(t, w.l, w.x)
		switch e {
		case api.OK:
			c.done++
		case api.ErrWait:
			c.waited++
		case api.ErrLimit:
			if len(w.x.L) == api.MaxTx && script[2]%8 == 0 {
				w = world{}
			}
		}
	}
	return c
}

func TestStepsOfAnyKind(t *testing.T) {
	var c counts
	for seed := range uint32(60) {
		one := steps(t, script(seed, 1500))
		c = counts{c.done + one.done, c.waited + one.waited, c.late + one.late}
	}
	if c.done < 5000 || c.waited < 500 || c.late < 500 {
		t.Errorf("only %v", c)
	}
}

// A long life of one table: kids read and write what their parents have, and are done or undone.
func TestALongRow(t *testing.T) {
	var w world
	for round := range 8 {
		begin := func(parent int) int {
			x, id, e := tree.Begin(w.x, parent)
			if e != api.OK {
				t.Fatal(e)
			}
			w.x = x
			return id
		}
		step := func(next world, e api.Errno) {
			t.Helper()
			if e != api.OK {
				t.Fatal(e)
			}
			w = next
			apart(t, w.l, w.x)
		}
		top := begin(-1)
		step(w.ask(t, top, round, read))
		var kids []int
		for kid := range 4 {
			kids = append(kids, begin(top))
			step(w.ask(t, kids[kid], round, read))
			step(w.ask(t, kids[kid], 100+kid, write))
		}
		for kid, id := range kids {
			if kid%2 == 0 {
				step(w.commit(t, id))
				found(t, w.l, top, 100+kid, none, write)
				continue
			}
			step(w.abort(t, id))
			found(t, w.l, top, 100+kid, none, none)
		}
		last := begin(top)
		step(w.ask(t, last, round, write))
		step(w.ask(t, last, 100, read))
		step(w.commit(t, last))
		found(t, w.l, top, round, read, write)
		found(t, w.l, top, 100, none, write)
		if round%2 == 0 {
			step(w.commit(t, top))
		} else {
			step(w.abort(t, top))
		}
		if len(w.l.L) > 0 {
			t.Fatalf("behind all there is %v", w.l)
		}
	}
}

// What is handed in, answered and kept

func TestAskTwiceOfOneTable(t *testing.T) {
	l := some() // with room behind
	x := family()
	first, _ := locks.Ask(l, x, 6, 200, read)
	second, _ := locks.Ask(l, x, 8, 201, write)
	third, _ := locks.Ask(l, x, 0, 0, read)
	behind := l.L[len(l.L):cap(l.L)]
	if first.L[8] != lock(200, 6, read, none) || second.L[8] != lock(201, 8, write, none) || third.L[0] != lock(0, 0, read, none) || behind[0] != (locks.Lock{}) {
		t.Errorf("%v, %v, %v, and behind the list %v", first, second, third, behind)
	}
	if !same(l, some()) || !slices.Equal(first.L[:8], l.L) || !slices.Equal(second.L[:8], l.L) || !slices.Equal(third.L[1:], l.L) {
		t.Errorf("%v, %v, %v of %v", first, second, third, l)
	}
	fourth, _ := locks.Ask(first, x, 6, 210, read)
	fifth, _ := locks.Ask(first, x, 8, 220, read)
	if fourth.L[9] != lock(210, 6, read, none) || fifth.L[9] != lock(220, 8, read, none) {
		t.Errorf("%v, %v", fourth, fifth)
	}
}

// scribble writes over a list, and over the room behind it.
func scribble(l []locks.Lock) {
	for i := range l[:cap(l)] {
		l[:cap(l)][i] = lock(77, 77, 77, 77)
	}
}

func TestWhatIsAnsweredIsNewMemory(t *testing.T) {
	x := family()
	for _, l := range []locks.Table{some(), {}, table(), table(lock(3, 6, read, none))} {
		stay := stays(t, "each call", l, x)
		for range 2 {
			for _, c := range []struct{ tx, block, mode int }{{6, 3, read}, {6, 3, write}, {0, 0, write}, {8, 255, read}, {1, 7, read}} {
				got, _ := asks(t, l, x, c.tx, c.block, c.mode)
				scribble(got.L)
				stay()
			}
			for _, tx := range []int{-1, 0, 1, 2, 4, 6, 64} {
				for _, parent := range []int{-1, 0, 1, 2, 4, 6, 64} {
					scribble(passes(t, l, tx, parent).L)
					stay()
				}
				scribble(frees(t, l, tx).L)
				scribble(frees(t, l).L)
				scribble(ofs(t, l, tx))
				stay()
				for _, mode := range []int{read, write} {
					ids := against(t, l, x, tx, 3, mode)
					for i := range ids[:cap(ids)] {
						ids[:cap(ids)][i] = 77
					}
					stay()
				}
			}
		}
	}
}

func TestNothingIsKept(t *testing.T) {
	l, x := some(), family()
	asked, _ := locks.Ask(l, x, 6, 3, read)
	passed, freed, of := locks.Pass(l, 1, 0), locks.Free(l, []int{1}), locks.Of(l, 1)
	want := []locks.Table{copied(asked), copied(passed), copied(freed), {L: slices.Clone(of)}}
	scribble(l.L)
	x.L[6].State, x.L[1].Parent = tree.Undone, 6
	if !same(asked, want[0]) || !same(passed, want[1]) || !same(freed, want[2]) || !slices.Equal(of, want[3].L) {
		t.Errorf("%v, %v, %v, %v", asked, passed, freed, of)
	}
	for range 3 {
		all(t, some(), family())
		all(t, l, x)
	}
}

// The example

func TestTheExample(t *testing.T) {
	x := grown(-1, 0, -1)
	l := asked(t, locks.Table{}, x, 0, 7, write, lock(7, 0, write, none))
	asked(t, l, x, 1, 7, read, lock(7, 0, write, none), lock(7, 1, read, none))
	refused(t, l, x, 2, 7, read, api.ErrWait)
	tells(t, l, x, 1, 7, read)
	tells(t, l, x, 2, 7, read, 0)
}

func ExampleAsk() {
	x, writer, _ := tree.Begin(tree.Tree{}, -1)
	x, kid, _ := tree.Begin(x, writer)
	x, other, _ := tree.Begin(x, -1)
	t, _ := locks.Ask(locks.Table{}, x, writer, 7, locks.Write)
	_, inside := locks.Ask(t, x, kid, 7, locks.Read)
	_, outside := locks.Ask(t, x, other, 7, locks.Read)
	fmt.Println(inside == api.OK, outside == api.ErrWait)
	// Output: true true
}

// P1

func FuzzTable(f *testing.F) {
	f.Add([]byte{}, []byte{})
	for seed := range uint32(20) {
		f.Add(script(seed, int(seed*3)), script(seed+100, int(seed)))
	}
	f.Fuzz(func(t *testing.T, b, c []byte) {
		all(t, anyTable(b[:min(len(b), 60)]), anyTree(c[:min(len(c), 30)]))
	})
}

func FuzzNumbers(f *testing.F) {
	f.Add(7, 1, 1, 0, 1, 7, 1, 0)
	f.Add(most, most, least, most, least, most, 2, least)
	f.Fuzz(func(t *testing.T, block, tx, held, kept, asker, asked, mode, parent int) {
		one := lock(block, tx, held, kept)
		for _, l := range []locks.Table{table(one), table(lock(7, 1, read, none), one, lock(9, 2, write, none)), table(one, one)} {
			x := family()
			against(t, l, x, asker, asked, mode)
			asks(t, l, x, asker, asked, mode)
			passes(t, l, asker, parent)
			passes(t, l, tx, parent)
			frees(t, l, tx, asker, parent)
			finds(t, l, asker, asked)
			finds(t, l, tx, block)
			ofs(t, l, asker)
			sane(t, l, plainSane(l))
		}
	})
}

func FuzzSteps(f *testing.F) {
	for seed := range uint32(20) {
		f.Add(script(seed+1000, 300))
	}
	f.Fuzz(func(t *testing.T, b []byte) { steps(t, b[:min(len(b), 1500)]) })
}
