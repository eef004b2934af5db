package version_test

import (
	"bytes"
	"fmt"
	"maps"
	"math"
	"slices"
	"testing"

	"heronry/api"
	"heronry/tree"
	"heronry/version"
)

const (
	least = math.MinInt
	most  = math.MaxInt
)

var (
	noBlocks = []int{-1, -2, -256, 256, 257, least, least + 1, most, most - 1, 1 << 32}
	noTxs    = []int{-1, -2, -64, 64, 65, least, least + 1, most, most - 1, 1 << 32, 1<<32 + 1}
)

// text is as many bytes, which tell a number; none of them is 0, and there is room behind them.
func text(n, many int) []byte {
	b := make([]byte, many, many+8)
	for i := range b[:cap(b)] {
		b[:cap(b)][i] = byte(n>>(i%4*4)&15<<4 | i%15 + 1)
	}
	return b
}

// data is a whole block that tells a number.
func data(n int) []byte { return text(n, 32) }

// padded is what a block becomes where that is written.
func padded(b []byte) []byte { return append(slices.Clone(b), make([]byte, 32-len(b))...) }

// base is as many blocks, with room behind.
func base(n int) [][]byte {
	l := make([][]byte, n, n+4)
	for i := range l {
		l[i] = data(2000 + i)
	}
	return l
}

func ver(block, tx, n int) version.Version {
	return version.Version{Block: block, Tx: tx, Data: data(n)}
}

// table is blocks and versions, with room behind them.
func table(blocks int, l ...version.Version) version.Table {
	room := make([]version.Version, len(l), len(l)+4)
	copy(room, l)
	return version.Table{Base: base(blocks), L: room}
}

// some is a table that may be, with several versions of one block and several of one transaction; of the blocks 3 and 5 there are none.
func some() version.Table {
	return table(6,
		ver(0, 1, 1), ver(0, 4, 2), ver(0, 6, 3),
		ver(1, 0, 4), ver(1, 1, 5),
		ver(2, 8, 6),
		ver(4, 1, 7), ver(4, 5, 8),
	)
}

// full is a table with as much in it as there may be.
func full() version.Table {
	t := table(256)
	for n := range 256 * 64 {
		t.L = append(t.L, ver(n/64, n%64, n))
	}
	return t
}

// grown is a tree of Live ones, by their parents.
func grown(parents ...int) tree.Tree {
	x := tree.Tree{Clock: len(parents)}
	for id, parent := range parents {
		x.L = append(x.L, tree.Tx{Parent: parent, State: tree.Live, Began: id + 1})
	}
	return x
}

// row is as many top ones.
func row(n int) tree.Tree { return grown(slices.Repeat([]int{-1}, n)...) }

// chain is as many, each in the one before.
func chain(n int) tree.Tree { return grown(numbers(-1, n)...) }

// numbers are as many, from one on.
func numbers(from, many int) []int {
	l := make([]int, many)
	for i := range l {
		l[i] = from + i
	}
	return l
}

// family is a tree of three top ones, which are 0, 6 and 8: 1 and 4 are in 0, 2 and 3 in 1, 5 is in 4, 7 is in 6.
func family() tree.Tree { return grown(-1, 0, 1, 1, 0, 4, -1, 6, -1) }

// ways are by its IDs what one of the family stands in, itself first.
func ways() [][]int {
	return [][]int{{0}, {1, 0}, {2, 1, 0}, {3, 1, 0}, {4, 0}, {5, 4, 0}, {6}, {7, 6}, {8}}
}

// ended is a tree one of which is not Live any more.
func ended(x tree.Tree, id, state int) tree.Tree {
	x.L = slices.Clone(x.L)
	x.Clock++
	x.L[id].State, x.L[id].Ended = state, x.Clock
	return x
}

// whole is a list with the room behind it.
func whole[T any](l []T) []T { return l[:cap(l)] }

// cloned is a table in new memory, with what stands in the room behind its lists.
func cloned(t version.Table) version.Table {
	var c version.Table
	for _, b := range whole(t.Base) {
		c.Base = append(c.Base, slices.Clone(whole(b))[:len(b)])
	}
	for _, v := range whole(t.L) {
		v.Data = slices.Clone(whole(v.Data))[:len(v.Data)]
		c.L = append(c.L, v)
	}
	return version.Table{Base: c.Base[:len(t.Base)], L: c.L[:len(t.L)]}
}

func sameVersion(a, b version.Version) bool {
	return a.Block == b.Block && a.Tx == b.Tx && bytes.Equal(a.Data, b.Data)
}

func same(a, b version.Table) bool {
	return slices.EqualFunc(a.Base, b.Base, bytes.Equal) && slices.EqualFunc(a.L, b.L, sameVersion)
}

// roomsSame: are they the same, with what stands in the room behind the lists of the first?
func roomsSame(a, b version.Table) bool {
	rest := func(b []byte) []byte { return whole(b)[len(b):] }
	for i, block := range a.Base {
		if !bytes.HasPrefix(rest(b.Base[i]), rest(block)) {
			return false
		}
	}
	for i, v := range a.L {
		if !bytes.HasPrefix(rest(b.L[i].Data), rest(v.Data)) {
			return false
		}
	}
	return same(version.Table{Base: whole(a.Base), L: whole(a.L)}, version.Table{Base: b.Base[:cap(a.Base)], L: b.L[:cap(a.L)]})
}

func sameImages(a, b []api.Image) bool {
	return slices.EqualFunc(a, b, func(a, b api.Image) bool { return a.Block == b.Block && bytes.Equal(a.Data, b.Data) })
}

// nothing: is that the zero table?
func nothing(t version.Table) bool { return t.Base == nil && t.L == nil }

// spoil writes over bytes, and over the room behind them.
func spoil(b []byte) {
	for i := range whole(b) {
		whole(b)[i] ^= 255
	}
}

// scribble writes over all of a table, and over the room behind its lists.
func scribble(t version.Table) {
	for i, b := range whole(t.Base) {
		spoil(b)
		whole(t.Base)[i] = nil
	}
	for i, v := range whole(t.L) {
		spoil(v.Data)
		whole(t.L)[i] = version.Version{Block: 77, Tx: 77}
	}
}

// A key tells whose version of which block it is.
type key struct{ block, tx int }

// plainSane tells each version by one number, which must rise.
func plainSane(t version.Table) bool {
	last := -1
	for _, v := range t.L {
		switch {
		case v.Block < 0, v.Block >= len(t.Base), v.Tx < 0, v.Tx > 63, len(v.Data) != 32, v.Block*64+v.Tx <= last:
			return false
		}
		last = v.Block*64 + v.Tx
	}
	for _, b := range t.Base {
		if len(b) != 32 {
			return false
		}
	}
	return len(t.Base) <= 256
}

// spread are versions as a map; their order is lost.
func spread(t version.Table) map[key]string {
	m := map[key]string{}
	for _, v := range t.L {
		m[key{v.Block, v.Tx}] = string(v.Data)
	}
	return m
}

// gathered are blocks and a map as a table, in order.
func gathered(base [][]byte, m map[key]string) version.Table {
	byBlock := map[int][]int{}
	for k := range m {
		byBlock[k.block] = append(byBlock[k.block], k.tx)
	}
	t := version.Table{Base: slices.Clone(base)}
	for _, block := range slices.Sorted(maps.Keys(byBlock)) {
		for _, tx := range slices.Sorted(slices.Values(byBlock[block])) {
			t.L = append(t.L, version.Version{Block: block, Tx: tx, Data: []byte(m[key{block, tx}])})
		}
	}
	return t
}

// way is what one stands in, itself first. Parents may go round: none is told again.
func way(x tree.Tree, id int) []int {
	var l []int
	told := make([]bool, len(x.L))
	for id >= 0 && id < len(x.L) && !told[id] {
		l, told[id] = append(l, id), true
		id = x.L[id].Parent
	}
	return l
}

func plainAsked(t version.Table, x tree.Tree, tx, block int) api.Errno {
	switch {
	case !plainSane(t):
		return api.ErrArg
	case block < 0, block >= len(t.Base), tx < 0, tx >= len(x.L):
		return api.ErrName
	case x.L[tx].State != tree.Live:
		return api.ErrState
	}
	return api.OK
}

func plainRead(t version.Table, x tree.Tree, tx, block int) ([]byte, api.Errno) {
	if e := plainAsked(t, x, tx, block); e != api.OK {
		return nil, e
	}
	m := spread(t)
	for _, id := range way(x, tx) {
		if s, there := m[key{block, id}]; there {
			return []byte(s), api.OK
		}
	}
	return t.Base[block], api.OK
}

func plainWrite(t version.Table, x tree.Tree, tx, block int, b []byte) (version.Table, api.Errno) {
	e := plainAsked(t, x, tx, block)
	switch {
	case e == api.ErrArg, len(b) > 32:
		return version.Table{}, api.ErrArg
	case tx > 63:
		return version.Table{}, api.ErrName
	case e != api.OK:
		return version.Table{}, e
	}
	m := spread(t)
	m[key{block, tx}] = string(padded(b))
	return gathered(t.Base, m), api.OK
}

func plainFree(t version.Table, l ...int) version.Table {
	m := spread(t)
	maps.DeleteFunc(m, func(k key, _ string) bool { return slices.Contains(l, k.tx) })
	return gathered(t.Base, m)
}

func plainPass(t version.Table, tx, parent int) version.Table {
	rest := plainFree(t, tx)
	m := spread(rest)
	for k, s := range spread(t) {
		switch {
		case k.tx != tx:
		case parent < 0:
			rest.Base[k.block] = []byte(s)
		default:
			m[key{k.block, parent}] = s
		}
	}
	return gathered(rest.Base, m)
}

func plainChanged(t version.Table, tx int) []api.Image {
	var l []api.Image
	m := spread(t)
	for block := range t.Base {
		if s, there := m[key{block, tx}]; there {
			l = append(l, api.Image{Block: block, Data: []byte(s)})
		}
	}
	return l
}

// stays lets what was handed in be held against what it was: the lists, what stands in the room behind them, the tree, and some bytes.
func stays(t *testing.T, call string, l version.Table, x tree.Tree, b []byte) func() {
	was, before, bytesWere := cloned(l), slices.Clone(x.L), slices.Clone(whole(b))
	return func() {
		t.Helper()
		if !same(l, was) || !roomsSame(l, was) || !slices.Equal(x.L, before) || !bytes.Equal(whole(b), bytesWere) {
			t.Fatalf("%s of %v, %v and %v left %v, %v and %v behind", call, was, before, bytesWere, l, x.L, b)
		}
	}
}

// reads holds Read against the plain one. The answer is new memory: nothing is changed by writing to it.
func reads(t *testing.T, l version.Table, x tree.Tree, tx, block int) ([]byte, api.Errno) {
	t.Helper()
	stay := stays(t, "Read", l, x, nil)
	got, e := version.Read(l, x, tx, block)
	stay()
	if want, wantErr := plainRead(l, x, tx, block); !bytes.Equal(got, want) || e != wantErr {
		t.Fatalf("Read(%v, %v, %d, %d) = %v, %v, want %v, %v", l, x, tx, block, got, e, want, wantErr)
	}
	if e != api.OK && got != nil {
		t.Fatalf("Read(%v, %v, %d, %d): %v beside %v", l, x, tx, block, got, e)
	}
	kept := slices.Clone(got)
	spoil(got)
	stay()
	return kept, e
}

func writes(t *testing.T, l version.Table, x tree.Tree, tx, block int, b []byte) (version.Table, api.Errno) {
	t.Helper()
	stay := stays(t, "Write", l, x, b)
	got, e := version.Write(l, x, tx, block, b)
	stay()
	if want, wantErr := plainWrite(l, x, tx, block, b); !same(got, want) || e != wantErr {
		t.Fatalf("Write(%v, %v, %d, %d, %v) = %v, %v, want %v, %v", l, x, tx, block, b, got, e, want, wantErr)
	}
	if e != api.OK && !nothing(got) {
		t.Fatalf("Write(%v, %v, %d, %d, %v): %v beside %v", l, x, tx, block, b, got, e)
	}
	return apart(got, stay), e
}

// apart: an answer shares no memory with what was handed in.
func apart(got version.Table, stay func()) version.Table {
	kept := cloned(got)
	scribble(got)
	stay()
	return kept
}

// passes holds Pass against the plain one, where the table is Sane.
func passes(t *testing.T, l version.Table, tx, parent int) version.Table {
	t.Helper()
	stay := stays(t, "Pass", l, tree.Tree{}, nil)
	got := version.Pass(l, tx, parent)
	stay()
	if plainSane(l) && !same(got, plainPass(l, tx, parent)) {
		t.Fatalf("Pass(%v, %d, %d) = %v, want %v", l, tx, parent, got, plainPass(l, tx, parent))
	}
	return apart(got, stay)
}

func frees(t *testing.T, l version.Table, ids ...int) version.Table {
	t.Helper()
	stay, were := stays(t, "Free", l, tree.Tree{}, nil), slices.Clone(ids)
	got := version.Free(l, ids)
	stay()
	if plainSane(l) && !same(got, plainFree(l, ids...)) {
		t.Fatalf("Free(%v, %v) = %v, want %v", l, ids, got, plainFree(l, ids...))
	}
	if !slices.Equal(ids, were) {
		t.Fatalf("Free(%v, %v) left %v behind", l, were, ids)
	}
	return apart(got, stay)
}

func changes(t *testing.T, l version.Table, tx int) []api.Image {
	t.Helper()
	stay := stays(t, "Changed", l, tree.Tree{}, nil)
	got := version.Changed(l, tx)
	stay()
	if want := plainChanged(l, tx); plainSane(l) && !sameImages(got, want) {
		t.Fatalf("Changed(%v, %d) = %v, want %v", l, tx, got, want)
	}
	var kept []api.Image
	for _, image := range got {
		kept = append(kept, api.Image{Block: image.Block, Data: slices.Clone(image.Data)})
		spoil(image.Data)
	}
	clear(whole(got))
	stay()
	return kept
}

// sane holds Sane against what is known, and the plain one too.
func sane(t *testing.T, l version.Table, want bool) {
	t.Helper()
	stay := stays(t, "Sane", l, tree.Tree{}, nil)
	if got := version.Sane(l); got != want {
		t.Errorf("Sane(%v) = %v, want %v", l, got, want)
	}
	stay()
	if got := plainSane(l); got != want {
		t.Errorf("the plain Sane(%v) = %v, want %v", l, got, want)
	}
}

// around are numbers of a table or a tree, and some that are none.
func around(of []int) []int {
	l := append([]int{-1, 0, 63, 64, least, most}, of...)
	slices.Sort(l)
	return slices.Compact(l)
}

// all lets each call be held against the plain one, at what the table and the tree have and at what they don't.
func all(t *testing.T, l version.Table, x tree.Tree) {
	t.Helper()
	sane(t, l, plainSane(l))
	var ids, blocks []int
	for _, v := range l.L {
		ids, blocks = append(ids, v.Tx), append(blocks, v.Block)
	}
	for id := range x.L {
		ids = append(ids, id)
	}
	for block := range l.Base {
		blocks = append(blocks, block, block+1)
	}
	ids, blocks = around(ids), around(blocks)
	for i, tx := range ids {
		for j, block := range blocks {
			reads(t, l, x, tx, block)
			writes(t, l, x, tx, block, text(i, (i*7+j)%34))
		}
		for _, parent := range ids {
			passes(t, l, tx, parent)
		}
		changes(t, l, tx)
		frees(t, l, tx)
		frees(t, l, ids[i:]...)
	}
	frees(t, l)
}

// P14.1

func TestSaneOfNone(t *testing.T) {
	sane(t, version.Table{}, true)
	sane(t, version.Table{Base: [][]byte{}, L: []version.Version{}}, true)
	sane(t, version.Table{L: []version.Version{ver(0, 0, 1)}}, false)
	sane(t, version.Table{L: []version.Version{{}}}, false)
	sane(t, version.Table{Base: [][]byte{nil}}, false)
	sane(t, table(1, version.Version{}), false)
}

func TestSaneOfSome(t *testing.T) {
	sane(t, some(), true)
	sane(t, table(1), true)
	sane(t, table(1, ver(0, 0, 1)), true)
	sane(t, table(2, ver(0, 0, 1), ver(0, 1, 2), ver(1, 0, 3)), true)
	sane(t, version.Table{Base: [][]byte{make([]byte, 32)}, L: []version.Version{{Data: make([]byte, 32)}}}, true)
}

func TestSaneOfManyBlocks(t *testing.T) {
	for n, want := range map[int]bool{0: true, 1: true, 2: true, 255: true, 256: true, 257: false, 258: false, 512: false, 1000: false} {
		sane(t, table(n), want)
		if n > 0 {
			sane(t, table(n, ver(0, 3, 1)), want)
			sane(t, table(n, ver(n-1, 3, 1)), want)
		}
	}
}

func TestSaneOfEachLength(t *testing.T) {
	for _, n := range []int{0, 1, 16, 30, 31, 32, 33, 34, 64, 1000} {
		want := n == 32
		for _, blocks := range []int{1, 2, 3, 255, 256} {
			for _, at := range []int{0, blocks / 2, blocks - 1} {
				l := table(blocks)
				l.Base[at] = text(at, n)
				sane(t, l, want)
			}
		}
		for at := range some().L {
			l := some()
			l.L[at].Data = text(at, n)
			sane(t, l, want)
			l = some()
			if at < len(l.Base) {
				l.Base[at] = text(at, n)
				sane(t, l, want)
			}
		}
	}
	for at := range 6 { // two that would make it up
		l := some()
		l.Base[at], l.L[at].Data = text(1, 31), text(1, 33)
		sane(t, l, false)
	}
	l := some()
	l.Base[3], l.L[3].Data = nil, nil
	sane(t, l, false)
}

func TestSaneOfEachBlock(t *testing.T) {
	for _, n := range []int{0, 1, 2, 64, 255, 256} {
		for _, block := range append([]int{0, 1, n - 1, n, n + 1, 254, 255}, noBlocks...) {
			want := block >= 0 && block < n
			sane(t, table(n, ver(block, 5, 1)), want)
			sane(t, table(n, ver(block, 5, 1), ver(block, 6, 1)), want)
		}
	}
	for block, want := range map[int]bool{least: false, -1: false, 0: true, 9: true, 10: false, 11: false, 20: false} {
		sane(t, table(256, ver(block, 5, 1), ver(10, 5, 1), ver(20, 5, 1)), want)
	}
	for block, want := range map[int]bool{-1: false, 0: false, 10: false, 11: true, 19: true, 20: false, 21: false, 256: false} {
		sane(t, table(256, ver(10, 5, 1), ver(block, 5, 1), ver(20, 5, 1)), want)
	}
	for block, want := range map[int]bool{most: false, 256: false, 255: true, 21: true, 20: false, 19: false, 10: false} {
		sane(t, table(256, ver(10, 5, 1), ver(20, 5, 1), ver(block, 5, 1)), want)
	}
}

func TestSaneOfEachTx(t *testing.T) {
	for _, tx := range append([]int{0, 1, 5, 62, 63}, noTxs...) {
		want := tx >= 0 && tx <= 63
		sane(t, table(1, ver(0, tx, 1)), want)
		sane(t, table(2, ver(0, tx, 1), ver(1, 0, 1)), want)
		sane(t, table(2, ver(0, 63, 1), ver(1, tx, 1)), want)
		sane(t, table(3, ver(0, 63, 1), ver(1, tx, 1), ver(2, 0, 1)), want)
	}
	for tx, want := range map[int]bool{-1: false, 10: false, 11: true, 19: true, 20: false, 64: false} {
		sane(t, table(1, ver(0, 10, 1), ver(0, tx, 1), ver(0, 20, 1)), want)
	}
}

func TestSaneOfEachOrder(t *testing.T) {
	for blocks := range 9 {
		for txs := range 9 {
			a, b := ver(blocks/3, txs/3, 1), ver(blocks%3, txs%3, 2)
			want := a.Block < b.Block || a.Block == b.Block && a.Tx < b.Tx
			sane(t, table(5, a, b), want)
			a.Block, b.Block = a.Block+1, b.Block+1
			ahead, behind := ver(0, 9, 1), ver(4, 0, 1)
			sane(t, table(5, ahead, a, b), want)
			sane(t, table(5, a, b, behind), want)
			sane(t, table(5, ahead, a, b, behind), want)
		}
	}
}

func TestSaneOfTwoThatChangedPlaces(t *testing.T) {
	for at := range len(some().L) - 1 {
		l := some()
		l.L[at], l.L[at+1] = l.L[at+1], l.L[at]
		sane(t, l, false)
		l.L[at+1] = l.L[at] // the same twice
		sane(t, l, false)
		l.L[at+1].Data = data(99) // with other data, too
		sane(t, l, false)
	}
}

func TestSaneOfAll(t *testing.T) {
	sane(t, full(), true)
	for _, at := range []int{0, 1, 63, 64, 8191, 8192, 16382, 16383} {
		is := full().L[at]
		l := full()
		for _, v := range []version.Version{
			ver(-1, is.Tx, 1), ver(256, is.Tx, 1), ver(is.Block, -1, 1), ver(is.Block, 64, 1),
			{Block: is.Block, Tx: is.Tx}, {Block: is.Block, Tx: is.Tx, Data: text(1, 31)}, {Block: is.Block, Tx: is.Tx, Data: text(1, 33)},
		} {
			l.L[at] = v
			sane(t, l, false)
		}
		l.L[at] = is
		sane(t, l, true)
		l.L = slices.Insert(l.L, at, is)
		sane(t, l, false)
	}
}

// P14.2

// read holds Read against what is known.
func read(t *testing.T, l version.Table, x tree.Tree, tx, block int, want []byte) {
	t.Helper()
	if got, e := reads(t, l, x, tx, block); e != api.OK || !bytes.Equal(got, want) {
		t.Errorf("Read(%v, .., %d, %d) = %v, %v, want %v", l, tx, block, got, e, want)
	}
}

// unread holds an error of Read against what is known; there is nothing beside it.
func unread(t *testing.T, l version.Table, x tree.Tree, tx, block int, want api.Errno) {
	t.Helper()
	if got, e := reads(t, l, x, tx, block); e != want || got != nil {
		t.Errorf("Read(%v, .., %d, %d) = %v, %v, want %v", l, tx, block, got, e, want)
	}
}

// strange are tables that are not Sane.
func strange() []version.Table {
	bad := []version.Table{
		table(257),
		table(300, ver(3, 3, 3)),
		table(0, ver(0, 0, 1)),
		table(3, ver(-1, 0, 1)),
		table(3, ver(3, 0, 1)),
		table(3, ver(0, -1, 1)),
		table(3, ver(0, 64, 1)),
		table(3, ver(0, 0, 1), ver(0, 0, 1)),
		table(3, ver(0, 1, 1), ver(0, 0, 1)),
		table(3, ver(1, 0, 1), ver(0, 1, 1)),
		table(3, ver(2, 0, 1), ver(1, 1, 2), ver(0, 2, 3), ver(2, 2, 4), ver(0, 0, 5), ver(1, 0, 6)),
		table(3, ver(1, 0, 1), ver(1, 0, 2), ver(0, 0, 3), ver(0, 0, 4), ver(2, 0, 5)),
		table(3, ver(least, most, 1), ver(most, least, 2)),
		table(3, ver(0, 0, 1), ver(most, most, 2), ver(least, least, 3), ver(0, 0, 4), ver(-1, -1, 5)),
	}
	for _, n := range []int{0, 31, 33, 100} {
		l := some()
		l.Base[2] = text(1, n)
		bad = append(bad, l)
		l = some()
		l.L[4].Data = text(1, n)
		bad = append(bad, l)
		l = some()
		l.Base[5], l.L[7].Data = nil, nil
		bad = append(bad, l)
	}
	return bad
}

func TestTablesThatAreNotSane(t *testing.T) {
	for _, l := range strange() {
		sane(t, l, false)
		for block := -1; block < 4; block++ {
			for _, tx := range []int{-1, 0, 3, 8, 9} {
				unread(t, l, family(), tx, block, api.ErrArg)
				for _, n := range []int{0, 5, 32, 33} {
					unwritten(t, l, family(), tx, block, text(1, n), api.ErrArg)
				}
			}
		}
	}
}

func TestReadOfBlocksThatAreNone(t *testing.T) {
	for _, n := range []int{0, 1, 2, 64, 255, 256} {
		for _, block := range append([]int{n, n + 1}, noBlocks...) {
			unread(t, table(n), family(), 8, block, api.ErrName)
			unread(t, table(n), tree.Tree{}, 8, block, api.ErrName)
		}
	}
	for _, block := range append([]int{6, 7, 255}, noBlocks...) {
		unread(t, some(), family(), 1, block, api.ErrName)
	}
}

func TestReadOfTransactionsThatAreNone(t *testing.T) {
	for _, tx := range append([]int{9, 10, 63}, noTxs...) {
		for block := range 6 {
			unread(t, some(), family(), tx, block, api.ErrName)
			unread(t, some(), tree.Tree{}, tx, block, api.ErrName)
		}
	}
	for block := range 6 {
		unread(t, some(), tree.Tree{}, 0, block, api.ErrName)
		unread(t, some(), tree.Tree{}, 1, block, api.ErrName)
	}
	unread(t, table(3, ver(1, 20, 1)), family(), 20, 1, api.ErrName) // though it has a version
}

func TestReadOfEachState(t *testing.T) {
	for _, state := range []int{0, tree.Done, tree.Undone, 4, -1, least, most} {
		x := ended(family(), 4, state)
		for block := range 6 {
			unread(t, some(), x, 4, block, api.ErrState) // of the block 0 it has a version
		}
		read(t, some(), x, 5, 0, data(2)) // it is Live, whatever it stands in
		read(t, some(), x, 0, 1, data(4))
	}
}

// Each of what is wrong by itself, and all of them together: what comes first is told.
func TestWhichErrorComesFirst(t *testing.T) {
	for wrong := range 1 << 5 {
		is := func(bit int) bool { return wrong>>bit&1 == 1 }
		l, x, tx, block, b := some(), family(), 6, 0, text(1, 9)
		want := api.OK
		if is(4) {
			x, want = ended(x, 6, tree.Done), api.ErrState
		}
		if is(3) {
			tx, want = 9, api.ErrName
		}
		if is(2) {
			block, want = 6, api.ErrName
		}
		if is(1) {
			l.L[0].Tx, want = 63, api.ErrArg
		}
		got, e := reads(t, l, x, tx, block)
		if e != want || (e != api.OK) != (got == nil) {
			t.Errorf("%05b: Read: %v, %v, want %v", wrong, got, e, want)
		}
		if is(0) {
			b, want = text(1, 33), api.ErrArg
		}
		table, e := writes(t, l, x, tx, block, b)
		if e != want || (e != api.OK) != nothing(table) {
			t.Errorf("%05b: Write: %v, %v, want %v", wrong, table, e, want)
		}
	}
	for _, tx := range []int{64, 65} { // IDs, but too great to write, and not Live
		x := ended(row(70), tx, tree.Undone)
		unread(t, some(), x, tx, 0, api.ErrState)
		unread(t, some(), x, tx, 6, api.ErrName)
		unwritten(t, some(), x, tx, 0, data(1), api.ErrName)
		unwritten(t, some(), x, tx, 0, text(1, 33), api.ErrArg)
	}
}

// Whoever of the family has a version, and of which block: the first one on the way up that has one is read.
func TestReadOfEachKin(t *testing.T) {
	for have := range 1 << 9 {
		l := table(3, ver(0, 2, 900), ver(0, 5, 901), ver(0, 8, 902))
		for id := range 9 {
			if have>>id&1 == 1 {
				l.L = append(l.L, ver(1, id, id))
			}
		}
		l.L = append(l.L, ver(2, 0, 903), ver(2, 1, 904), ver(2, 7, 905))
		for tx, way := range ways() {
			want := l.Base[1]
			for _, id := range slices.Backward(way) {
				if have>>id&1 == 1 {
					want = data(id)
				}
			}
			got, e := version.Read(l, family(), tx, 1)
			if e != api.OK || !bytes.Equal(got, want) {
				t.Fatalf("%09b: Read(.., %d) = %v, %v, want %v", have, tx, got, e, want)
			}
		}
	}
}

func TestReadOfItsOwnAndItsParents(t *testing.T) {
	x, l := family(), some()
	read(t, l, x, 1, 0, data(1)) // its own
	read(t, l, x, 4, 0, data(2))
	read(t, l, x, 6, 0, data(3))
	read(t, l, x, 1, 1, data(5)) // its own, ahead of its parent's
	read(t, l, x, 2, 0, data(1)) // its parent's
	read(t, l, x, 3, 1, data(5)) // its parent's, ahead of that one's parent's
	read(t, l, x, 5, 0, data(2))
	read(t, l, x, 7, 0, data(3))
	read(t, l, x, 4, 1, data(4))
	read(t, l, x, 5, 1, data(4)) // that of its parent's parent alone
	read(t, l, x, 5, 4, data(8))
	for _, c := range []struct{ tx, block int }{
		{0, 0}, {8, 0}, // a kid's, a kid's kid's, one's elsewhere
		{6, 1}, {7, 1}, {8, 1},
		{0, 2}, {2, 2}, {5, 2}, {7, 2},
		{4, 4}, {0, 4}, {6, 4}, // a kid's, and a brother's
		{0, 3}, {1, 3}, {2, 3}, {5, 3}, {8, 3}, {1, 5}, {8, 5}, // nobody's
	} {
		read(t, l, x, c.tx, c.block, l.Base[c.block])
	}
	read(t, table(1, ver(0, 3, 1)), x, 2, 0, data(2000)) // a brother's
	read(t, table(1, ver(0, 9, 1), ver(0, 63, 2)), x, 2, 0, data(2000))
}

func TestReadOfEveryBlock(t *testing.T) {
	l, x := full(), row(64)
	for _, tx := range []int{0, 1, 31, 62, 63} {
		for block := range 256 {
			if got, e := version.Read(l, x, tx, block); e != api.OK || !bytes.Equal(got, data(block*64+tx)) {
				t.Fatalf("Read(.., %d, %d) = %v, %v", tx, block, got, e)
			}
		}
	}
	l.L = slices.DeleteFunc(l.L, func(v version.Version) bool { return v.Tx == 31 || v.Block%2 == 1 })
	for block := range 256 {
		want := l.Base[block]
		if got, e := version.Read(l, x, 31, block); e != api.OK || !bytes.Equal(got, want) {
			t.Fatalf("Read(.., 31, %d) = %v, %v", block, got, e)
		}
		if block%2 == 0 {
			want = data(block*64 + 63)
		}
		if got, e := version.Read(l, x, 63, block); e != api.OK || !bytes.Equal(got, want) {
			t.Fatalf("Read(.., 63, %d) = %v, %v", block, got, e)
		}
	}
}

// The trees may be greater than one that is Sane: an ID is an ID.
func TestReadOfGreatIDs(t *testing.T) {
	for _, n := range []int{63, 64, 65, 66, 200} {
		for _, tx := range []int{62, 63, 64, 65, 66, 199, 200} {
			l := table(2, ver(0, 3, 1), ver(0, 60, 2), ver(1, 63, 3))
			if tx >= n {
				unread(t, l, row(n), tx, 0, api.ErrName)
				continue
			}
			read(t, l, row(n), tx, 0, data(2000))
			read(t, l, chain(n), tx, 0, data(2))
			want := data(2001)
			if tx >= 63 {
				want = data(3)
			}
			read(t, l, chain(n), tx, 1, want)
		}
	}
}

func TestReadOfTreesThatAreNotSane(t *testing.T) {
	ring := grown(2, 0, 1, 2, 77, 3, -2, least, most, 9) // 0 is in 2, 2 in 1, 1 in 0
	read(t, table(1, ver(0, 0, 1)), ring, 1, 0, data(1))
	read(t, table(1, ver(0, 0, 1)), ring, 2, 0, data(1))
	read(t, table(1, ver(0, 0, 1)), ring, 5, 0, data(1)) // it stands in 3, 2, 1 and 0
	read(t, table(1, ver(0, 0, 1), ver(0, 1, 2)), ring, 0, 0, data(1))
	read(t, table(1, ver(0, 1, 1), ver(0, 2, 2)), ring, 0, 0, data(2))
	read(t, table(1, ver(0, 1, 1), ver(0, 2, 2)), ring, 3, 0, data(2))
	read(t, table(1, ver(0, 3, 1)), ring, 0, 0, data(2000)) // none of the ring stands in 3
	for _, tx := range []int{4, 6, 7, 8, 9} {
		read(t, table(1, ver(0, 0, 1)), ring, tx, 0, data(2000))
		read(t, table(1, ver(0, 0, 1), ver(0, tx, 2)), ring, tx, 0, data(2))
	}
	read(t, table(1, ver(0, 1, 1)), grown(1, -1), 0, 0, data(1)) // a parent above it
	read(t, table(1, ver(0, 0, 1)), grown(1, -1), 1, 0, data(2000))
	read(t, table(1, ver(0, 1, 1)), grown(0, -1), 0, 0, data(2000)) // it is its own parent
	read(t, table(1, ver(0, 0, 1)), grown(0, -1), 0, 0, data(1))
}

// P14.3

// written holds Write against what is known.
func written(t *testing.T, l version.Table, x tree.Tree, tx, block int, b []byte, want ...version.Version) version.Table {
	t.Helper()
	got, e := writes(t, l, x, tx, block, b)
	if e != api.OK || !same(got, version.Table{Base: l.Base, L: want}) {
		t.Errorf("Write(%v, .., %d, %d, %v) = %v, %v, want %v", l, tx, block, b, got, e, want)
	}
	return got
}

// unwritten holds an error of Write against what is known; the table beside it is the zero one.
func unwritten(t *testing.T, l version.Table, x tree.Tree, tx, block int, b []byte, want api.Errno) {
	t.Helper()
	got, e := writes(t, l, x, tx, block, b)
	if e != want || !nothing(got) {
		t.Errorf("Write(%v, .., %d, %d, %v) = %v, %v, want %v", l, tx, block, b, got, e, want)
	}
}

func TestWriteOfNames(t *testing.T) {
	for _, n := range []int{0, 1, 2, 64, 255, 256} {
		for _, block := range append([]int{n, n + 1}, noBlocks...) {
			unwritten(t, table(n), family(), 8, block, data(1), api.ErrName)
			unwritten(t, table(n), family(), 8, block, nil, api.ErrName)
		}
	}
	for _, block := range append([]int{6, 7, 255}, noBlocks...) {
		unwritten(t, some(), family(), 1, block, data(1), api.ErrName)
	}
	for _, tx := range append([]int{9, 10, 63}, noTxs...) {
		unwritten(t, some(), family(), tx, 0, data(1), api.ErrName)
		unwritten(t, some(), tree.Tree{}, tx, 0, nil, api.ErrName)
	}
	unwritten(t, some(), tree.Tree{}, 0, 0, data(1), api.ErrName)
	unwritten(t, table(3, ver(1, 20, 1)), family(), 20, 1, data(2), api.ErrName) // though it has a version
}

func TestWriteOfGreatIDs(t *testing.T) {
	for _, n := range []int{63, 64, 65, 66, 200} {
		for _, tx := range []int{62, 63, 64, 65, 66, 199, 200} {
			l := table(2, ver(0, 0, 1))
			for _, x := range []tree.Tree{row(n), chain(n)} {
				if tx < n && tx <= 63 {
					written(t, l, x, tx, 0, data(2), ver(0, 0, 1), ver(0, tx, 2))
					continue
				}
				unwritten(t, l, x, tx, 0, data(2), api.ErrName)
				unwritten(t, l, x, tx, 2, data(2), api.ErrName)
				unwritten(t, l, x, tx, 0, text(2, 33), api.ErrArg)
			}
		}
	}
	x := row(200) // with room behind, as IDs that were
	x.L = x.L[:10]
	unwritten(t, table(1), x, 10, 0, data(1), api.ErrName)
	unwritten(t, table(1), x, 63, 0, data(1), api.ErrName)
	unread(t, table(1), x, 10, 0, api.ErrName)
}

func TestWriteOfEachState(t *testing.T) {
	for _, state := range []int{0, tree.Done, tree.Undone, 4, -1, least, most} {
		x := ended(family(), 4, state)
		for block := range 6 {
			unwritten(t, some(), x, 4, block, data(9), api.ErrState) // of the block 0 it has a version
			unwritten(t, some(), x, 4, block, nil, api.ErrState)
			unwritten(t, some(), x, 4, block, text(9, 33), api.ErrArg)
		}
		written(t, table(1), x, 5, 0, data(9), ver(0, 5, 9)) // it is Live, whatever it stands in
		written(t, table(1), x, 0, 0, data(9), ver(0, 0, 9))
	}
}

func TestWriteOfEachLength(t *testing.T) {
	x := family()
	for n := range 33 {
		b := text(n, n)
		want := version.Version{Block: 1, Tx: 3, Data: padded(b)}
		if len(want.Data) != 32 || !bytes.Equal(want.Data[:n], b) || bytes.ContainsFunc(want.Data[n:], func(r rune) bool { return r != 0 }) {
			t.Fatalf("%v of %v", want, b)
		}
		written(t, table(2), x, 3, 1, b, want)
		written(t, table(2, ver(1, 3, 77)), x, 3, 1, b, want)                               // behind a longer one
		written(t, table(2, ver(1, 2, 77)), x, 3, 1, b, ver(1, 2, 77), want)                // its brother's stays
		written(t, table(2, ver(0, 3, 77)), x, 3, 1, b, ver(0, 3, 77), want)                // and its own of another block
		written(t, table(2, ver(1, 1, 77)), x, 3, 1, make([]byte, n), ver(1, 1, 77), zero3) // zeros count, too
	}
	for _, n := range []int{33, 34, 64, 1000, 1 << 20} {
		unwritten(t, table(2), x, 3, 1, text(1, n), api.ErrArg)
		unwritten(t, some(), x, 3, 1, make([]byte, n), api.ErrArg)
		unwritten(t, some(), x, 9, 9, text(1, n), api.ErrArg)
	}
	written(t, table(2), x, 3, 1, nil, zero3)
	written(t, table(2), x, 3, 1, []byte{}, zero3)
	written(t, table(2, ver(1, 3, 77)), x, 3, 1, nil, zero3)
}

// zero3 is what is written by nothing at all.
var zero3 = version.Version{Block: 1, Tx: 3, Data: make([]byte, 32)}

func TestWriteAgain(t *testing.T) {
	x := family()
	l := written(t, table(2), x, 4, 1, data(1), ver(1, 4, 1))
	l = written(t, l, x, 4, 1, data(2), ver(1, 4, 2))
	l = written(t, l, x, 4, 1, []byte("ab"), version.Version{Block: 1, Tx: 4, Data: padded([]byte("ab"))})
	l = written(t, l, x, 4, 1, []byte("c"), version.Version{Block: 1, Tx: 4, Data: padded([]byte("c"))}) // no b is left
	l = written(t, l, x, 4, 1, nil, version.Version{Block: 1, Tx: 4, Data: make([]byte, 32)})
	l = written(t, l, x, 4, 1, data(3), ver(1, 4, 3))
	l = written(t, l, x, 4, 1, data(3), ver(1, 4, 3))
	l = written(t, l, x, 4, 1, data(2001), ver(1, 4, 2001)) // as the Base: it is a version all the same
	l = written(t, l, x, 0, 1, data(4), ver(1, 0, 4), ver(1, 4, 2001))
	l = written(t, l, x, 4, 1, data(5), ver(1, 0, 4), ver(1, 4, 5))
	l = written(t, l, x, 5, 1, data(6), ver(1, 0, 4), ver(1, 4, 5), ver(1, 5, 6))
	written(t, l, x, 4, 0, data(7), ver(0, 4, 7), ver(1, 0, 4), ver(1, 4, 5), ver(1, 5, 6))
	for at, v := range some().L { // in place of each
		want := some().L
		want[at].Data = data(99)
		written(t, some(), x, v.Tx, v.Block, data(99), want...)
	}
}

func TestWhereANewVersionComes(t *testing.T) {
	l := table(5, ver(1, 2, 1), ver(1, 4, 2), ver(3, 0, 3), ver(3, 7, 4))
	for _, c := range []struct{ block, tx, at int }{
		{0, 0, 0}, {0, 8, 0}, {1, 0, 0}, {1, 1, 0}, {1, 3, 1}, {1, 5, 2}, {1, 8, 2}, {2, 0, 2}, {2, 4, 2}, {2, 8, 2},
		{3, 1, 3}, {3, 6, 3}, {3, 8, 4}, {4, 0, 4}, {4, 8, 4},
	} {
		written(t, l, family(), c.tx, c.block, data(9), slices.Insert(slices.Clone(l.L), c.at, ver(c.block, c.tx, 9))...)
	}
}

// All that there may be is written, one behind the other, in an order that does not rise, and then once more.
func TestWriteUntilAllIsFull(t *testing.T) {
	x, l := row(64), table(16)
	for turn := range 2 {
		for n := range 16 * 64 {
			at := n * 619 % 1024
			got, e := version.Write(l, x, at%64, at/64, data(turn*1024+at))
			if e != api.OK {
				t.Fatalf("%v at %d", e, at)
			}
			l = got
		}
		sane(t, l, true)
		for at, v := range l.L {
			if !sameVersion(v, ver(at/64, at%64, turn*1024+at)) {
				t.Fatalf("%v at %d", v, at)
			}
		}
		if len(l.L) != 1024 || !slices.EqualFunc(l.Base, base(16), bytes.Equal) {
			t.Errorf("%d versions", len(l.L))
		}
	}
	want := full().L
	want[16383].Data = data(7)
	written(t, full(), x, 63, 255, data(7), want...)
	rest := full()
	rest.L = slices.Delete(rest.L, 16383, 16384)
	written(t, rest, x, 63, 255, data(7), want...)
}

// P14.4

// passed holds Pass against what is known, where the Base is as it was.
func passed(t *testing.T, l version.Table, tx, parent int, want ...version.Version) version.Table {
	t.Helper()
	got := passes(t, l, tx, parent)
	if !same(got, version.Table{Base: l.Base, L: want}) {
		t.Errorf("Pass(%v, %d, %d) = %v, want %v", l, tx, parent, got, want)
	}
	return got
}

func TestPassToAParentThatHasNothing(t *testing.T) {
	passed(t, table(1, ver(0, 4, 1)), 4, 0, ver(0, 0, 1))
	passed(t, table(1, ver(0, 4, 1)), 4, 63, ver(0, 63, 1))
	passed(t, table(4, ver(0, 4, 1), ver(1, 4, 2), ver(3, 4, 3)), 4, 2, ver(0, 2, 1), ver(1, 2, 2), ver(3, 2, 3))
	between := table(2, ver(0, 1, 1), ver(0, 3, 2), ver(0, 5, 3), ver(0, 7, 4))
	passed(t, between, 7, 0, ver(0, 0, 4), ver(0, 1, 1), ver(0, 3, 2), ver(0, 5, 3))
	passed(t, between, 7, 2, ver(0, 1, 1), ver(0, 2, 4), ver(0, 3, 2), ver(0, 5, 3))
	passed(t, between, 7, 6, ver(0, 1, 1), ver(0, 3, 2), ver(0, 5, 3), ver(0, 6, 4))
	passed(t, between, 1, 4, ver(0, 3, 2), ver(0, 4, 1), ver(0, 5, 3), ver(0, 7, 4))
	passed(t, between, 1, 9, ver(0, 3, 2), ver(0, 5, 3), ver(0, 7, 4), ver(0, 9, 1))
	passed(t, between, 3, 4, ver(0, 1, 1), ver(0, 4, 2), ver(0, 5, 3), ver(0, 7, 4))
	passed(t, table(3, ver(0, 0, 1), ver(1, 4, 2)), 4, 0, ver(0, 0, 1), ver(1, 0, 2)) // it has another block
	passed(t, table(3, ver(1, 4, 2), ver(2, 0, 1)), 4, 0, ver(1, 0, 2), ver(2, 0, 1))
}

func TestPassToAParentThatHasSome(t *testing.T) {
	passed(t, table(1, ver(0, 0, 1), ver(0, 4, 2)), 4, 0, ver(0, 0, 2))
	passed(t, table(1, ver(0, 0, 1), ver(0, 4, 2)), 0, 4, ver(0, 4, 1))
	passed(t, table(1, ver(0, 0, 1), ver(0, 63, 2)), 63, 0, ver(0, 0, 2))
	l := table(5,
		ver(0, 0, 1), ver(0, 2, 2), ver(0, 4, 3),
		ver(1, 0, 4), ver(1, 2, 5),
		ver(2, 2, 6), ver(2, 4, 7),
		ver(3, 4, 8), ver(3, 5, 9),
		ver(4, 0, 10), ver(4, 4, 11), ver(4, 63, 12),
	)
	passed(t, l, 4, 0,
		ver(0, 0, 3), ver(0, 2, 2),
		ver(1, 0, 4), ver(1, 2, 5),
		ver(2, 0, 7), ver(2, 2, 6),
		ver(3, 0, 8), ver(3, 5, 9),
		ver(4, 0, 11), ver(4, 63, 12))
	passed(t, l, 0, 4,
		ver(0, 2, 2), ver(0, 4, 1),
		ver(1, 2, 5), ver(1, 4, 4),
		ver(2, 2, 6), ver(2, 4, 7),
		ver(3, 4, 8), ver(3, 5, 9),
		ver(4, 4, 10), ver(4, 63, 12))
	passed(t, l, 2, 63,
		ver(0, 0, 1), ver(0, 4, 3), ver(0, 63, 2),
		ver(1, 0, 4), ver(1, 63, 5),
		ver(2, 4, 7), ver(2, 63, 6),
		ver(3, 4, 8), ver(3, 5, 9),
		ver(4, 0, 10), ver(4, 4, 11), ver(4, 63, 12))
}

func TestPassToItself(t *testing.T) {
	for _, l := range []version.Table{{}, some(), table(1, ver(0, 63, 1)), table(256)} {
		for _, tx := range append([]int{0, 1, 2, 4, 5, 6, 8, 9, 63}, noTxs...) {
			if tx >= 0 {
				passed(t, l, tx, tx, l.L...)
			}
		}
	}
}

func TestPassOfOneThatHasNothing(t *testing.T) {
	for _, tx := range append([]int{2, 3, 7, 9, 63}, noTxs...) {
		for _, parent := range append([]int{0, 1, 2, 4, 8, 63}, noTxs...) {
			passed(t, some(), tx, parent, some().L...)
			passed(t, version.Table{}, tx, parent)
			passed(t, table(3), tx, parent)
		}
	}
}

// fixed holds Pass to a parent below 0 against what is known: of some blocks the Base is another one.
func fixed(t *testing.T, l version.Table, tx int, blocks map[int]int, want ...version.Version) {
	t.Helper()
	for _, parent := range []int{-1, -2, -64, least, least + 1} {
		got := passes(t, l, tx, parent)
		was := slices.Clone(l.Base)
		for block, n := range blocks {
			was[block] = data(n)
		}
		if !same(got, version.Table{Base: was, L: want}) {
			t.Errorf("Pass(%v, %d, %d) = %v, want %v and %v", l, tx, parent, got, blocks, want)
		}
	}
}

func TestPassToNone(t *testing.T) {
	fixed(t, table(1, ver(0, 4, 1)), 4, map[int]int{0: 1})
	fixed(t, table(3, ver(0, 4, 1), ver(2, 4, 2)), 4, map[int]int{0: 1, 2: 2})
	fixed(t, table(3, ver(1, 0, 1), ver(1, 4, 2), ver(1, 63, 3)), 4, map[int]int{1: 2}, ver(1, 0, 1), ver(1, 63, 3))
	fixed(t, table(3, ver(1, 0, 1), ver(1, 63, 3)), 63, map[int]int{1: 3}, ver(1, 0, 1))
	fixed(t, some(), 1, map[int]int{0: 1, 1: 5, 4: 7}, ver(0, 4, 2), ver(0, 6, 3), ver(1, 0, 4), ver(2, 8, 6), ver(4, 5, 8))
	fixed(t, some(), 8, map[int]int{2: 6}, slices.Delete(some().L, 5, 6)...)
	fixed(t, some(), 3, nil, some().L...)
	fixed(t, some(), -1, nil, some().L...)
	fixed(t, version.Table{}, 0, nil)
}

// Pass to one above 63 lets it have them, by the words; such a table is not Sane.
func TestPassToAParentThatIsNoTransaction(t *testing.T) {
	for _, parent := range []int{64, 65, 1 << 32, most - 1, most} {
		got := passed(t, table(2, ver(0, 4, 1), ver(0, 9, 2), ver(1, 4, 3)), 4, parent, ver(0, 9, 2), ver(0, parent, 1), ver(1, parent, 3))
		sane(t, got, false)
	}
}

func TestPassOfTheGreatestTable(t *testing.T) {
	for _, c := range []struct{ tx, parent int }{{0, 1}, {63, 0}, {31, 31}, {62, 63}, {0, -1}, {63, -1}} {
		got := passes(t, full(), c.tx, c.parent)
		if !version.Sane(got) {
			t.Errorf("Pass of %d to %d may not be", c.tx, c.parent)
		}
		for block := range 256 {
			if c.parent < 0 && !bytes.Equal(got.Base[block], data(block*64+c.tx)) {
				t.Errorf("Pass of %d to %d: %v", c.tx, c.parent, got.Base[block])
			}
		}
		images := version.Changed(got, c.parent)
		if c.parent >= 0 && len(images) != 256 {
			t.Errorf("Pass of %d to %d: %d", c.tx, c.parent, len(images))
		}
		for block, image := range images {
			if image.Block != block || !bytes.Equal(image.Data, data(block*64+c.tx)) {
				t.Errorf("Pass of %d to %d: %v", c.tx, c.parent, image)
			}
		}
	}
}

// freed holds Free against what is known.
func freed(t *testing.T, l version.Table, ids []int, want ...version.Version) {
	t.Helper()
	if got := frees(t, l, ids...); !same(got, version.Table{Base: l.Base, L: want}) {
		t.Errorf("Free(%v, %v) = %v, want %v", l, ids, got, want)
	}
}

func TestFree(t *testing.T) {
	v := some().L
	freed(t, some(), nil, v...)
	freed(t, some(), []int{}, v...)
	freed(t, some(), []int{1}, v[1], v[2], v[3], v[5], v[7])
	freed(t, some(), []int{1, 1, 1}, v[1], v[2], v[3], v[5], v[7])
	freed(t, some(), []int{0}, v[0], v[1], v[2], v[4], v[5], v[6], v[7])
	freed(t, some(), []int{8, 4}, v[0], v[2], v[3], v[4], v[6], v[7])
	freed(t, some(), []int{4, 9, 8, 4, -1}, v[0], v[2], v[3], v[4], v[6], v[7])
	freed(t, some(), []int{0, 1, 4, 5, 6, 8})
	freed(t, some(), []int{8, 6, 5, 4, 1, 0, 2, 3, 7})
	freed(t, some(), append([]int{2, 3, 7, 9, 63}, noTxs...), v...)
	freed(t, version.Table{}, nil)
	freed(t, version.Table{}, []int{0, 1, 63})
	freed(t, table(3), []int{0, 1, 63})
	freed(t, table(1, ver(0, 63, 1)), []int{63})
	freed(t, table(1, ver(0, 0, 1)), []int{0, 0})
}

func TestFreeOfTheGreatestTable(t *testing.T) {
	var odd []int
	for id := 1; id < 64; id += 2 {
		odd = append(odd, id, id)
	}
	freed(t, full(), odd, slices.DeleteFunc(full().L, func(v version.Version) bool { return v.Tx%2 == 1 })...)
	freed(t, full(), numbers(-100, 300))
}

func TestChanged(t *testing.T) {
	image := func(block, n int) api.Image { return api.Image{Block: block, Data: data(n)} }
	for tx, want := range map[int][]api.Image{
		0: {image(1, 4)}, 1: {image(0, 1), image(1, 5), image(4, 7)}, 2: nil, 3: nil, 4: {image(0, 2)}, 5: {image(4, 8)},
		6: {image(0, 3)}, 7: nil, 8: {image(2, 6)}, 9: nil, 63: nil, 64: nil, -1: nil, least: nil, most: nil,
	} {
		if got := changes(t, some(), tx); !sameImages(got, want) {
			t.Errorf("Changed(.., %d) = %v, want %v", tx, got, want)
		}
		if got := changes(t, version.Table{}, tx); len(got) > 0 {
			t.Errorf("Changed of none: %v", got)
		}
		if got := changes(t, table(6), tx); len(got) > 0 {
			t.Errorf("Changed of the Base: %v", got)
		}
	}
	for _, tx := range []int{0, 1, 62, 63} {
		got := changes(t, full(), tx)
		for block, image := range got {
			if image.Block != block || !bytes.Equal(image.Data, data(block*64+tx)) {
				t.Errorf("Changed(.., %d): %v at %d", tx, image, block)
			}
		}
		if len(got) != 256 {
			t.Errorf("Changed(.., %d): %d", tx, len(got))
		}
	}
}

// Whichever of three have versions of two blocks, whoever passes to whom, and whoever is freed.
func TestEachSmallPassAndFree(t *testing.T) {
	for have := range 1 << 6 {
		l := table(2)
		for n := range 6 {
			if have>>n&1 == 1 {
				l.L = append(l.L, ver(n/3, n%3, n))
			}
		}
		for tx := -1; tx <= 3; tx++ {
			for parent := -1; parent <= 3; parent++ {
				passes(t, l, tx, parent)
			}
			changes(t, l, tx)
		}
		for ids := range 1 << 3 {
			frees(t, l, slices.DeleteFunc(numbers(0, 3), func(id int) bool { return ids>>id&1 == 0 })...)
		}
	}
}

// All calls, at tables and trees of any kind

func TestEachTableOfTwo(t *testing.T) {
	x := grown(-1, 0, -1)
	one := func(n int) version.Version {
		return version.Version{Block: n%4 - 1, Tx: n/4%3 - 1, Data: text(n, 32-n/12%2)}
	}
	for n := range 4 * 3 * 2 {
		for m := range 4 * 3 * 2 {
			all(t, table(2, one(n), one(m)), x)
		}
	}
}

// strangeTree is one that is not Sane: parents go round, or are no IDs, or stand above; States are none.
func strangeTree() tree.Tree {
	x := grown(1, 0, 1, 3, 77, most, least, -2, 9, -1)
	x.L[2].State, x.L[3].State, x.L[7].State = 4, -1, least
	return x
}

func TestStrangeTables(t *testing.T) {
	for _, l := range strange() {
		if len(l.Base) > 256 {
			for _, parent := range []int{-1, 0, 3, most} {
				passes(t, l, 3, parent)
			}
			changes(t, l, 3)
			frees(t, l, 3)
			continue
		}
		for _, x := range []tree.Tree{{}, family(), strangeTree()} {
			all(t, l, x)
		}
	}
	all(t, strange()[10], row(66))
}

func TestStrangeTrees(t *testing.T) {
	for _, l := range []version.Table{{}, table(1), some()} {
		all(t, l, family())
		all(t, l, strangeTree())
		all(t, l, tree.Tree{})
		all(t, l, grown(0))
		all(t, l, grown(slices.Repeat([]int{0}, 70)...))
	}
}

// script is as many bytes, of any kind, but the same ones each time.
func script(seed uint32, n int) []byte {
	b := make([]byte, n)
	for i := range b {
		seed = seed*1664525 + 1013904223
		b[i] = byte(seed >> 24)
	}
	return b
}

// anyTable is a table of any kind: three bytes a version. Many of them may be.
func anyTable(b []byte) version.Table {
	strange := len(b) > 0 && b[0]%4 == 0
	l := table(6)
	if strange && b[0]%8 == 0 {
		l.Base[b[0]/8%6] = text(1, int(b[0]/32)*6)
	}
	for n := 0; len(b) >= 3; n, b = n+1, b[3:] {
		v := ver(int(b[0]%6), []int{0, 1, 2, 3, 5, 8, 62, 63}[b[1]%8], n)
		if strange && b[2] > 220 {
			v = version.Version{Block: []int{-1, 6, least, most}[b[0]%4], Tx: []int{-1, 64, least, most}[b[1]%4], Data: text(n, int(b[2]-220))}
		}
		l.L = append(l.L, v)
	}
	if !strange {
		l.L = append(make([]version.Version, 0, len(l.L)+4), gathered(nil, spread(l)).L...)
	}
	return l
}

// anyTree is a tree of any kind: two bytes a transaction.
func anyTree(b []byte) tree.Tree {
	var x tree.Tree
	n := len(b) / 2
	for ; len(b) >= 2; b = b[2:] {
		parent := int(b[0])%(n+2) - 1
		if b[0] > 250 {
			parent = []int{-2, 64, least, most, n}[b[0]-251]
		}
		x.L = append(x.L, tree.Tx{Parent: parent, State: max(int(b[1]%6)-1, tree.Live)})
	}
	return x
}

func TestTablesOfAnyKind(t *testing.T) {
	may, versions := 0, 0
	for seed := range uint32(200) {
		l, x := anyTable(script(seed, 3+int(seed%50))), anyTree(script(seed+1000, int(seed%20)))
		all(t, l, x)
		if version.Sane(l) {
			may++
			versions += len(l.L)
		}
	}
	if may < 80 || may > 190 || versions < 300 {
		t.Errorf("%d of 200 may be, with %d versions", may, versions)
	}
}

// Each of these has many versions, or blocks, and is not Sane; the tree is a way, a ring or a row of many.
func TestLargeTables(t *testing.T) {
	const n = 1 << 16
	ring := grown(append(numbers(1, n-1), 0)...)
	trees := []tree.Tree{chain(n), ring, row(n)}
	shared, great := data(1), text(1, 1<<20)
	for _, blocks := range []int{0, 6, 256, n} {
		for _, v := range []func(i int) version.Version{
			func(i int) version.Version { return version.Version{Block: 5, Tx: 5, Data: shared} },
			func(i int) version.Version { return version.Version{Block: 5, Tx: i, Data: shared} },
			func(i int) version.Version { return version.Version{Block: 5, Tx: -i, Data: shared} },
			func(i int) version.Version { return version.Version{Block: i, Tx: 5, Data: shared} },
			func(i int) version.Version { return version.Version{Block: -i, Tx: 5, Data: great} },
			func(i int) version.Version { return version.Version{Block: i * 40503 % n, Tx: 5, Data: great} },
			func(i int) version.Version {
				return version.Version{Block: i * 40503 % n, Tx: i * 60493 % n, Data: nil}
			},
		} {
			l := version.Table{Base: slices.Repeat([][]byte{shared}, blocks)}
			for i := range n {
				l.L = append(l.L, v(i))
			}
			largely(t, l, trees)
		}
	}
	for _, x := range trees {
		for _, tx := range []int{0, 5, 63, 64, n - 1} {
			for block := range 6 {
				reads(t, table(6, ver(0, 0, 1), ver(1, 62, 2), ver(2, 63, 3), ver(3, 5, 4)), x, tx, block)
				writes(t, some(), x, tx, block, data(1))
			}
		}
	}
}

// largely lets each call go over a large table that is not Sane.
func largely(t *testing.T, l version.Table, trees []tree.Tree) {
	t.Helper()
	if version.Sane(l) {
		t.Error("it may be")
	}
	for _, x := range trees {
		if got, e := version.Read(l, x, 5, 5); e != api.ErrArg || got != nil {
			t.Errorf("Read: %v", e)
		}
		if got, e := version.Write(l, x, 5, 5, nil); e != api.ErrArg || !nothing(got) {
			t.Errorf("Write: %v", e)
		}
	}
	version.Pass(l, 5, 6)
	version.Pass(l, 5, -1)
	version.Free(l, numbers(0, len(l.L)))
	version.Changed(l, 5)
}

// P14.5

// piece is a block that somebody wrote; tx is whose it is by now, -1 nobody's.
type piece struct {
	block, tx int
	data      string
}

// world is a tree and a table, and beside them all that was written and that counts, as pieces in the order in which they came to those whose they are: of one block and one transaction the last one counts.
type world struct {
	x      tree.Tree
	t      version.Table
	pieces []piece
}

func born(x tree.Tree, blocks int) world {
	w := world{x, table(blocks), nil}
	for block, b := range w.t.Base {
		w.pieces = append(w.pieces, piece{block, -1, string(b)})
	}
	return w
}

// last is what one wrote last of a block.
func (w world) last(tx, block int) (string, bool) {
	for _, p := range slices.Backward(w.pieces) {
		if p.tx == tx && p.block == block {
			return p.data, true
		}
	}
	return "", false
}

// told is by the pieces what one reads.
func (w world) told(tx, block int) string {
	for _, id := range append(way(w.x, tx), -1) {
		if s, there := w.last(id, block); there {
			return s
		}
	}
	return ""
}

// holds: the table may be, each that is Live reads what the pieces tell, and each has changed, and nobody has, what they tell.
func (w world) holds(t *testing.T) {
	t.Helper()
	if !version.Sane(w.t) || !plainSane(w.t) {
		t.Fatalf("%v may not be", w.t)
	}
	for block, b := range w.t.Base {
		if s, _ := w.last(-1, block); s != string(b) {
			t.Fatalf("the Base of %d is %q, but the pieces tell %q", block, b, s)
		}
	}
	n := 0
	for tx, one := range w.x.L {
		for block := range w.t.Base {
			if one.State != tree.Live {
				continue
			}
			if got, e := version.Read(w.t, w.x, tx, block); e != api.OK || string(got) != w.told(tx, block) {
				t.Fatalf("%d reads %d of %v as %q, %v, want %q", tx, block, w.t, got, e, w.told(tx, block))
			}
		}
		images := version.Changed(w.t, tx)
		n += len(images)
		for _, image := range images {
			if s, there := w.last(tx, image.Block); !there || s != string(image.Data) {
				t.Fatalf("%d changed %v, want %q", tx, image, s)
			}
		}
	}
	mine := map[key]struct{}{}
	for _, p := range w.pieces {
		mine[key{p.block, p.tx}] = struct{}{}
	}
	if n != len(w.t.L) || n != len(mine)-len(w.t.Base) {
		t.Fatalf("%d of %v are changed, want %d", n, w.t, len(mine)-len(w.t.Base))
	}
}

// seen is by those that are Live, and by blocks, what is read.
func (w world) seen() map[key]string {
	m := map[key]string{}
	for tx, one := range w.x.L {
		for block := range w.t.Base {
			if one.State == tree.Live {
				b, _ := version.Read(w.t, w.x, tx, block)
				m[key{block, tx}] = string(b)
			}
		}
	}
	return m
}

// others: those that don't stand in one read what they read before.
func (w world) others(t *testing.T, before map[key]string, of int) {
	t.Helper()
	for k, s := range w.seen() {
		if !slices.Contains(way(w.x, k.tx), of) && s != before[k] {
			t.Fatalf("%d reads %d of %v as %q, and read %q", k.tx, k.block, w.t, s, before[k])
		}
	}
}

// write writes: who wrote it reads it, and those in it that, and what is on the way to it, have not written it; others don't.
func (w world) write(t *testing.T, tx, block int, b []byte) (world, api.Errno) {
	t.Helper()
	l, e := writes(t, w.t, w.x, tx, block, b)
	if e != api.OK {
		return w, e
	}
	before := w.seen()
	w.t, w.pieces = l, append(slices.Clip(w.pieces), piece{block, tx, string(padded(b))})
	w.others(t, before, tx)
	for k, s := range w.seen() {
		on := way(w.x, k.tx)
		at := slices.Index(on, tx)
		if at < 0 || k.block != block {
			continue
		}
		shadowed := slices.ContainsFunc(on[:at], func(id int) bool {
			_, there := w.last(id, block)
			return there
		})
		if want := string(padded(b)); shadowed && s != before[k] || !shadowed && s != want {
			t.Fatalf("%d reads %d of %v as %q behind %q of %d", k.tx, block, w.t, s, want, tx)
		}
	}
	return w, api.OK
}

// pass lets a parent have what one wrote, behind all of its own, or none.
func (w world) pass(t *testing.T, tx, parent int) world {
	t.Helper()
	w.t = passes(t, w.t, tx, parent)
	var rest, own []piece
	for _, p := range w.pieces {
		if p.tx == tx {
			own = append(own, piece{p.block, max(parent, -1), p.data})
		} else {
			rest = append(rest, p)
		}
	}
	w.pieces = append(rest, own...)
	return w
}

func (w world) free(t *testing.T, l ...int) world {
	t.Helper()
	w.t = frees(t, w.t, l...)
	w.pieces = slices.DeleteFunc(slices.Clone(w.pieces), func(p piece) bool { return p.tx >= 0 && slices.Contains(l, p.tx) })
	return w
}

// commit lets one be done, and its parent have what it wrote. Those that don't stand in its parent read what they read before; if it is a top one, all may read it.
func (w world) commit(t *testing.T, id int) (world, api.Errno) {
	t.Helper()
	x, e := tree.Commit(w.x, id)
	if e != api.OK {
		return w, e
	}
	w.x = x
	before, parent := w.seen(), x.L[id].Parent
	w = w.pass(t, id, parent)
	if parent >= 0 {
		w.others(t, before, parent)
	}
	return w, api.OK
}

// abort undoes one, and all in it, and frees what they wrote: others read what they read before.
func (w world) abort(t *testing.T, id int) (world, api.Errno) {
	t.Helper()
	x, gone, e := tree.Abort(w.x, id)
	if e != api.OK {
		return w, e
	}
	w.x = x
	before := w.seen()
	w = w.free(t, gone...)
	w.others(t, before, id)
	return w, api.OK
}

// finish lets all that are Live end in each way that there is, those in others first: there are no versions then.
func (w world) finish(t *testing.T) int {
	t.Helper()
	w.holds(t)
	for id, x := range slices.Backward(w.x.L) {
		if x.State != tree.Live {
			continue
		}
		done, e := w.commit(t, id)
		undone, f := w.abort(t, id)
		if e != api.OK || f != api.OK {
			t.Fatalf("%d of %v: %v, %v", id, w.x, e, f)
		}
		return done.finish(t) + undone.finish(t)
	}
	if len(w.t.L) > 0 {
		t.Fatalf("behind all there is %v", w.t)
	}
	return 1
}

// rows goes over all rows of so many steps that have no error, each of which writes other data, and tells how many there are.
func (w world) rows(t *testing.T, steps int) int {
	t.Helper()
	w.holds(t)
	if steps == 0 {
		return w.finish(t)
	}
	n := 0
	further := func(next world, e api.Errno) {
		if e == api.OK {
			n += next.rows(t, steps-1)
		}
	}
	for id := range w.x.L {
		for block := range w.t.Base {
			further(w.write(t, id, block, text(steps*10+id, steps*8)))
		}
		further(w.commit(t, id))
		further(w.abort(t, id))
	}
	return n
}

func TestEachRowOfSteps(t *testing.T) {
	for _, c := range []struct {
		parents       []int
		blocks, steps int
	}{
		{[]int{-1, 0, -1}, 1, 4}, {[]int{-1, 0, 1}, 1, 4}, {[]int{-1, 0, 0}, 1, 4},
		{[]int{-1, 0, 1, 0}, 2, 2}, {[]int{-1, 0, -1, 2}, 2, 2},
	} {
		if n := born(grown(c.parents...), c.blocks).rows(t, c.steps); n < 1000 {
			t.Errorf("%v: only %d ends", c.parents, n)
		}
	}
}

// pick is one of a tree, most often one of the last ones, or what is none.
func pick(x tree.Tree, b byte) int {
	n := len(x.L)
	switch {
	case b < 4 || n == 0:
		return []int{-1, n, 64, least}[b%4]
	case b < 128:
		return n - 1 - int(b)%min(n, 10)
	}
	return int(b) % n
}

// steps goes over a row of steps, of which some have an error, and tells how many went on, and how many versions there were at most. With free passes, anybody's versions are passed to anybody, and freed, at any time.
func steps(t *testing.T, script []byte, freely bool) (int, int) {
	t.Helper()
	done, greatest := 0, 0
	w := born(tree.Tree{}, 4)
	for ; len(script) > 3; script = script[4:] {
		id, e := pick(w.x, script[1]), api.OK
		switch script[0] % 16 {
		case 0, 1, 2, 3:
			parent := id
			if script[2]%4 == 0 {
				parent = -1
			}
			x, _, begun := tree.Begin(w.x, parent)
			if e = begun; e == api.OK {
				w.x = x
			} else if e == api.ErrLimit && len(w.x.L) == api.MaxTx {
				w = w.free(t, numbers(0, 64)...)
				w.x = tree.Tree{}
			}
		case 4, 5:
			w, e = w.commit(t, id)
		case 6:
			if script[2]%3 == 0 {
				w, e = w.abort(t, id)
			}
		case 7:
			if freely && len(w.x.L) > 0 {
				w = w.pass(t, int(script[2])%len(w.x.L), int(script[3])%(len(w.x.L)+1)-1)
			}
		case 8:
			if freely && script[3]%4 == 0 {
				w = w.free(t, int(script[2]%64), int(script[1]))
			}
		default:
			w, e = w.write(t, id, int(script[2]%5), text(int(script[3]), int(script[3]%35)))
		}
		w.holds(t)
		if e == api.OK {
			done++
		}
		greatest = max(greatest, len(w.t.L))
	}
	return done, greatest
}

func TestStepsOfAnyKind(t *testing.T) {
	for _, freely := range []bool{false, true} {
		done, greatest := 0, 0
		for seed := range uint32(12) {
			n, versions := steps(t, script(seed, 1600), freely)
			done, greatest = done+n, max(greatest, versions)
		}
		if done < 2000 || greatest < 20 {
			t.Errorf("only %d, and %d versions", done, greatest)
		}
	}
}

// A long life of some blocks: kids write what their parents write, and are done or undone.
func TestALongRow(t *testing.T) {
	w := born(tree.Tree{}, 3)
	want := data(2001)
	for round := range 8 {
		begin := func(parent int) int {
			x, id, e := tree.Begin(w.x, parent)
			if e != api.OK {
				t.Fatal(e)
			}
			w.x = x
			return id
		}
		step := func(next world, e api.Errno) {
			t.Helper()
			if e != api.OK {
				t.Fatal(e)
			}
			w = next
			w.holds(t)
		}
		top, other := begin(-1), begin(-1)
		read(t, w.t, w.x, top, 1, want)
		mine := data(round*100 + 1)
		step(w.write(t, top, 1, mine))
		for n := range 4 {
			kid := begin(top)
			read(t, w.t, w.x, kid, 1, mine)
			step(w.write(t, kid, 1, data(round*100+10+n)))
			read(t, w.t, w.x, kid, 1, data(round*100+10+n))
			read(t, w.t, w.x, top, 1, mine)
			read(t, w.t, w.x, other, 1, want)
			if n%2 == 0 {
				step(w.commit(t, kid))
				mine = data(round*100 + 10 + n)
			} else {
				step(w.abort(t, kid))
			}
			read(t, w.t, w.x, top, 1, mine)
			read(t, w.t, w.x, other, 1, want)
		}
		if round%2 == 0 {
			step(w.commit(t, top))
			want = mine
		} else {
			step(w.abort(t, top))
		}
		read(t, w.t, w.x, other, 1, want)
		step(w.commit(t, other))
		if len(w.t.L) > 0 || !bytes.Equal(w.t.Base[1], want) || !bytes.Equal(w.t.Base[0], data(2000)) || !bytes.Equal(w.t.Base[2], data(2002)) {
			t.Fatalf("behind round %d there is %v, want %v", round, w.t, want)
		}
	}
}

// What is handed in, answered and kept

func TestWriteTwiceToOneTable(t *testing.T) {
	l, x := some(), family() // with room behind
	first, _ := version.Write(l, x, 6, 5, data(10))
	second, _ := version.Write(l, x, 8, 5, data(11))
	third, _ := version.Write(l, x, 0, 0, data(12))
	if !sameVersion(first.L[8], ver(5, 6, 10)) || !sameVersion(second.L[8], ver(5, 8, 11)) || !sameVersion(third.L[0], ver(0, 0, 12)) {
		t.Errorf("%v, %v, %v", first, second, third)
	}
	if behind := whole(l.L)[len(l.L)]; behind.Data != nil || !same(l, some()) {
		t.Errorf("%v, and behind the list %v", l, behind)
	}
	fourth, _ := version.Write(first, x, 7, 5, data(13))
	fifth, _ := version.Write(first, x, 8, 5, data(14))
	if !sameVersion(fourth.L[9], ver(5, 7, 13)) || !sameVersion(fifth.L[9], ver(5, 8, 14)) {
		t.Errorf("%v, %v", fourth, fifth)
	}
}

func TestWhatIsWrittenToTheDataLater(t *testing.T) {
	x := family()
	for n := range 33 {
		b := text(7, n)
		want := padded(b)
		l, e := version.Write(some(), x, 6, 5, b)
		again, f := version.Write(l, x, 6, 5, b)
		kid, g := version.Write(l, x, 7, 5, b)
		spoil(b)
		if e != api.OK || f != api.OK || g != api.OK {
			t.Fatal(e, f, g)
		}
		for _, l := range []version.Table{l, again, kid, version.Pass(kid, 7, 6), version.Pass(kid, 6, -1)} {
			read(t, l, x, 6, 5, want)
		}
		read(t, kid, x, 7, 5, want)
	}
}

// lists are all lists of bytes of a table.
func lists(t version.Table) [][]byte {
	all := slices.Clone(t.Base)
	for _, v := range t.L {
		all = append(all, v.Data)
	}
	return all
}

// No two lists of bytes of an answer share any, even where those of what was handed in do.
func TestNoTwoListsShareAny(t *testing.T) {
	one := data(1)
	l := version.Table{Base: [][]byte{one, one, one}, L: []version.Version{{0, 1, one}, {1, 1, one}, {1, 2, one}, {2, 2, one}}}
	sane(t, l, true)
	written, _ := version.Write(l, family(), 2, 0, one)
	for k, got := range []version.Table{written, version.Pass(l, 1, 2), version.Pass(l, 1, -1), version.Pass(l, 2, 2), version.Free(l, []int{2}), version.Free(l, nil)} {
		for i, b := range lists(got) {
			spoil(b)
			for j, other := range lists(got) {
				if i != j && !bytes.Equal(other, data(1)) {
					t.Errorf("answer %d: list %d shares with %d", k, i, j)
				}
			}
			spoil(b)
		}
	}
	images := version.Changed(l, 1)
	spoil(images[0].Data)
	if !bytes.Equal(images[1].Data, data(1)) || !bytes.Equal(one, data(1)) {
		t.Error("the images share some")
	}
}

func TestNothingIsKept(t *testing.T) {
	l, x := some(), family()
	first, _ := version.Write(l, x, 6, 1, data(3))
	answers := []version.Table{first, version.Pass(l, 1, 0), version.Pass(l, 1, -1), version.Free(l, []int{1})}
	image, b := version.Changed(l, 6)[0], data(0)
	b, _ = version.Read(l, x, 6, 0)
	var want []version.Table
	for _, got := range answers {
		want = append(want, cloned(got))
	}
	scribble(l)
	x.L[6].State, x.L[1].Parent = tree.Undone, 6
	for i, got := range answers {
		if !same(got, want[i]) {
			t.Errorf("%d: %v, want %v", i, got, want[i])
		}
	}
	if image.Block != 0 || !bytes.Equal(image.Data, data(3)) || !bytes.Equal(b, data(3)) {
		t.Errorf("%v, %v", image, b)
	}
	for range 3 {
		all(t, some(), family())
		all(t, l, x)
	}
}

// The example: what a kid writes its parent reads behind Pass alone.
func TestTheExample(t *testing.T) {
	x := grown(-1, 0, -1)
	l := written(t, table(1), x, 1, 0, data(1), ver(0, 1, 1))
	read(t, l, x, 1, 0, data(1))
	read(t, l, x, 0, 0, data(2000))
	read(t, l, x, 2, 0, data(2000))
	l = passed(t, l, 1, 0, ver(0, 0, 1))
	read(t, l, x, 1, 0, data(1))
	read(t, l, x, 0, 0, data(1))
	read(t, l, x, 2, 0, data(2000))
	fixed(t, l, 0, map[int]int{0: 1})
	read(t, version.Pass(l, 0, -1), x, 2, 0, data(1))
	read(t, version.Free(l, []int{0}), x, 0, 0, data(2000))
	if n := born(x, 1).finish(t); n != 8 {
		t.Errorf("%d ends", n)
	}
}

func ExampleRead() {
	x, top, _ := tree.Begin(tree.Tree{}, -1)
	x, kid, _ := tree.Begin(x, top)
	t := version.Table{Base: [][]byte{make([]byte, api.Block)}}
	t, _ = version.Write(t, x, kid, 0, []byte("heron"))
	before, _ := version.Read(t, x, top, 0)
	x, _ = tree.Commit(x, kid)
	t = version.Pass(t, kid, top)
	behind, _ := version.Read(t, x, top, 0)
	fmt.Println(before[0], string(behind[:5]))
	// Output: 0 heron
}

// P1

func FuzzTable(f *testing.F) {
	f.Add([]byte{}, []byte{})
	for seed := range uint32(20) {
		f.Add(script(seed, int(seed*3)), script(seed+100, int(seed)))
	}
	f.Fuzz(func(t *testing.T, b, c []byte) {
		all(t, anyTable(b[:min(len(b), 60)]), anyTree(c[:min(len(c), 30)]))
	})
}

func FuzzNumbers(f *testing.F) {
	f.Add(0, 1, 2, 0, []byte("heron"), []byte{}, 3)
	f.Add(1, 63, 0, 1, data(1), data(2), -1)
	f.Add(most, least, least, most, []byte{}, data(3), most)
	f.Add(-1, 64, 64, -1, text(1, 33), text(2, 31), least)
	f.Fuzz(func(t *testing.T, block, tx, asker, asked int, b, was []byte, parent int) {
		x := family()
		v := version.Version{Block: block, Tx: tx, Data: was}
		low := version.Version{Block: block & 1, Tx: tx & 7, Data: data(1)}
		for _, l := range []version.Table{table(2, v), table(2, low), table(2, low, ver(1, 8, 2)), table(2, v, low), {Base: [][]byte{was, b}}, table(2)} {
			sane(t, l, plainSane(l))
			for _, id := range []int{asker, asker & 7, tx} {
				for _, at := range []int{asked, asked & 1, block} {
					reads(t, l, x, id, at)
					writes(t, l, x, id, at, b)
				}
				passes(t, l, id, parent)
				passes(t, l, id, parent&63)
				frees(t, l, id, parent)
				changes(t, l, id)
			}
		}
	})
}

func FuzzSteps(f *testing.F) {
	for seed := range uint32(20) {
		f.Add(script(seed+1000, 300), seed%2 == 0)
	}
	f.Fuzz(func(t *testing.T, b []byte, freely bool) { steps(t, b[:min(len(b), 1500)], freely) })
}
