package tree_test

import (
	"fmt"
	"math"
	"slices"
	"testing"

	"heronry/api"
	"heronry/tree"
)

const (
	least = math.MinInt
	most  = math.MaxInt
)

var states = []int{tree.Live, tree.Done, tree.Undone}

// tx is a transaction's Parent and State.
type tx struct{ parent, state int }

// grown is a tree of some transactions, whose times may be: they began one behind the other, and ended the other way round, so that kids ended ahead of their parents.
func grown(l ...tx) tree.Tree {
	t := tree.Tree{Clock: 2 * len(l)}
	for id, x := range l {
		ended := 0
		if x.state != tree.Live {
			ended = 2*len(l) - id
		}
		t.L = append(t.L, tree.Tx{Parent: x.parent, State: x.state, Began: id + 1, Ended: ended})
	}
	return t
}

// some is a tree that may be, with each State in each one that it may be in.
func some() tree.Tree {
	return grown(
		tx{-1, tree.Done},   // 0
		tx{0, tree.Done},    // 1
		tx{0, tree.Undone},  // 2
		tx{-1, tree.Live},   // 3
		tx{3, tree.Live},    // 4
		tx{3, tree.Done},    // 5
		tx{5, tree.Done},    // 6
		tx{5, tree.Undone},  // 7
		tx{-1, tree.Undone}, // 8
		tx{8, tree.Undone},  // 9
		tx{4, tree.Undone},  // 10
		tx{4, tree.Live},    // 11
	)
}

// chain is as many, each in the one before.
func chain(n, state int) tree.Tree {
	var l []tx
	for id := range n {
		l = append(l, tx{id - 1, state})
	}
	return grown(l...)
}

// row is as many top ones.
func row(n, state int) tree.Tree {
	return grown(slices.Repeat([]tx{{-1, state}}, n)...)
}

// copied is a tree in memory of its own.
func copied(t tree.Tree) tree.Tree {
	return tree.Tree{L: slices.Clone(t.L), Clock: t.Clock}
}

// with is a tree one of whose transactions is another one.
func with(t tree.Tree, id int, change func(*tree.Tx)) tree.Tree {
	t = copied(t)
	change(&t.L[id])
	return t
}

func same(a, b tree.Tree) bool {
	return a.Clock == b.Clock && slices.Equal(a.L, b.L)
}

// noIDs are ints that are no ID of a tree of n.
func noIDs(n int) []int {
	return []int{-1, -2, -3, -64, n, n + 1, n + 64, least, least + 1, most, most - 1, -1 << 32, 1 << 32, 1<<63 - 64}
}

// stands tells of each ID in which ones it stands: in itself, and in all that its parent stands in.
func stands(t tree.Tree) [][]bool {
	in := make([][]bool, len(t.L))
	for id := range in {
		in[id] = make([]bool, len(t.L))
		in[id][id] = true
	}
	for changed := true; changed; {
		changed = false
		for id, x := range t.L {
			if x.Parent < 0 || x.Parent >= len(t.L) {
				continue
			}
			for of, yes := range in[x.Parent] {
				if yes && !in[id][of] {
					in[id][of], changed = true, true
				}
			}
		}
	}
	return in
}

// around is what one stands in, rising: none for what is no ID.
func around(t tree.Tree, in [][]bool, id int) []int {
	var l []int
	for of := range t.L {
		if id >= 0 && id < len(t.L) && in[id][of] {
			l = append(l, of)
		}
	}
	return l
}

func plainTop(t tree.Tree, in [][]bool, id int) int {
	for _, of := range around(t, in, id) {
		if t.L[of].Parent == -1 {
			return of
		}
	}
	return -1
}

// count tells how many that one stands in are of a State.
func count(t tree.Tree, in [][]bool, id, state int) int {
	n := 0
	for _, of := range around(t, in, id) {
		if t.L[of].State == state {
			n++
		}
	}
	return n
}

func plainLost(t tree.Tree, in [][]bool, id int) bool {
	return len(around(t, in, id)) == 0 || count(t, in, id, tree.Undone) > 0
}

func plainFixed(t tree.Tree, in [][]bool, id int) bool {
	deep := len(around(t, in, id))
	return deep > 0 && count(t, in, id, tree.Done) == deep
}

// plainSane goes over all that P9.1 names, one by one, and pair by pair.
func plainSane(t tree.Tree) bool {
	in := stands(t)
	for id, x := range t.L {
		switch {
		case x.Parent < -1, x.Parent >= id, !slices.Contains(states, x.State):
			return false
		case x.Began <= 0, x.Began > t.Clock, id > 0 && x.Began <= t.L[id-1].Began:
			return false
		case (x.Ended == 0) != (x.State == tree.Live), x.Ended != 0 && (x.Ended <= x.Began || x.Ended > t.Clock):
			return false
		case len(around(t, in, id)) > 8:
			return false
		}
	}
	for a, x := range t.L {
		for b, y := range t.L {
			ended := a != b && x.State != tree.Live && y.State != tree.Live && x.Ended == y.Ended
			switch {
			case in[b][a] && x.State != tree.Live && y.State == tree.Live:
				return false
			case in[b][a] && x.State == tree.Undone && y.State == tree.Done:
				return false
			case ended && (x.State == tree.Done || y.State == tree.Done):
				return false
			}
		}
	}
	return t.Clock >= 0 && len(t.L) <= 64
}

// path is the way down to one from its top one: when each ended, and its ID.
func path(t tree.Tree, id int) [][2]int {
	var l [][2]int
	for ; id != -1; id = t.L[id].Parent {
		l = append(l, [2]int{t.L[id].Ended, id})
	}
	slices.Reverse(l)
	return l
}

// plainOrder puts those that are fixed, and have a top one, in the order of their ways.
func plainOrder(t tree.Tree) []int {
	in := stands(t)
	var l []int
	for id := range t.L {
		if plainFixed(t, in, id) && plainTop(t, in, id) != -1 {
			l = append(l, id)
		}
	}
	slices.SortFunc(l, func(a, b int) int {
		return slices.CompareFunc(path(t, a), path(t, b), func(x, y [2]int) int { return slices.Compare(x[:], y[:]) })
	})
	return l
}

func plainBegin(t tree.Tree, parent int) (tree.Tree, int, api.Errno) {
	deep := 0
	if parent != -1 {
		if parent < 0 || parent >= len(t.L) {
			return tree.Tree{}, 0, api.ErrName
		}
		if t.L[parent].State != tree.Live {
			return tree.Tree{}, 0, api.ErrState
		}
		deep = len(around(t, stands(t), parent))
	}
	if len(t.L)+1 > 64 || deep+1 > 8 {
		return tree.Tree{}, 0, api.ErrLimit
	}
	t = copied(t)
	t.Clock++
	t.L = append(t.L, tree.Tx{Parent: parent, State: tree.Live, Began: t.Clock})
	return t, len(t.L) - 1, api.OK
}

func plainCommit(t tree.Tree, id int) (tree.Tree, api.Errno) {
	if id < 0 || id >= len(t.L) {
		return tree.Tree{}, api.ErrName
	}
	if t.L[id].State != tree.Live {
		return tree.Tree{}, api.ErrState
	}
	in := stands(t)
	for other, x := range t.L {
		if other != id && in[other][id] && x.State == tree.Live {
			return tree.Tree{}, api.ErrState
		}
	}
	t = copied(t)
	t.Clock++
	t.L[id].State, t.L[id].Ended = tree.Done, t.Clock
	return t, api.OK
}

func plainAbort(t tree.Tree, id int) (tree.Tree, []int, api.Errno) {
	if id < 0 || id >= len(t.L) {
		return tree.Tree{}, nil, api.ErrName
	}
	if t.L[id].State != tree.Live {
		return tree.Tree{}, nil, api.ErrState
	}
	in := stands(t)
	t = copied(t)
	t.Clock++
	var l []int
	for other := range t.L {
		if x := &t.L[other]; in[other][id] && x.State != tree.Undone {
			x.State, x.Ended = tree.Undone, t.Clock
			l = append(l, other)
		}
	}
	return t, l, api.OK
}

// begins lets Begin be held against the plain one; what was handed in stays.
func begins(t *testing.T, x tree.Tree, parent int) (tree.Tree, int, api.Errno) {
	t.Helper()
	was := copied(x)
	got, id, e := tree.Begin(x, parent)
	if want, wantID, wantErr := plainBegin(was, parent); !same(got, want) || id != wantID || e != wantErr {
		t.Fatalf("Begin(%v, %d) = %v, %d, %v, want %v, %d, %v", was, parent, got, id, e, want, wantID, wantErr)
	}
	if !same(x, was) {
		t.Fatalf("Begin(%v, %d) left %v behind", was, parent, x)
	}
	return got, id, e
}

func commits(t *testing.T, x tree.Tree, id int) (tree.Tree, api.Errno) {
	t.Helper()
	was := copied(x)
	got, e := tree.Commit(x, id)
	if want, wantErr := plainCommit(was, id); !same(got, want) || e != wantErr {
		t.Fatalf("Commit(%v, %d) = %v, %v, want %v, %v", was, id, got, e, want, wantErr)
	}
	if !same(x, was) {
		t.Fatalf("Commit(%v, %d) left %v behind", was, id, x)
	}
	return got, e
}

func aborts(t *testing.T, x tree.Tree, id int) (tree.Tree, []int, api.Errno) {
	t.Helper()
	was := copied(x)
	got, ids, e := tree.Abort(x, id)
	if want, wantIDs, wantErr := plainAbort(was, id); !same(got, want) || !slices.Equal(ids, wantIDs) || e != wantErr {
		t.Fatalf("Abort(%v, %d) = %v, %v, %v, want %v, %v, %v", was, id, got, ids, e, want, wantIDs, wantErr)
	}
	if !same(x, was) {
		t.Fatalf("Abort(%v, %d) left %v behind", was, id, x)
	}
	return got, ids, e
}

// asked lets all that is asked of a tree be held against the plain answers, for all IDs and for what is none.
func asked(t *testing.T, x tree.Tree) {
	t.Helper()
	was, in := copied(x), stands(x)
	all := noIDs(len(x.L))
	for id := range x.L {
		all = append(all, id)
	}
	for _, id := range all {
		up := around(x, in, id)
		for _, of := range all {
			if got, want := tree.Within(x, id, of), slices.Contains(up, of); got != want {
				t.Fatalf("Within(%v, %d, %d) = %v, want %v", x, id, of, got, want)
			}
		}
		if got, want := tree.Top(x, id), plainTop(x, in, id); got != want {
			t.Fatalf("Top(%v, %d) = %d, want %d", x, id, got, want)
		}
		if got, want := tree.Deep(x, id), len(up); got != want {
			t.Fatalf("Deep(%v, %d) = %d, want %d", x, id, got, want)
		}
		if got, want := tree.Lost(x, id), plainLost(x, in, id); got != want {
			t.Fatalf("Lost(%v, %d) = %v, want %v", x, id, got, want)
		}
		if got, want := tree.Fixed(x, id), plainFixed(x, in, id); got != want {
			t.Fatalf("Fixed(%v, %d) = %v, want %v", x, id, got, want)
		}
	}
	if got, want := tree.Sane(x), plainSane(x); got != want {
		t.Fatalf("Sane(%v) = %v, want %v", x, got, want)
	}
	if got, want := tree.Order(x), plainOrder(x); !slices.Equal(got, want) {
		t.Fatalf("Order(%v) = %v, want %v", x, got, want)
	}
	if !same(x, was) {
		t.Fatalf("what was asked of %v left %v behind", was, x)
	}
}

// all lets each call be held against the plain one, at each ID and at what is none.
func all(t *testing.T, x tree.Tree) {
	t.Helper()
	asked(t, x)
	for id := -2; id <= len(x.L)+1; id++ {
		begins(t, x, id)
		commits(t, x, id)
		aborts(t, x, id)
	}
}

// P9.1

// sane holds Sane against what is known, and the plain one too.
func sane(t *testing.T, x tree.Tree, want bool) {
	t.Helper()
	if got := tree.Sane(x); got != want {
		t.Errorf("Sane(%v) = %v, want %v", x, got, want)
	}
	if got := plainSane(x); got != want {
		t.Errorf("the plain Sane(%v) = %v, want %v", x, got, want)
	}
}

func TestSaneOfNone(t *testing.T) {
	sane(t, tree.Tree{}, true)
	sane(t, tree.Tree{L: []tree.Tx{}}, true)
}

func TestSaneOfEachClock(t *testing.T) {
	for _, clock := range []int{0, 1, 2, most - 1, most} {
		sane(t, tree.Tree{Clock: clock}, true)
	}
	for _, clock := range []int{-1, -2, least, least + 1} {
		sane(t, tree.Tree{Clock: clock}, false)
	}
	one := row(1, tree.Live)
	for clock, want := range map[int]bool{least: false, -1: false, 0: false, 1: true, 2: true, most: true} {
		one.Clock = clock
		sane(t, one, want)
	}
}

func TestSaneOfSome(t *testing.T) {
	sane(t, some(), true)
	for _, state := range states {
		sane(t, row(1, state), true)
		sane(t, row(5, state), true)
		sane(t, chain(5, state), true)
	}
}

func TestSaneOfEachParent(t *testing.T) {
	for _, state := range states {
		x := row(5, state)
		for id := range x.L {
			parents := append([]int{-1, id - 1, id, id + 1}, noIDs(5)...)
			for other := range x.L {
				parents = append(parents, other)
			}
			for _, parent := range parents {
				sane(t, with(x, id, func(tx *tree.Tx) { tx.Parent = parent }), parent == -1 || parent >= 0 && parent < id)
			}
		}
	}
}

func TestSaneOfEachState(t *testing.T) {
	live, ended := row(3, tree.Live), row(3, tree.Done)
	for id := range 3 {
		for _, state := range []int{0, 1, 2, 3, 4, -1, -2, least, most, 1 << 32, 1<<32 + 1} {
			change := func(tx *tree.Tx) { tx.State = state }
			sane(t, with(live, id, change), state == 1)
			sane(t, with(ended, id, change), state == 2 || state == 3)
		}
	}
}

func TestSaneOfEachBegan(t *testing.T) {
	x := row(1, tree.Live)
	x.Clock = 5
	for began, want := range map[int]bool{least: false, -1: false, 0: false, 1: true, 4: true, 5: true, 6: false, most: false} {
		sane(t, with(x, 0, func(tx *tree.Tx) { tx.Began = began }), want)
	}
	x = row(3, tree.Live)
	x.Clock = 7
	for id, began := range []int{2, 4, 6} {
		x.L[id].Began = began
	}
	for id, wants := range []map[int]bool{
		{0: false, 1: true, 2: true, 3: true, 4: false, 5: false, 7: false, 8: false},
		{0: false, 1: false, 2: false, 3: true, 5: true, 6: false, 7: false, 8: false},
		{0: false, 3: false, 4: false, 5: true, 7: true, 8: false, most: false, least: false},
	} {
		for began, want := range wants {
			sane(t, with(x, id, func(tx *tree.Tx) { tx.Began = began }), want)
		}
	}
}

func TestSaneOfBeganBeforeNoMatterTheParent(t *testing.T) {
	x := grown(tx{-1, tree.Live}, tx{-1, tree.Live}, tx{0, tree.Live})
	x.L[2].Began = x.L[1].Began
	sane(t, x, false)
	x.L[2].Began = x.L[1].Began - 1
	sane(t, x, false)
}

func TestSaneOfEachEnded(t *testing.T) {
	for _, state := range states {
		x := tree.Tree{L: []tree.Tx{{Parent: -1, State: state, Began: 3}}, Clock: 6}
		for ended, want := range map[int]bool{least: false, -3: false, -1: false, 1: false, 2: false, 3: false, 4: true, 5: true, 6: true, 7: false, most: false} {
			sane(t, with(x, 0, func(tx *tree.Tx) { tx.Ended = ended }), want && state != tree.Live)
		}
		sane(t, x, state == tree.Live)
	}
}

func TestSaneOfWhatEndedAsOneBegan(t *testing.T) {
	x := row(2, tree.Done)
	x.L[0].Ended = x.L[1].Began
	sane(t, x, true)
}

func TestSaneOfMany(t *testing.T) {
	for _, state := range states {
		sane(t, row(63, state), true)
		sane(t, row(64, state), true)
		sane(t, row(65, state), false)
		sane(t, row(1000, state), false)
	}
}

func TestSaneOfDeepOnes(t *testing.T) {
	for _, state := range states {
		sane(t, chain(7, state), true)
		sane(t, chain(8, state), true)
		sane(t, chain(9, state), false)
		sane(t, chain(64, state), false)
	}
	deep := []tx{{-1, tree.Live}}
	for id := range 7 {
		deep = append(deep, tx{-1, tree.Done}, tx{2 * id, tree.Live})
	}
	sane(t, grown(deep...), true)
	sane(t, grown(append(deep, tx{13, tree.Done})...), true)
	sane(t, grown(append(deep, tx{14, tree.Live})...), false)
}

// mayBeIn tells for each State which ones may be in it.
var mayBeIn = map[int][]int{
	tree.Live:   {tree.Live, tree.Done, tree.Undone},
	tree.Done:   {tree.Done, tree.Undone},
	tree.Undone: {tree.Undone},
}

func TestSaneOfEachStateInEachOne(t *testing.T) {
	for _, outer := range states {
		for _, inner := range states {
			may := slices.Contains(mayBeIn[outer], inner)
			sane(t, grown(tx{-1, outer}, tx{0, inner}), may)
			sane(t, grown(tx{-1, outer}, tx{-1, inner}), true)
			sane(t, grown(tx{-1, tree.Live}, tx{0, outer}, tx{1, inner}), may)
			sane(t, grown(tx{-1, tree.Live}, tx{0, outer}, tx{0, inner}), true)
			sane(t, grown(tx{-1, outer}, tx{-1, tree.Live}, tx{0, inner}), may)
		}
	}
}

func TestSaneOfEachStateFurtherDown(t *testing.T) {
	for _, outer := range states {
		for _, between := range states {
			for _, inner := range states {
				may := slices.Contains(mayBeIn[outer], between) && slices.Contains(mayBeIn[outer], inner) && slices.Contains(mayBeIn[between], inner)
				sane(t, grown(tx{-1, outer}, tx{0, between}, tx{1, inner}), may)
				sane(t, grown(tx{-1, outer}, tx{0, between}, tx{1, between}, tx{2, inner}), may)
				sane(t, grown(tx{-1, outer}, tx{0, outer}, tx{1, between}, tx{2, inner}, tx{3, inner}), may)
			}
		}
	}
}

func TestSaneOfTwoOfOneEnded(t *testing.T) {
	for _, first := range states {
		for _, second := range states {
			ended := func(tx *tree.Tx) {
				if tx.State != tree.Live {
					tx.Ended = 6
				}
			}
			want := first == tree.Live || second == tree.Live || first == tree.Undone && second == tree.Undone
			for _, x := range []tree.Tree{
				grown(tx{-1, first}, tx{-1, second}),
				grown(tx{-1, first}, tx{-1, tree.Live}, tx{-1, second}),
				grown(tx{-1, first}, tx{-1, tree.Done}, tx{-1, second}),
				grown(tx{-1, tree.Live}, tx{0, first}, tx{0, second}),
			} {
				x.Clock = 7
				sane(t, with(with(x, 0, ended), len(x.L)-1, ended), want || x.L[0].State == tree.Live)
			}
		}
	}
	x := grown(tx{-1, tree.Live}, tx{0, tree.Done}, tx{1, tree.Done})
	x.L[1].Ended = x.L[2].Ended
	sane(t, x, false)
	x = grown(tx{-1, tree.Live}, tx{0, tree.Done}, tx{1, tree.Undone})
	x.L[1].Ended = x.L[2].Ended
	sane(t, x, false)
	x = grown(tx{-1, tree.Live}, tx{0, tree.Undone}, tx{1, tree.Undone}, tx{2, tree.Undone})
	x.L[1].Ended, x.L[2].Ended = x.L[3].Ended, x.L[3].Ended
	sane(t, x, true)
}

func TestSaneOfADoneOneAmongManyOfOneEnded(t *testing.T) {
	x := row(4, tree.Undone)
	for id := range x.L {
		x.L[id].Ended = x.Clock
	}
	sane(t, x, true)
	for id := range x.L {
		sane(t, with(x, id, func(tx *tree.Tx) { tx.State = tree.Done }), false)
	}
}

// P9.2

func TestBeginOfATopOne(t *testing.T) {
	x, id, e := begins(t, tree.Tree{}, -1)
	if want := (tree.Tree{L: []tree.Tx{{-1, tree.Live, 1, 0}}, Clock: 1}); !same(x, want) || id != 0 || e != api.OK {
		t.Fatalf("%v, %d, %v, want %v", x, id, e, want)
	}
	x.Clock = 40
	x, id, e = begins(t, x, -1)
	if want := (tree.Tree{L: []tree.Tx{{-1, tree.Live, 1, 0}, {-1, tree.Live, 41, 0}}, Clock: 41}); !same(x, want) || id != 1 || e != api.OK {
		t.Fatalf("%v, %d, %v, want %v", x, id, e, want)
	}
	x, id, e = begins(t, x, 0)
	if want := (tree.Tree{L: []tree.Tx{{-1, tree.Live, 1, 0}, {-1, tree.Live, 41, 0}, {0, tree.Live, 42, 0}}, Clock: 42}); !same(x, want) || id != 2 || e != api.OK {
		t.Fatalf("%v, %d, %v, want %v", x, id, e, want)
	}
}

// beginRefused lets a Begin have an error, and nothing else.
func beginRefused(t *testing.T, x tree.Tree, parent int, want api.Errno) {
	t.Helper()
	if got, id, e := begins(t, x, parent); e != want || id != 0 || got.L != nil || got.Clock != 0 {
		t.Errorf("Begin(%v, %d) = %v, %d, %v, want %v", x, parent, got, id, e, want)
	}
}

// begun lets a Begin have none.
func begun(t *testing.T, x tree.Tree, parent int) tree.Tree {
	t.Helper()
	got, id, e := begins(t, x, parent)
	if e != api.OK || id != len(x.L) || got.Clock != x.Clock+1 || len(got.L) != id+1 || got.L[id] != (tree.Tx{parent, tree.Live, got.Clock, 0}) || !slices.Equal(got.L[:id], x.L) {
		t.Fatalf("Begin(%v, %d) = %v, %d, %v", x, parent, got, id, e)
	}
	return got
}

func TestBeginInWhatIsNoID(t *testing.T) {
	for _, x := range []tree.Tree{{}, row(1, tree.Live), some(), row(64, tree.Live)} {
		for _, parent := range noIDs(len(x.L)) {
			if parent != -1 {
				beginRefused(t, x, parent, api.ErrName)
			}
		}
	}
}

func TestBeginInOneOfEachState(t *testing.T) {
	for _, state := range []int{0, tree.Done, tree.Undone, 4, -1, least, most} {
		beginRefused(t, row(1, state), 0, api.ErrState)
		beginRefused(t, row(3, state), 2, api.ErrState)
		begun(t, row(3, state), -1)
	}
	begun(t, row(1, tree.Live), 0)
	begun(t, row(3, tree.Live), 2)
	x := some()
	for id, tx := range x.L {
		if tx.State == tree.Live {
			begun(t, x, id)
		} else {
			beginRefused(t, x, id, api.ErrState)
		}
	}
}

func TestBeginGoesByTheStateOfTheParentAlone(t *testing.T) {
	begun(t, grown(tx{-1, tree.Undone}, tx{0, tree.Live}), 1)
	begun(t, grown(tx{-1, tree.Done}, tx{0, tree.Live}), 1)
	begun(t, grown(tx{-1, tree.Live}, tx{0, tree.Done}), 0)
	begun(t, grown(tx{77, tree.Live}), 0)
}

func TestBeginOfTheLast(t *testing.T) {
	for _, state := range states {
		x := row(63, state)
		x.L[5].State, x.L[5].Ended = tree.Live, 0
		begun(t, x, -1)
		begun(t, x, 5)
		x = row(64, state)
		x.L[5].State, x.L[5].Ended = tree.Live, 0
		beginRefused(t, x, -1, api.ErrLimit)
		beginRefused(t, x, 5, api.ErrLimit)
	}
	beginRefused(t, row(65, tree.Live), -1, api.ErrLimit)
	beginRefused(t, row(1000, tree.Done), -1, api.ErrLimit)
}

func TestBeginOfTheDeepest(t *testing.T) {
	x := chain(9, tree.Live)
	for parent := -1; parent < 7; parent++ {
		begun(t, x, parent)
	}
	beginRefused(t, x, 7, api.ErrLimit)
	beginRefused(t, x, 8, api.ErrLimit)
	x = tree.Tree{}
	for parent := -1; parent < 7; parent++ {
		x = begun(t, x, parent)
	}
	sane(t, x, true)
	beginRefused(t, x, 7, api.ErrLimit)
	begun(t, x, -1)
	begun(t, x, 6)
}

func TestTheOrderOfBeginsErrors(t *testing.T) {
	full := row(64, tree.Done)
	beginRefused(t, full, 64, api.ErrName)
	beginRefused(t, full, -2, api.ErrName)
	beginRefused(t, full, 63, api.ErrState)
	deep := chain(9, tree.Live)
	deep.L[7].State = tree.Done
	beginRefused(t, deep, 7, api.ErrState)
	both := chain(64, tree.Undone)
	beginRefused(t, both, 64, api.ErrName)
	beginRefused(t, both, 63, api.ErrState)
	both.L[63].State = tree.Live
	beginRefused(t, both, 63, api.ErrLimit)
}

func TestBeginInARing(t *testing.T) {
	begun(t, ring(7), 3)
	beginRefused(t, ring(8), 3, api.ErrLimit)
	begun(t, comingTo(ring(5), 2), 6)
	beginRefused(t, comingTo(ring(5), 3), 7, api.ErrLimit)
}

func TestBeginAtTheLastClock(t *testing.T) {
	x := tree.Tree{Clock: most - 1}
	x = begun(t, x, -1)
	sane(t, x, true)
	x, id, e := begins(t, x, 0)
	if id != 1 || e != api.OK || x.Clock != least {
		t.Errorf("%v, %d, %v", x, id, e)
	}
}

// ring is as many Live ones, each in the next, and the last one in the first.
func ring(n int) tree.Tree {
	x := row(n, tree.Live)
	for id := range x.L {
		x.L[id].Parent = (id + 1) % n
	}
	return x
}

// comingTo is a tree with a way of n more Live ones behind it, each in the one before.
func comingTo(x tree.Tree, n int) tree.Tree {
	for range n {
		x.Clock++
		x.L = append(x.L, tree.Tx{Parent: len(x.L) - 1, State: tree.Live, Began: x.Clock})
	}
	return x
}

// P9.3

// commitRefused lets a Commit have an error, and nothing else.
func commitRefused(t *testing.T, x tree.Tree, id int, want api.Errno) {
	t.Helper()
	if got, e := commits(t, x, id); e != want || got.L != nil || got.Clock != 0 {
		t.Errorf("Commit(%v, %d) = %v, %v, want %v", x, id, got, e, want)
	}
}

// committed lets a Commit have none.
func committed(t *testing.T, x tree.Tree, id int) tree.Tree {
	t.Helper()
	got, e := commits(t, x, id)
	want := with(x, id, func(tx *tree.Tx) { tx.State, tx.Ended = tree.Done, x.Clock+1 })
	want.Clock++
	if e != api.OK || !same(got, want) {
		t.Fatalf("Commit(%v, %d) = %v, %v, want %v", x, id, got, e, want)
	}
	return got
}

// abortRefused lets an Abort have an error, and nothing else.
func abortRefused(t *testing.T, x tree.Tree, id int, want api.Errno) {
	t.Helper()
	if got, ids, e := aborts(t, x, id); e != want || len(ids) != 0 || got.L != nil || got.Clock != 0 {
		t.Errorf("Abort(%v, %d) = %v, %v, %v, want %v", x, id, got, ids, e, want)
	}
}

// aborted lets an Abort undo just those.
func aborted(t *testing.T, x tree.Tree, id int, gone ...int) tree.Tree {
	t.Helper()
	got, ids, e := aborts(t, x, id)
	want := copied(x)
	want.Clock++
	for _, other := range gone {
		want.L[other].State, want.L[other].Ended = tree.Undone, want.Clock
	}
	if e != api.OK || !same(got, want) || !slices.Equal(ids, gone) {
		t.Fatalf("Abort(%v, %d) = %v, %v, %v, want %v, %v", x, id, got, ids, e, want, gone)
	}
	return got
}

func TestCommitAndAbortOfWhatIsNoID(t *testing.T) {
	for _, x := range []tree.Tree{{}, row(1, tree.Live), row(1, tree.Done), some(), row(64, tree.Live), ring(3)} {
		for _, id := range noIDs(len(x.L)) {
			commitRefused(t, x, id, api.ErrName)
			abortRefused(t, x, id, api.ErrName)
		}
	}
}

func TestCommitAndAbortOfEachState(t *testing.T) {
	for _, state := range []int{0, tree.Done, tree.Undone, 4, -1, least, most} {
		for id := range 3 {
			commitRefused(t, row(3, state), id, api.ErrState)
			abortRefused(t, row(3, state), id, api.ErrState)
		}
	}
	for id := range 3 {
		sane(t, committed(t, row(3, tree.Live), id), true)
		sane(t, aborted(t, row(3, tree.Live), id, id), true)
	}
}

func TestCommitOfSome(t *testing.T) {
	x := some()
	for id := range x.L {
		if id == 11 {
			sane(t, committed(t, x, id), true)
		} else {
			commitRefused(t, x, id, api.ErrState)
		}
	}
	x = committed(t, x, 11)
	x = committed(t, x, 4)
	x = committed(t, x, 3)
	sane(t, x, true)
	for id, want := range map[int]int{11: 25, 4: 26, 3: 27} {
		if x.L[id].Ended != want || x.L[id].State != tree.Done {
			t.Errorf("%d: %v, want the time %d", id, x.L[id], want)
		}
	}
	if !slices.Equal(x.L[5:11], some().L[5:11]) || !slices.Equal(x.L[:3], some().L[:3]) {
		t.Errorf("others than the three are others: %v", x)
	}
}

func TestCommitOfOneWithALiveOneInIt(t *testing.T) {
	commitRefused(t, chain(2, tree.Live), 0, api.ErrState)
	for _, between := range []int{0, tree.Live, tree.Done, tree.Undone, 4} {
		x := grown(tx{-1, tree.Live}, tx{0, between}, tx{1, tree.Live})
		commitRefused(t, x, 0, api.ErrState)
		x = grown(tx{-1, tree.Live}, tx{0, between}, tx{1, between}, tx{2, between}, tx{3, tree.Live})
		commitRefused(t, x, 0, api.ErrState)
	}
	for deep := range 8 {
		x := chain(8, tree.Done)
		x.L[0].State = tree.Live
		if deep == 0 {
			committed(t, x, 0)
			continue
		}
		x.L[deep].State = tree.Live
		commitRefused(t, x, 0, api.ErrState)
		if deep < 7 {
			committed(t, x, deep)
		}
	}
}

func TestCommitOfOneWithNoLiveOneInIt(t *testing.T) {
	for _, state := range []int{0, tree.Done, tree.Undone, 4} {
		committed(t, grown(tx{-1, tree.Live}, tx{0, state}), 0)
		committed(t, grown(tx{-1, tree.Live}, tx{0, state}, tx{1, state}, tx{0, state}), 0)
		committed(t, grown(tx{-1, tree.Live}, tx{0, state}, tx{-1, tree.Live}, tx{2, tree.Live}), 0)
	}
	committed(t, chain(8, tree.Live), 7)
	committed(t, grown(tx{-1, tree.Live}, tx{0, tree.Live}, tx{0, tree.Live}), 1)
	committed(t, grown(tx{-1, tree.Done}, tx{0, tree.Live}), 1)
	committed(t, grown(tx{-1, tree.Undone}, tx{0, tree.Live}), 1)
}

func TestCommitWhereAParentIsAboveItsKid(t *testing.T) {
	commitRefused(t, grown(tx{2, tree.Live}, tx{-1, tree.Done}, tx{1, tree.Live}), 2, api.ErrState)
	committed(t, grown(tx{2, tree.Done}, tx{-1, tree.Done}, tx{1, tree.Live}), 2)
}

func TestAbortTellsAllInIt(t *testing.T) {
	x := some()
	sane(t, aborted(t, x, 3, 3, 4, 5, 6, 11), true)
	sane(t, aborted(t, x, 4, 4, 11), true)
	sane(t, aborted(t, x, 11, 11), true)
	y := aborted(t, x, 3, 3, 4, 5, 6, 11)
	if y.L[7] != x.L[7] || y.L[10] != x.L[10] {
		t.Errorf("%v, %v: what was Undone already has another time", y.L[7], y.L[10])
	}
	y = aborted(t, aborted(t, x, 11, 11), 3, 3, 4, 5, 6)
	sane(t, y, true)
	if y.L[11].Ended != 25 || y.L[3].Ended != 26 {
		t.Errorf("%v", y)
	}
}

func TestAbortTellsIDsThatRise(t *testing.T) {
	x := grown(
		tx{-1, tree.Live}, // 0
		tx{-1, tree.Live}, // 1
		tx{1, tree.Live},  // 2
		tx{0, tree.Live},  // 3
		tx{2, tree.Live},  // 4
		tx{3, tree.Done},  // 5
		tx{1, tree.Live},  // 6
		tx{4, tree.Live},  // 7
		tx{5, tree.Done},  // 8
	)
	sane(t, x, true)
	aborted(t, x, 0, 0, 3, 5, 8)
	aborted(t, x, 1, 1, 2, 4, 6, 7)
	aborted(t, x, 2, 2, 4, 7)
	aborted(t, x, 3, 3, 5, 8)
	aborted(t, x, 7, 7)
	aborted(t, chain(8, tree.Live), 0, 0, 1, 2, 3, 4, 5, 6, 7)
	aborted(t, chain(8, tree.Live), 5, 5, 6, 7)
	// parents above their kids: the IDs rise still
	aborted(t, grown(tx{1, tree.Live}, tx{2, tree.Done}, tx{-1, tree.Live}, tx{1, tree.Live}), 2, 0, 1, 2, 3)
}

func TestAbortOfWhatIsInAnUndoneOne(t *testing.T) {
	x := grown(tx{-1, tree.Live}, tx{0, tree.Undone}, tx{1, tree.Live}, tx{1, tree.Done}, tx{1, tree.Undone})
	aborted(t, x, 0, 0, 2, 3)
	aborted(t, x, 2, 2)
}

func TestAbortOfStatesThatMayNotBe(t *testing.T) {
	for _, state := range []int{0, 4, -1, least, most} {
		aborted(t, grown(tx{-1, tree.Live}, tx{0, state}, tx{1, tree.Undone}, tx{-1, state}), 0, 0, 1)
	}
}

func TestCommitAndAbortAtTheLastClock(t *testing.T) {
	x := row(1, tree.Live)
	x.Clock = most - 1
	sane(t, committed(t, x, 0), true)
	sane(t, aborted(t, x, 0, 0), true)
	x.Clock = most
	if got, e := commits(t, x, 0); e != api.OK || got.Clock != least {
		t.Errorf("%v, %v", got, e)
	}
	if got, _, e := aborts(t, x, 0); e != api.OK || got.Clock != least {
		t.Errorf("%v, %v", got, e)
	}
}

func TestTheOrderOfCommitsAndAbortsErrors(t *testing.T) {
	x := chain(3, tree.Live)
	x.L[1].State = tree.Done
	commitRefused(t, x, 3, api.ErrName)
	commitRefused(t, x, 1, api.ErrState)
	commitRefused(t, x, 0, api.ErrState)
	abortRefused(t, x, 3, api.ErrName)
	abortRefused(t, x, 1, api.ErrState)
}

func TestCommitAndAbortInARing(t *testing.T) {
	one := ring(1)
	committed(t, one, 0)
	aborted(t, one, 0, 0)
	two := ring(2)
	commitRefused(t, two, 0, api.ErrState)
	aborted(t, two, 0, 0, 1)
	aborted(t, two, 1, 0, 1)
	two.L[1].State = tree.Done
	committed(t, two, 0)
	aborted(t, two, 0, 0, 1)
	x := comingTo(ring(4), 3)
	for id := range 4 {
		commitRefused(t, x, id, api.ErrState)
		aborted(t, x, id, 0, 1, 2, 3, 4, 5, 6)
	}
	aborted(t, x, 4, 4, 5, 6)
	aborted(t, x, 5, 5, 6)
	committed(t, x, 6)
	commitRefused(t, x, 5, api.ErrState)
	x.L[2].State = tree.Undone
	aborted(t, x, 0, 0, 1, 3, 4, 5, 6)
}

// P9.4

// answers are what is told of one: what it stands in, and the four others.
type answers struct {
	in          []int
	top, deep   int
	lost, fixed bool
}

func told(x tree.Tree, id int) answers {
	var a answers
	for of := -3; of < len(x.L)+3; of++ {
		if tree.Within(x, id, of) {
			a.in = append(a.in, of)
		}
	}
	a.top, a.deep, a.lost, a.fixed = tree.Top(x, id), tree.Deep(x, id), tree.Lost(x, id), tree.Fixed(x, id)
	return a
}

// tells holds what is told of one against what is known.
func tells(t *testing.T, x tree.Tree, id int, want answers) {
	t.Helper()
	got := told(x, id)
	if !slices.Equal(got.in, want.in) || got.top != want.top || got.deep != want.deep || got.lost != want.lost || got.fixed != want.fixed {
		t.Errorf("%v: of %d is told %v, want %v", x, id, got, want)
	}
}

func TestWhatIsToldOfSome(t *testing.T) {
	x := some()
	for id, want := range []answers{
		{[]int{0}, 0, 1, false, true},
		{[]int{0, 1}, 0, 2, false, true},
		{[]int{0, 2}, 0, 2, true, false},
		{[]int{3}, 3, 1, false, false},
		{[]int{3, 4}, 3, 2, false, false},
		{[]int{3, 5}, 3, 2, false, false},
		{[]int{3, 5, 6}, 3, 3, false, false},
		{[]int{3, 5, 7}, 3, 3, true, false},
		{[]int{8}, 8, 1, true, false},
		{[]int{8, 9}, 8, 2, true, false},
		{[]int{3, 4, 10}, 3, 3, true, false},
		{[]int{3, 4, 11}, 3, 3, false, false},
	} {
		tells(t, x, id, want)
	}
	asked(t, x)
}

func TestWhatIsToldOfWhatIsNoID(t *testing.T) {
	for _, x := range []tree.Tree{{}, row(1, tree.Done), row(1, tree.Undone), some(), ring(3), chain(64, tree.Done)} {
		for _, id := range noIDs(len(x.L)) {
			tells(t, x, id, answers{nil, -1, 0, true, false})
			for _, other := range append(noIDs(len(x.L)), 0, len(x.L)-1) {
				if tree.Within(x, id, other) || tree.Within(x, other, id) {
					t.Errorf("%v: %d in %d, or the other way round", x, id, other)
				}
			}
		}
		asked(t, x)
	}
}

func TestWithinGoesUpAlone(t *testing.T) {
	x := chain(8, tree.Live)
	for id := range x.L {
		for of := range x.L {
			if tree.Within(x, id, of) != (of <= id) {
				t.Errorf("Within(%d, %d) = %v", id, of, of > id)
			}
		}
	}
	x = row(8, tree.Live)
	for id := range x.L {
		tells(t, x, id, answers{[]int{id}, id, 1, false, false})
	}
}

func TestWhatIsToldOfEachStateOnTheWayUp(t *testing.T) {
	for at := range 5 {
		for _, state := range []int{0, 1, 2, 3, 4, least, most} {
			for _, others := range []int{0, 1, 2, 3, 4} {
				x := chain(5, others)
				x.L[at].State = state
				for id := range 5 {
					met := id >= at
					lost := met && state == tree.Undone || others == tree.Undone && (id > 0 || !met)
					fixed := (!met || state == tree.Done) && (others == tree.Done || id == 0 && met)
					in := []int{0, 1, 2, 3, 4}[:id+1]
					tells(t, x, id, answers{in, 0, id + 1, lost, fixed})
				}
			}
		}
	}
}

func TestWhatIsToldOfParentsThatGoRound(t *testing.T) {
	one := with(row(1, tree.Done), 0, func(tx *tree.Tx) { tx.Parent = 0 })
	tells(t, one, 0, answers{[]int{0}, -1, 1, false, true})
	two := ring(2)
	tells(t, two, 0, answers{[]int{0, 1}, -1, 2, false, false})
	tells(t, two, 1, answers{[]int{0, 1}, -1, 2, false, false})
	two.L[1].State = tree.Undone
	tells(t, two, 0, answers{[]int{0, 1}, -1, 2, true, false})
	two.L[0].State, two.L[1].State = tree.Done, tree.Done
	tells(t, two, 0, answers{[]int{0, 1}, -1, 2, false, true})
	x := comingTo(ring(3), 2)
	for id := range 3 {
		tells(t, x, id, answers{[]int{0, 1, 2}, -1, 3, false, false})
	}
	tells(t, x, 3, answers{[]int{0, 1, 2, 3}, -1, 4, false, false})
	tells(t, x, 4, answers{[]int{0, 1, 2, 3, 4}, -1, 5, false, false})
	x.L[0].State = tree.Undone // the way from 4 comes to it last
	tells(t, x, 4, answers{[]int{0, 1, 2, 3, 4}, -1, 5, true, false})
	for id := range x.L {
		x.L[id].State = tree.Done
	}
	tells(t, x, 4, answers{[]int{0, 1, 2, 3, 4}, -1, 5, false, true})
	x.L[1].State = tree.Live
	tells(t, x, 4, answers{[]int{0, 1, 2, 3, 4}, -1, 5, false, false})
	for n := range 9 {
		asked(t, comingTo(ring(n+1), 8-n))
		sane(t, comingTo(ring(n+1), 8-n), false)
	}
}

func TestWhatIsToldOfParentsThatAreNoIDs(t *testing.T) {
	for _, parent := range noIDs(3) {
		if parent == -1 {
			continue
		}
		x := grown(tx{parent, tree.Done}, tx{0, tree.Done}, tx{1, tree.Done})
		tells(t, x, 0, answers{[]int{0}, -1, 1, false, true})
		tells(t, x, 2, answers{[]int{0, 1, 2}, -1, 3, false, true})
		x.L[0].State = tree.Undone
		tells(t, x, 2, answers{[]int{0, 1, 2}, -1, 3, true, false})
		all(t, x)
	}
}

func TestWhatIsToldOfParentsAboveTheirKids(t *testing.T) {
	x := grown(tx{3, tree.Done}, tx{0, tree.Done}, tx{-1, tree.Done}, tx{2, tree.Done})
	tells(t, x, 0, answers{[]int{0, 2, 3}, 2, 3, false, true})
	tells(t, x, 1, answers{[]int{0, 1, 2, 3}, 2, 4, false, true})
	tells(t, x, 2, answers{[]int{2}, 2, 1, false, true})
	tells(t, x, 3, answers{[]int{2, 3}, 2, 2, false, true})
	all(t, x)
}

// P9.5

// orders holds Order against what is known, and the plain one too.
func orders(t *testing.T, x tree.Tree, want ...int) {
	t.Helper()
	if got := tree.Order(x); !slices.Equal(got, want) {
		t.Errorf("Order(%v) = %v, want %v", x, got, want)
	}
	if got := plainOrder(x); !slices.Equal(got, want) {
		t.Errorf("the plain Order(%v) = %v, want %v", x, got, want)
	}
}

// ending lets each of a tree have ended when it is told.
func ending(x tree.Tree, ended ...int) tree.Tree {
	x = copied(x)
	for id := range x.L {
		x.L[id].Ended = ended[id]
	}
	return x
}

func TestOrderOfNone(t *testing.T) {
	orders(t, tree.Tree{})
	orders(t, row(3, tree.Live))
	orders(t, row(3, tree.Undone))
	orders(t, row(3, 0))
	orders(t, row(3, 4))
	orders(t, ring(3))
}

func TestOrderOfTopOnes(t *testing.T) {
	orders(t, row(1, tree.Done), 0)
	orders(t, row(4, tree.Done), 3, 2, 1, 0)
	orders(t, ending(row(4, tree.Done), 7, 5, 8, 6), 1, 3, 0, 2)
	orders(t, ending(row(5, tree.Done), 7, 5, 7, 5, 6), 1, 3, 4, 0, 2)
	orders(t, ending(row(4, tree.Done), 0, 0, 0, 0), 0, 1, 2, 3)
	orders(t, ending(row(4, tree.Done), most, least, -1, 0), 1, 2, 3, 0)
	x := grown(tx{-1, tree.Done}, tx{-1, tree.Live}, tx{-1, tree.Undone}, tx{-1, tree.Done})
	orders(t, x, 3, 0)
}

func TestOrderOfKids(t *testing.T) {
	x := grown(
		tx{-1, tree.Done}, // 0
		tx{-1, tree.Done}, // 1
		tx{0, tree.Done},  // 2
		tx{1, tree.Done},  // 3
		tx{0, tree.Done},  // 4
		tx{2, tree.Done},  // 5
		tx{4, tree.Done},  // 6
		tx{2, tree.Done},  // 7
		tx{1, tree.Done},  // 8
		tx{7, tree.Done},  // 9
	)
	orders(t, x, 1, 8, 3, 0, 4, 6, 2, 7, 9, 5)
	orders(t, ending(x, 18, 19, 16, 17, 15, 12, 13, 14, 11, 10), 0, 4, 6, 2, 5, 7, 9, 1, 8, 3)
	orders(t, ending(x, 1, 1, 1, 1, 1, 1, 1, 1, 1, 1), 0, 2, 5, 7, 9, 4, 6, 1, 3, 8)
	orders(t, ending(x, 1, 1, 3, 2, 3, 5, 2, 4, 2, 9), 0, 2, 7, 9, 5, 4, 6, 1, 3, 8)
	orders(t, chain(8, tree.Done), 0, 1, 2, 3, 4, 5, 6, 7)
}

func TestOrderOfKidsWhoseParentsAreNotFixed(t *testing.T) {
	for _, state := range []int{0, tree.Live, tree.Undone, 4} {
		orders(t, grown(tx{-1, state}, tx{0, tree.Done}, tx{1, tree.Done}))
		orders(t, grown(tx{-1, tree.Done}, tx{0, state}, tx{1, tree.Done}, tx{0, tree.Done}), 0, 3)
		orders(t, grown(tx{-1, tree.Done}, tx{0, tree.Done}, tx{1, state}, tx{2, tree.Done}), 0, 1)
	}
	orders(t, some(), 0, 1)
}

func TestOrderOfParentsThatGoRound(t *testing.T) {
	x := comingTo(ring(3), 2)
	for id := range x.L {
		x.L[id].State = tree.Done
	}
	orders(t, x)
	x.L = append(x.L, tree.Tx{Parent: -1, State: tree.Done, Ended: 90}, tree.Tx{Parent: 5, State: tree.Done, Ended: 80}, tree.Tx{Parent: 0, State: tree.Done, Ended: 70})
	orders(t, x, 5, 6)
	orders(t, with(row(2, tree.Done), 0, func(tx *tree.Tx) { tx.Parent = 0 }), 1)
}

func TestOrderOfParentsThatAreNoIDs(t *testing.T) {
	for _, parent := range noIDs(4) {
		if parent != -1 {
			orders(t, grown(tx{parent, tree.Done}, tx{0, tree.Done}, tx{-1, tree.Done}, tx{2, tree.Done}), 2, 3)
		}
	}
}

func TestOrderOfParentsAboveTheirKids(t *testing.T) {
	orders(t, grown(tx{3, tree.Done}, tx{0, tree.Done}, tx{-1, tree.Done}, tx{2, tree.Done}), 2, 3, 0, 1)
}

func TestOrderTellsJustWhatIsFixed(t *testing.T) {
	x := some()
	x = committed(t, x, 11)
	orders(t, x, 0, 1)
	x = committed(t, x, 4)
	orders(t, x, 0, 1)
	x = committed(t, x, 3)
	orders(t, x, 0, 1, 3, 5, 6, 4, 11)
}

// every hands on each tree of n whose parents and states are among those; when each ended hangs on the tree, so that many have one time.
func every(n int, parents, states []int, each func(tree.Tree)) {
	x := tree.Tree{L: make([]tree.Tx, n), Clock: 2 * n}
	seed := 0
	var lay func(id int)
	lay = func(id int) {
		if id == n {
			seed++
			y := copied(x)
			for at := range y.L {
				y.L[at].Ended = seed >> (2 * at) % 4
			}
			each(y)
			return
		}
		for _, parent := range parents {
			for _, state := range states {
				x.L[id] = tree.Tx{Parent: parent, State: state, Began: id + 1}
				lay(id + 1)
			}
		}
	}
	lay(0)
}

func TestEachTreeOfAFew(t *testing.T) {
	every(1, []int{-2, -1, 0, 1, 2}, []int{0, 1, 2, 3, 4}, func(x tree.Tree) { all(t, x) })
	every(2, []int{-2, -1, 0, 1, 2}, []int{0, 1, 2, 3, 4}, func(x tree.Tree) { all(t, x) })
	every(3, []int{-2, -1, 0, 1, 2, 3}, []int{1, 2, 3, 4}, func(x tree.Tree) { all(t, x) })
}

func TestEachWayUpOfFive(t *testing.T) {
	every(5, []int{-2, -1, 0, 1, 2, 3, 4}, []int{tree.Done}, func(x tree.Tree) { asked(t, x) })
}

func TestSaneOfEachTreeOfTwo(t *testing.T) {
	n, found := 0, 0
	every(2, []int{-2, -1, 0, 1}, []int{0, 1, 2, 3}, func(x tree.Tree) {
		for times := range 5 * 4 * 4 * 5 * 5 {
			x.Clock = times%5 + 1
			x.L[0].Began, x.L[1].Began = times/5%4, times/20%4
			x.L[0].Ended, x.L[1].Ended = times/80%5, times/400%5
			got := tree.Sane(x)
			if got != plainSane(x) {
				t.Fatalf("Sane(%v) = %v", x, got)
			}
			n++
			if got {
				found++
			}
		}
	})
	if found < 100 {
		t.Errorf("of %d trees only %d may be", n, found)
	}
}

// P9.6

// stays holds what was told of IDs before a step against what is told behind it.
func stays(t *testing.T, before, behind tree.Tree) {
	t.Helper()
	if !tree.Sane(behind) || !plainSane(behind) {
		t.Fatalf("%v became %v, which may not be", before, behind)
	}
	if behind.Clock != before.Clock+1 || len(behind.L) < len(before.L) {
		t.Fatalf("%v became %v", before, behind)
	}
	for id, x := range before.L {
		if tree.Fixed(before, id) && !tree.Fixed(behind, id) || tree.Lost(before, id) && !tree.Lost(behind, id) {
			t.Fatalf("%d was fixed or lost in %v, and is not in %v", id, before, behind)
		}
		if y := behind.L[id]; y.Parent != x.Parent || y.Began != x.Began {
			t.Fatalf("%d was %v, and is %v", id, x, y)
		}
	}
}

// rows goes over all rows of so many steps that have no error.
func rows(t *testing.T, x tree.Tree, steps int) int {
	n := 1
	if steps == 0 {
		return n
	}
	for id := -1; id < len(x.L); id++ {
		if y, _, e := begins(t, x, id); e == api.OK {
			stays(t, x, y)
			n += rows(t, y, steps-1)
		}
		if y, e := commits(t, x, id); e == api.OK {
			stays(t, x, y)
			n += rows(t, y, steps-1)
		}
		if y, _, e := aborts(t, x, id); e == api.OK {
			stays(t, x, y)
			n += rows(t, y, steps-1)
		}
	}
	return n
}

func TestEachRowOfSteps(t *testing.T) {
	if n := rows(t, tree.Tree{}, 6); n < 1000 {
		t.Errorf("only %d rows", n)
	}
	rows(t, some(), 2)
	rows(t, tree.Tree{Clock: most - 4}, 4)
}

// script is as many bytes, of any kind, but the same ones each time.
func script(seed uint32, n int) []byte {
	b := make([]byte, n)
	for i := range b {
		seed = seed*1664525 + 1013904223
		b[i] = byte(seed >> 24)
	}
	return b
}

// pick is an ID of a tree, most often one of the last ones, or what is none.
func pick(x tree.Tree, b byte) int {
	n := len(x.L)
	switch {
	case b < 12:
		return noIDs(n)[b]
	case b < 60 || n == 0:
		return -1
	case b < 180:
		return n - 1 - int(b)%min(n, 9)
	}
	return int(b) % n
}

// steps goes over a row of steps, of which some have an error, and tells how many were in the longest life of a tree.
func steps(t *testing.T, script []byte) int {
	var x tree.Tree
	longest := 0
	for ; len(script) > 1; script = script[2:] {
		id := pick(x, script[1])
		var y tree.Tree
		var e api.Errno
		switch script[0] % 8 {
		case 0, 1, 2, 3:
			y, _, e = begins(t, x, id)
		case 4, 5, 6:
			y, e = commits(t, x, id)
		case 7:
			y, _, e = aborts(t, x, id)
		}
		if e == api.OK {
			stays(t, x, y)
			x = y
		}
		longest = max(longest, len(x.L))
		if e == api.ErrLimit && len(x.L) == 64 && script[0] < 40 {
			asked(t, x)
			x = tree.Tree{}
		}
	}
	asked(t, x)
	return longest
}

func TestStepsOfAnyKind(t *testing.T) {
	full := 0
	for seed := range uint32(60) {
		if steps(t, script(seed, 900)) == 64 {
			full++
		}
	}
	if full < 5 {
		t.Errorf("only %d trees became full", full)
	}
}

func TestALongRow(t *testing.T) {
	var x tree.Tree
	for top := range 8 {
		x = begun(t, x, -1)
		first := len(x.L) - 1
		for range 7 {
			x = begun(t, x, len(x.L)-1)
		}
		sane(t, x, true)
		if top%2 == 0 {
			for id := len(x.L) - 1; id >= first; id-- {
				before := x
				x = committed(t, x, id)
				stays(t, before, x)
			}
			continue
		}
		var gone []int
		for id := first; id < len(x.L); id++ {
			gone = append(gone, id)
		}
		before := x
		x = aborted(t, x, first, gone...)
		stays(t, before, x)
	}
	for id := range x.L {
		even := id/8%2 == 0
		tells(t, x, id, answers{plainIn(x, id), id / 8 * 8, id%8 + 1, !even, even})
	}
	beginRefused(t, x, -1, api.ErrLimit)
	asked(t, x)
}

// plainIn is what one stands in.
func plainIn(x tree.Tree, id int) []int {
	return around(x, stands(x), id)
}

// anyTree is a tree of any kind: four bytes a transaction.
func anyTree(b []byte) tree.Tree {
	x := tree.Tree{}
	if len(b) > 0 {
		x.Clock, b = int(b[0])-4, b[1:]
	}
	n := len(b) / 4
	for ; len(b) >= 4; b = b[4:] {
		tx := tree.Tx{Parent: int(b[0])%(n+3) - 2, State: int(b[1]) % 5, Began: int(int8(b[2])), Ended: int(int8(b[3]))}
		if b[1] > 250 {
			tx = tree.Tx{Parent: noIDs(n)[b[0]%12], State: least + int(b[1]), Began: most - int(b[2]), Ended: least + int(b[3])}
		}
		x.L = append(x.L, tx)
	}
	return x
}

func TestTreesOfAnyKind(t *testing.T) {
	for seed := range uint32(3000) {
		all(t, anyTree(script(seed, 1+int(seed%40))))
	}
	for seed := range uint32(20) {
		all(t, anyTree(script(seed, 1+4*(56+int(seed)))))
	}
}

// ofID is a number for each ID.
type ofID func(id int) int

func always(n int) ofID { return func(int) int { return n } }

// but is others' numbers, but for one ID.
func but(at, n int, others ofID) ofID {
	return func(id int) int {
		if id == at {
			return n
		}
		return others(id)
	}
}

// upTo is one number for all up to an ID, and others' behind it.
func upTo(at, n int, others ofID) ofID {
	return func(id int) int {
		if id <= at {
			return n
		}
		return others(id)
	}
}

// large is how a large tree is made, by each one's Parent, and what is to be told of it: how deep each is, its top one, how many stand in it.
type large struct {
	name                     string
	parent, deep, top, holds ofID
}

// largeOnes are those of n transactions.
func largeOnes(n int) []large {
	before := func(id int) int { return id - 1 }
	itself := func(id int) int { return id }
	behind := func(id int) int { return id + 1 }
	left := func(id int) int { return n - id }
	return []large{
		{"a way down", before, behind, always(0), left},
		{"a way up", but(n-1, -1, behind), left, always(n - 1), behind},
		{"a ring", but(n-1, 0, behind), always(n), always(-1), always(n)},
		{"a way to a ring", but(0, n/2, before), upTo(n/2, n/2+1, behind), always(-1), upTo(n/2, n, left)},
		{"all in one", but(0, -1, always(0)), but(0, 1, always(2)), always(0), but(0, n, always(1))},
		{"all in themselves", itself, always(1), always(-1), always(1)},
		{"all in what is no ID", func(id int) int { return most - id }, always(1), always(-1), always(1)},
	}
}

// made is such a tree.
func (l large) made(n, state int) tree.Tree {
	x := row(n, state)
	for id := range x.L {
		x.L[id].Parent = l.parent(id)
	}
	return x
}

func TestLargeTreesOfLiveOnes(t *testing.T) {
	const n = 1 << 16
	for _, l := range largeOnes(n) {
		x := l.made(n, tree.Live)
		for _, id := range []int{0, 1, n/2 - 1, n / 2, n/2 + 1, n - 1} {
			if _, _, e := tree.Begin(x, id); e != api.ErrLimit {
				t.Errorf("%s: Begin in %d: %v", l.name, id, e)
			}
			if _, e := tree.Commit(x, id); (e == api.OK) != (l.holds(id) == 1) {
				t.Errorf("%s: Commit of %d: %v", l.name, id, e)
			}
			y, gone, e := tree.Abort(x, id)
			if e != api.OK || len(gone) != l.holds(id) || !slices.Contains(gone, id) || !slices.IsSorted(gone) || !tree.Lost(y, id) {
				t.Errorf("%s: Abort of %d: %d, %v", l.name, id, len(gone), e)
			}
			if deep, top := tree.Deep(x, id), tree.Top(x, id); deep != l.deep(id) || top != l.top(id) {
				t.Errorf("%s: %d is %d deep, in %d", l.name, id, deep, top)
			}
			if !tree.Within(x, id, id) || tree.Within(x, id, n) || tree.Lost(x, id) || tree.Fixed(x, id) {
				t.Errorf("%s: of %d is told %v, %v, %v, %v", l.name, id, tree.Within(x, id, id), tree.Within(x, id, n), tree.Lost(x, id), tree.Fixed(x, id))
			}
		}
		if tree.Sane(x) || len(tree.Order(x)) != 0 {
			t.Errorf("%s: Sane is %v, Order tells %d", l.name, tree.Sane(x), len(tree.Order(x)))
		}
	}
}

func TestLargeTreesOfDoneOnes(t *testing.T) {
	const n = 1 << 16
	for _, l := range largeOnes(n) {
		x := l.made(n, tree.Done)
		told := tree.Order(x)
		if l.top(0) == -1 {
			if len(told) != 0 {
				t.Errorf("%s: Order tells %d", l.name, len(told))
			}
			continue
		}
		if len(told) != n || told[0] != l.top(0) {
			t.Errorf("%s: Order tells %d", l.name, len(told))
		}
		if !tree.Fixed(x, n/2) || tree.Sane(x) {
			t.Errorf("%s: Fixed is %v, Sane is %v", l.name, tree.Fixed(x, n/2), tree.Sane(x))
		}
	}
}

// What is handed in, answered and kept

func TestBeginTwiceOfOneTree(t *testing.T) {
	x := row(3, tree.Live)
	x.L = append(make([]tree.Tx, 0, 64), x.L...)
	room := x.L[:64]
	first, _, _ := tree.Begin(x, -1)
	second, _, _ := tree.Begin(x, 1)
	if first.L[3].Parent != -1 || second.L[3].Parent != 1 || room[3] != (tree.Tx{}) {
		t.Errorf("%v, %v, and behind the list %v", first, second, room[3])
	}
	third, _, _ := tree.Begin(first, 0)
	fourth, _, _ := tree.Begin(first, 2)
	if third.L[4].Parent != 0 || fourth.L[4].Parent != 2 || third.L[3].Parent != -1 {
		t.Errorf("%v, %v", third, fourth)
	}
}

func TestWhatIsAnsweredIsNewMemory(t *testing.T) {
	x := some()
	x.L = append(make([]tree.Tx, 0, 64), x.L...)
	was := copied(x)
	begun, _, _ := tree.Begin(x, 3)
	committed, _ := tree.Commit(x, 11)
	aborted, gone, _ := tree.Abort(x, 3)
	for _, y := range []tree.Tree{begun, committed, aborted} {
		for id := range y.L {
			y.L[id] = tree.Tx{Parent: 77, State: 77}
		}
	}
	for at := range gone {
		gone[at] = 77
	}
	told := tree.Order(x)
	for at := range told {
		told[at] = 77
	}
	if !same(x, was) || !slices.Equal(tree.Order(x), []int{0, 1}) {
		t.Errorf("%v, and Order tells %v", x, tree.Order(x))
	}
	again, gone, _ := tree.Abort(x, 3)
	if want, ids, _ := plainAbort(was, 3); !same(again, want) || !slices.Equal(gone, ids) {
		t.Errorf("%v, %v", again, gone)
	}
}

func TestWhatIsHandedInIsAsItWas(t *testing.T) {
	for seed := range uint32(200) {
		x := anyTree(script(seed, 60))
		x.L = append(make([]tree.Tx, 0, 100), x.L...)
		room, was := slices.Clone(x.L[:100]), copied(x)
		all(t, x)
		if !same(x, was) || !slices.Equal(x.L[:100], room) {
			t.Fatalf("%v, %v became %v, %v", was, room, x, x.L[:100])
		}
	}
}

func TestNothingIsKept(t *testing.T) {
	x, y := some(), comingTo(ring(4), 3)
	for range 3 {
		all(t, x)
		all(t, y)
		all(t, tree.Tree{})
	}
	begun, _, _ := tree.Begin(x, 3)
	x.L[3].State, x.L[0].Parent = tree.Undone, 12
	if begun.L[3].State != tree.Live || begun.L[0].Parent != -1 || !tree.Sane(begun) {
		t.Errorf("%v", begun)
	}
	all(t, x)
}

func TestTheExample(t *testing.T) {
	var x tree.Tree
	x = begun(t, x, -1)
	x = begun(t, x, 0)
	x = committed(t, x, 1)
	x = aborted(t, x, 0, 0, 1)
	if want := (tree.Tree{L: []tree.Tx{{-1, tree.Undone, 1, 4}, {0, tree.Undone, 2, 4}}, Clock: 4}); !same(x, want) {
		t.Errorf("%v, want %v", x, want)
	}
	sane(t, x, true)
	orders(t, x)
}

func ExampleAbort() {
	t, outer, _ := tree.Begin(tree.Tree{}, -1)
	t, inner, _ := tree.Begin(t, outer)
	t, _ = tree.Commit(t, inner)
	t, gone, _ := tree.Abort(t, outer)
	fmt.Println(gone, t.L[outer].State == tree.Undone, t.L[inner].State == tree.Undone)
	// Output: [0 1] true true
}

// P1

func FuzzTree(f *testing.F) {
	f.Add([]byte{})
	for seed := range uint32(20) {
		f.Add(script(seed, 1+4*int(seed)))
	}
	f.Fuzz(func(t *testing.T, b []byte) {
		all(t, anyTree(b[:min(len(b), 1+4*70)]))
	})
}

func FuzzNumbers(f *testing.F) {
	f.Add(0, -1, 1, 1, 0, -1)
	f.Add(most, 0, 3, most, least, most)
	f.Fuzz(func(t *testing.T, clock, parent, state, began, ended, id int) {
		x := tree.Tree{L: []tree.Tx{{-1, tree.Live, 1, 0}, {parent, state, began, ended}, {1, state, began, ended}}, Clock: clock}
		all(t, x)
		begins(t, x, id)
		commits(t, x, id)
		aborts(t, x, id)
		if tree.Deep(x, id) > 3 || tree.Within(x, id, parent) && tree.Deep(x, id) == 0 {
			t.Errorf("%v: %d is %d deep", x, id, tree.Deep(x, id))
		}
	})
}

func FuzzSteps(f *testing.F) {
	for seed := range uint32(20) {
		f.Add(script(seed+1000, 200))
	}
	f.Fuzz(func(t *testing.T, b []byte) { steps(t, b[:min(len(b), 1000)]) })
}
