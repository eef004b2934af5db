package redo_test

import (
	"bytes"
	"fmt"
	"math"
	"math/big"
	"slices"
	"testing"

	"heronry/api"
	"heronry/note"
	"heronry/page"
	"heronry/redo"
)

const (
	least   = math.MinInt
	most    = math.MaxInt
	lastLsn = 2_199_023_255_552 // 2^41
	lastSeq = 1_099_511_627_776 // 2^40
)

func zeros(n int) []byte { return make([]byte, n) }

// text is as many bytes, which hang on a seed, and of which neighbours are unlike.
func text(seed, n int) []byte {
	b := make([]byte, n)
	for i := range b {
		b[i] = byte(seed*31 + i*7 + i>>5 + 1)
	}
	return b
}

// img is an image of a block.
func img(block, seed int) api.Image { return api.Image{Block: block, Data: text(seed, 32)} }

// row is as many images, whose blocks rise from one on.
func row(from, many int) []api.Image {
	l := make([]api.Image, many)
	for i := range l {
		l[i] = img(from+i, 1000+from+3*i)
	}
	return l
}

// images are of these blocks, as they are.
func images(l ...int) []api.Image {
	all := make([]api.Image, len(l))
	for i, block := range l {
		all[i] = img(block, 500+i+block)
	}
	return all
}

func op(counter, by int) api.Op { return api.Op{Counter: counter, By: by} }

// adds is as many ops, of each of some counters in turn.
func adds(many, counters, seed int) []api.Op {
	l := make([]api.Op, many)
	for i := range l {
		l[i] = op(i%counters, (i-many/2)*(seed*1_000_003+1))
	}
	return l
}

// commit is a note of that kind.
func commit(images []api.Image, ops ...api.Op) note.Note {
	return note.Note{Kind: note.Commit, Seq: 7, Images: images, Ops: ops}
}

func mark() note.Note { return note.Note{Kind: note.Mark, Seq: 3} }

func rec(end int, n note.Note) redo.Rec { return redo.Rec{End: end, N: n} }

// state is so many blocks and counters, all unlike, with the same Lsn.
func state(blocks, counters, lsn int) redo.State {
	var s redo.State
	for i := range blocks {
		s.Blocks = append(s.Blocks, text(i, 32))
		s.Lsns = append(s.Lsns, lsn)
	}
	for i := range counters {
		s.Cells = append(s.Cells, page.Cell{Value: 100*i - 70, Lsn: lsn})
	}
	return s
}

// with is a list with one thing in place of what stands at a place.
func with[T any](l []T, at int, v T) []T {
	l = slices.Clone(l)
	l[at] = v
	return l
}

// withBlock is a state with another block at a place.
func withBlock(s redo.State, at int, block []byte) redo.State {
	s.Blocks = with(s.Blocks, at, block)
	return s
}

// withLsn is a state with another Lsn of a block.
func withLsn(s redo.State, at, lsn int) redo.State {
	s.Lsns = with(s.Lsns, at, lsn)
	return s
}

// withCell is a state with another counter.
func withCell(s redo.State, at, value, lsn int) redo.State {
	s.Cells = with(s.Cells, at, page.Cell{Value: value, Lsn: lsn})
	return s
}

// withImage is a state with a block that became an image.
func withImage(s redo.State, image api.Image, lsn int) redo.State {
	return withLsn(withBlock(s, image.Block, image.Data), image.Block, lsn)
}

// withAdded is a state with a counter to which something was added.
func withAdded(s redo.State, counter, by, lsn int) redo.State {
	return withCell(s, counter, s.Cells[counter].Value+by, lsn)
}

// lsns may be.
func lsns() []int {
	return []int{0, 1, 2, 7, 255, 256, 65535, 65536, 1<<32 - 1, 1 << 32, lastSeq, lastSeq + 1, lastLsn - 1, lastLsn}
}

// noLsns may not be.
func noLsns() []int {
	return []int{-1, -2, -7, -lastLsn, -lastLsn - 1, least, least + 1, lastLsn + 1, lastLsn + 2, 2 * lastLsn, 1<<48 - 1, 1 << 48, 1<<48 + 5, 1 << 62, most - 1, most}
}

// edges are numbers at the bounds of all that there is.
func edges() []int {
	return []int{
		least, least + 1, -lastLsn, -65536, -257, -256, -64, -3, -2, -1,
		0, 1, 2, 3, 31, 32, 33, 62, 63, 64, 65, 127, 128, 254, 255, 256, 257, 258, 511, 512, 65535, 65536, 1 << 32, most - 1, most,
	}
}

// sound are states that may be.
func sound() []redo.State {
	l := []redo.State{{}, {Blocks: [][]byte{}, Lsns: []int{}, Cells: []page.Cell{}}}
	for _, blocks := range []int{0, 1, 2, 5, 255, 256} {
		for _, counters := range []int{0, 1, 3, 63, 64} {
			s := state(blocks, counters, lsns()[len(l)%len(lsns())])
			for i := range s.Lsns {
				s.Lsns[i] = lsns()[(i+len(l))%len(lsns())]
			}
			for i := range s.Cells {
				s.Cells[i].Lsn = lsns()[(3*i+len(l))%len(lsns())]
			}
			l = append(l, s)
		}
	}
	return l
}

// strange are states that may not be, each for one thing's sake.
func strange() []redo.State {
	l := []redo.State{state(257, 0, 0), state(0, 65, 0), state(257, 64, 7), state(256, 65, 7), state(1000, 3, 7), state(3, 1000, 7)}
	for _, at := range []int{0, 1, 2} {
		s := state(3, 3, 7)
		for _, n := range []int{0, 1, 31, 33, 64} {
			l = append(l, withBlock(s, at, text(1, n)))
		}
		l = append(l, withBlock(s, at, nil))
		for _, lsn := range noLsns() {
			l = append(l, withLsn(s, at, lsn), withCell(s, at, 5, lsn))
		}
	}
	for _, many := range []int{0, 2, 4, 300} {
		s := state(3, 3, 7)
		s.Lsns = make([]int, many)
		l = append(l, s)
	}
	return append(l, redo.State{Blocks: state(3, 0, 0).Blocks}, redo.State{Lsns: zeroLsns(3)}, redo.State{Lsns: zeroLsns(1), Cells: state(0, 3, 0).Cells}, redo.State{Blocks: make([][]byte, 3), Lsns: zeroLsns(3)})
}

func zeroLsns(n int) []int { return make([]int, n) }

// whole are notes that may be, of the blocks 0 to 2 and the counters 0 to 2.
func whole() []note.Note {
	return []note.Note{
		mark(), commit(nil), commit(images(0)), commit(images(2)), commit(images(0, 1, 2)), commit(nil, op(0, 1)), commit(nil, op(2, -4), op(2, 9), op(0, most)),
		commit(images(1), op(1, 1)), commit(images(0, 1, 2), adds(256, 3, 7)...), commit(images(0, 2), op(2, 5), op(0, 0), op(2, -5)),
	}
}

// odd are notes that may not be, each for one thing's sake. Most of them name what a state of three blocks and counters has.
func odd() []note.Note {
	l := []note.Note{{}, {Seq: 3}, {Kind: 3}, {Kind: -1}, {Kind: least}, {Kind: most}, {Kind: 0, Images: images(1)}, {Kind: 3, Ops: adds(1, 1, 1)}}
	for _, seq := range []int{-1, least, lastSeq + 1, most} {
		l = append(l, note.Note{Kind: note.Commit, Seq: seq}, note.Note{Kind: note.Mark, Seq: seq}, note.Note{Kind: note.Commit, Seq: seq, Images: images(1), Ops: adds(1, 1, 1)})
	}
	for _, x := range [][]api.Image{images(1, 1), images(2, 1), images(-1), images(256), images(least), images(most), images(0, 256), row(0, 257), {{Block: 1}}, {{Block: 1, Data: text(1, 31)}}, {{Block: 1, Data: text(1, 33)}}} {
		l = append(l, commit(x), commit(x, op(1, 1)))
	}
	for _, x := range [][]api.Op{adds(257, 3, 1), {op(-1, 1)}, {op(64, 1)}, {op(least, 1)}, {op(most, 1)}, {op(0, 1), op(64, 1)}} {
		l = append(l, commit(nil, x...), commit(images(1), x...))
	}
	return append(l, note.Note{Kind: note.Mark, Images: images(1)}, note.Note{Kind: note.Mark, Ops: adds(1, 1, 1)})
}

// The plain ones.

func plainLsn(lsn int) bool { return 0 <= lsn && lsn <= lastLsn }

func plainSane(s redo.State) bool {
	may := len(s.Blocks) <= 256 && len(s.Cells) <= 64 && len(s.Lsns) == len(s.Blocks)
	for _, block := range s.Blocks {
		may = may && len(block) == 32
	}
	for _, lsn := range s.Lsns {
		may = may && plainLsn(lsn)
	}
	for _, c := range s.Cells {
		may = may && plainLsn(c.Lsn)
	}
	return may
}

func plainNote(n note.Note) bool {
	if n.Kind != 1 && n.Kind != 2 || n.Seq < 0 || n.Seq > lastSeq || len(n.Ops) > 256 {
		return false
	}
	above := -1
	for _, image := range n.Images {
		if image.Block <= above || image.Block > 255 || len(image.Data) != 32 {
			return false
		}
		above = image.Block
	}
	for _, op := range n.Ops {
		if op.Counter < 0 || op.Counter > 63 {
			return false
		}
	}
	return n.Kind == 1 || len(n.Images)+len(n.Ops) == 0
}

// plainSum is an exact sum that goes round: what is left of it by 2^64, at or above -2^63.
func plainSum(l ...int) int {
	sum, half, whole := new(big.Int), new(big.Int).Lsh(big.NewInt(1), 63), new(big.Int).Lsh(big.NewInt(1), 64)
	for _, n := range l {
		sum.Add(sum, big.NewInt(int64(n)))
	}
	sum.Add(sum, half)
	sum.Mod(sum, whole)
	return int(sum.Sub(sum, half).Int64())
}

// plainApply goes through the blocks and counters, and looks in the note for what each becomes.
func plainApply(s redo.State, end int, n note.Note) (redo.State, api.Errno) {
	if !plainSane(s) || !plainNote(n) || !plainLsn(end) {
		return redo.State{}, api.ErrArg
	}
	for _, image := range n.Images {
		if image.Block > len(s.Blocks)-1 {
			return redo.State{}, api.ErrName
		}
	}
	for _, op := range n.Ops {
		if op.Counter > len(s.Cells)-1 {
			return redo.State{}, api.ErrName
		}
	}
	s = cloned(s)
	for block := range s.Blocks {
		at := slices.IndexFunc(n.Images, func(image api.Image) bool { return image.Block == block })
		if at >= 0 && s.Lsns[block] < end {
			s.Blocks[block], s.Lsns[block] = bytes.Clone(n.Images[at].Data), end
		}
	}
	for counter, c := range s.Cells {
		l := []int{c.Value}
		for _, op := range n.Ops {
			if op.Counter == counter {
				l = append(l, op.By)
			}
		}
		if len(l) > 1 && c.Lsn < end {
			s.Cells[counter] = page.Cell{Value: plainSum(l...), Lsn: end}
		}
	}
	return s, api.OK
}

func plainReplay(s redo.State, l []redo.Rec) (redo.State, api.Errno) {
	for _, r := range l {
		next, e := plainApply(s, r.End, r.N)
		if e != api.OK {
			return next, e
		}
		s = next
	}
	return s, api.OK
}

// plainTouched asks of each number from 0 to 255 whether it is among them.
func plainTouched(n note.Note) ([]int, []int) {
	var blocks, counters []int
	for i := range 256 {
		if slices.ContainsFunc(n.Images, func(image api.Image) bool { return image.Block == i }) {
			blocks = append(blocks, i)
		}
		if slices.ContainsFunc(n.Ops, func(op api.Op) bool { return op.Counter == i }) {
			counters = append(counters, i)
		}
	}
	return blocks, counters
}

func plainSame(a, b redo.State) bool {
	if len(a.Blocks) != len(b.Blocks) || len(a.Cells) != len(b.Cells) {
		return false
	}
	for i := range a.Blocks {
		if string(a.Blocks[i]) != string(b.Blocks[i]) {
			return false
		}
	}
	for i := range a.Cells {
		if a.Cells[i].Value != b.Cells[i].Value {
			return false
		}
	}
	return true
}

// What states are, and what memory they and notes have.

// equal: are two states the same in all that they have, also their Lsns?
func equal(a, b redo.State) bool {
	return slices.EqualFunc(a.Blocks, b.Blocks, bytes.Equal) && slices.Equal(a.Lsns, b.Lsns) && slices.Equal(a.Cells, b.Cells)
}

func equalImages(a, b []api.Image) bool {
	return slices.EqualFunc(a, b, func(x, y api.Image) bool { return x.Block == y.Block && bytes.Equal(x.Data, y.Data) })
}

func equalNotes(a, b note.Note) bool {
	return a.Kind == b.Kind && a.Seq == b.Seq && equalImages(a.Images, b.Images) && slices.Equal(a.Ops, b.Ops)
}

func equalRecs(a, b redo.Rec) bool { return a.End == b.End && equalNotes(a.N, b.N) }

// nothing: is that the zero value?
func nothing(s redo.State) bool { return s.Blocks == nil && s.Lsns == nil && s.Cells == nil }

// cloned is a state in memory of its own.
func cloned(s redo.State) redo.State {
	s.Blocks, s.Lsns, s.Cells = slices.Clone(s.Blocks), slices.Clone(s.Lsns), slices.Clone(s.Cells)
	for i, block := range s.Blocks {
		s.Blocks[i] = bytes.Clone(block)
	}
	return s
}

// clonedNote is a note in memory of its own.
func clonedNote(n note.Note) note.Note {
	n.Images, n.Ops = slices.Clone(n.Images), slices.Clone(n.Ops)
	for i, image := range n.Images {
		n.Images[i].Data = bytes.Clone(image.Data)
	}
	return n
}

// room is a list with more behind it, which is looked at again. nil stays so.
func room[T any](l []T, more ...T) []T {
	if l == nil {
		return nil
	}
	return slices.Concat(l, more)[:len(l)]
}

// roomy is a state in memory of its own, with room behind each of its lists.
func roomy(s redo.State) redo.State {
	s.Blocks = room(s.Blocks, text(44, 32), text(45, 5))
	for i, block := range s.Blocks[:cap(s.Blocks)] {
		s.Blocks[:cap(s.Blocks)][i] = room(block, text(77, 40)...)
	}
	s.Lsns, s.Cells = room(s.Lsns, 3, 4), room(s.Cells, page.Cell{Value: 33, Lsn: 4})
	return s
}

// roomyNote is a note in memory of its own, with room behind each of its lists.
func roomyNote(n note.Note) note.Note {
	n.Images = room(n.Images, img(1, 44), api.Image{Block: 45, Data: text(45, 5)})
	for i, image := range n.Images[:cap(n.Images)] {
		n.Images[:cap(n.Images)][i].Data = room(image.Data, text(77, 40)...)
	}
	n.Ops = room(n.Ops, op(1, 33), op(2, 44))
	return n
}

// roomyRecs are records in memory of their own, with room behind them.
func roomyRecs(l []redo.Rec) []redo.Rec {
	l = room(l, rec(lastLsn, commit(images(0, 1), op(0, 4))))
	for i, r := range l[:cap(l)] {
		l[:cap(l)][i].N = roomyNote(r.N)
	}
	return l
}

// rooms is a state as it stands in memory, with all that is behind its lists.
func rooms(s redo.State) redo.State {
	s.Blocks, s.Lsns, s.Cells = slices.Clone(s.Blocks[:cap(s.Blocks)]), s.Lsns[:cap(s.Lsns)], s.Cells[:cap(s.Cells)]
	for i, block := range s.Blocks {
		s.Blocks[i] = block[:cap(block)]
	}
	return s
}

// roomsNote is a note as it stands in memory.
func roomsNote(n note.Note) note.Note {
	n.Images, n.Ops = slices.Clone(n.Images[:cap(n.Images)]), n.Ops[:cap(n.Ops)]
	for i, image := range n.Images {
		n.Images[i].Data = image.Data[:cap(image.Data)]
	}
	return n
}

// roomsRecs are records as they stand in memory.
func roomsRecs(l []redo.Rec) []redo.Rec {
	l = slices.Clone(l[:cap(l)])
	for i, r := range l {
		l[i].N = roomsNote(r.N)
	}
	return l
}

// stays holds what was handed in against what it was.
func stays(t *testing.T, call string, s redo.State, l []redo.Rec) func() {
	t.Helper()
	was, wasRecs := cloned(rooms(s)), roomsRecs(l)
	for i, r := range wasRecs {
		wasRecs[i].N = clonedNote(r.N)
	}
	return func() {
		t.Helper()
		if !equal(rooms(s), was) {
			t.Fatalf("%s left %+v behind, where %+v was", call, rooms(s), was)
		}
		if !slices.EqualFunc(roomsRecs(l), wasRecs, equalRecs) {
			t.Fatalf("%s left %+v behind, where %+v was", call, roomsRecs(l), wasRecs)
		}
	}
}

// spoil writes over bytes, and over the room behind them.
func spoil(b []byte) {
	for i := range b[:cap(b)] {
		b[:cap(b)][i] ^= 255
	}
}

// scribble writes over all that a state has, and over the room behind it.
func scribble(s redo.State) {
	for i, block := range s.Blocks[:cap(s.Blocks)] {
		spoil(block)
		s.Blocks[:cap(s.Blocks)][i] = nil
	}
	for i := range s.Lsns[:cap(s.Lsns)] {
		s.Lsns[:cap(s.Lsns)][i] = 1000
	}
	for i := range s.Cells[:cap(s.Cells)] {
		s.Cells[:cap(s.Cells)][i] = page.Cell{Value: 1000, Lsn: 1000}
	}
}

// scribbleRecs writes over all that records have.
func scribbleRecs(l []redo.Rec) {
	for i, r := range l[:cap(l)] {
		for _, image := range r.N.Images[:cap(r.N.Images)] {
			spoil(image.Data)
		}
		for j := range r.N.Ops[:cap(r.N.Ops)] {
			r.N.Ops[:cap(r.N.Ops)][j] = op(1000, 1000)
		}
		l[:cap(l)][i] = rec(1000, mark())
	}
}

// apart checks that no two blocks of a state share any memory, also behind their ends.
func apart(t *testing.T, s redo.State) {
	t.Helper()
	for i, block := range s.Blocks {
		if len(block) > 0 {
			spoil(block)
			for j, other := range s.Blocks {
				if i != j && len(other) > 0 && &block[0] == &other[0] {
					t.Fatalf("the blocks %d and %d are one", i, j)
				}
			}
			spoil(block)
		}
	}
	was := cloned(s)
	for i, block := range s.Blocks {
		spoil(block)
		if i > 0 && !bytes.Equal(s.Blocks[i-1], was.Blocks[i-1]) || i+1 < len(s.Blocks) && !bytes.Equal(s.Blocks[i+1], was.Blocks[i+1]) {
			t.Fatalf("the block %d shares memory with one beside it", i)
		}
		spoil(block)
	}
	for _, block := range s.Blocks {
		spoil(block)
	}
	for i, block := range s.Blocks {
		if len(block) > 0 && block[0] != ^was.Blocks[i][0] {
			t.Fatalf("the block %d shares memory", i)
		}
		spoil(block)
	}
}

// The calls are held against the plain ones. What is handed in stays, also where the answer is written to; the answer stays, where what was handed in is.

func newState(t *testing.T, blocks, counters int) (redo.State, api.Errno) {
	t.Helper()
	s, e := redo.New(blocks, counters)
	if blocks < 0 || blocks > 256 || counters < 0 || counters > 64 {
		if e != api.ErrArg || !nothing(s) {
			t.Fatalf("New(%d, %d) = %+v, %v", blocks, counters, s, e)
		}
		return s, e
	}
	if e != api.OK || len(s.Blocks) != blocks || len(s.Lsns) != blocks || len(s.Cells) != counters {
		t.Fatalf("New(%d, %d) = %+v, %v", blocks, counters, s, e)
	}
	for i, block := range s.Blocks {
		if !bytes.Equal(block, zeros(32)) || s.Lsns[i] != 0 {
			t.Fatalf("New(%d, %d) has the block %d as %v, with the Lsn %d", blocks, counters, i, block, s.Lsns[i])
		}
	}
	for i, c := range s.Cells {
		if c != (page.Cell{}) {
			t.Fatalf("New(%d, %d) has the counter %d as %+v", blocks, counters, i, c)
		}
	}
	return s, e
}

func sane(t *testing.T, s redo.State) bool {
	t.Helper()
	handed := roomy(s)
	stay := stays(t, "Sane", handed, nil)
	got := redo.Sane(handed)
	stay()
	if want := plainSane(s); got != want {
		t.Fatalf("Sane(%+v) = %v", s, got)
	}
	return got
}

// held checks an answer of a call that got a state and records, and tells it in memory of its own.
func held(t *testing.T, call string, s redo.State, l []redo.Rec, do func(s redo.State, l []redo.Rec) (redo.State, api.Errno)) (redo.State, api.Errno) {
	t.Helper()
	handed, recs := roomy(s), roomyRecs(l)
	stay := stays(t, call, handed, recs)
	got, e := do(handed, recs)
	stay()
	want, wantErr := plainReplay(s, l)
	if !equal(got, want) || e != wantErr || e != api.OK && !nothing(got) {
		t.Fatalf("%s of %+v and %+v = %+v, %v, want %+v, %v", call, s, l, got, e, want, wantErr)
	}
	scribble(handed)
	scribbleRecs(recs)
	if !equal(got, want) {
		t.Fatalf("%s of %+v and %+v shares memory with them", call, s, l)
	}
	handed, recs = roomy(s), roomyRecs(l)
	stay = stays(t, call, handed, recs)
	got, _ = do(handed, recs)
	scribble(got)
	stay()
	return want, e
}

func apply(t *testing.T, s redo.State, end int, n note.Note) (redo.State, api.Errno) {
	t.Helper()
	return held(t, "Apply", s, []redo.Rec{rec(end, n)}, func(s redo.State, l []redo.Rec) (redo.State, api.Errno) {
		return redo.Apply(s, l[0].End, l[0].N)
	})
}

func replay(t *testing.T, s redo.State, l []redo.Rec) (redo.State, api.Errno) {
	t.Helper()
	return held(t, "Replay", s, l, redo.Replay)
}

func touched(t *testing.T, n note.Note) ([]int, []int) {
	t.Helper()
	handed := []redo.Rec{rec(0, roomyNote(n))}
	stay := stays(t, "Touched", redo.State{}, handed)
	blocks, counters := redo.Touched(handed[0].N)
	stay()
	wantBlocks, wantCounters := plainTouched(n)
	if !slices.Equal(blocks, wantBlocks) || !slices.Equal(counters, wantCounters) {
		t.Fatalf("Touched(%+v) = %v, %v, want %v, %v", n, blocks, counters, wantBlocks, wantCounters)
	}
	for i := range blocks[:cap(blocks)] {
		blocks[:cap(blocks)][i] = 1000
	}
	if !slices.Equal(counters, wantCounters) {
		t.Fatalf("Touched(%+v) has two lists that share memory", n)
	}
	for i := range counters[:cap(counters)] {
		counters[:cap(counters)][i] = 1000
	}
	stay()
	return wantBlocks, wantCounters
}

func same(t *testing.T, a, b redo.State) bool {
	t.Helper()
	first, second := roomy(a), roomy(b)
	stayFirst, staySecond := stays(t, "Same", first, nil), stays(t, "Same", second, nil)
	got := redo.Same(first, second)
	stayFirst()
	staySecond()
	if want := plainSame(a, b); got != want || redo.Same(second, first) != want {
		t.Fatalf("Same(%+v, %+v) = %v", a, b, got)
	}
	return got
}

// is checks what a state that may be, and one that may not be, is to all calls.
func is(t *testing.T, s redo.State, may bool) {
	t.Helper()
	if got := sane(t, s); got != may {
		t.Errorf("Sane(%+v) = %v", s, got)
	}
	if !same(t, s, s) {
		t.Errorf("%+v is not the same as itself", s)
	}
	if may {
		becomes(t, s, lastLsn, mark(), s)
	} else {
		refused(t, s, lastLsn, mark(), api.ErrArg)
	}
}

// becomes checks what a note makes of a state.
func becomes(t *testing.T, s redo.State, end int, n note.Note, want redo.State) {
	t.Helper()
	if got, e := apply(t, s, end, n); !equal(got, want) || e != api.OK {
		t.Errorf("Apply(%+v, %d, %+v) = %+v, %v, want %+v", s, end, n, got, e, want)
	}
	if got, e := replay(t, s, []redo.Rec{rec(end, n)}); !equal(got, want) || e != api.OK {
		t.Errorf("Replay(%+v, %d, %+v) = %+v, %v, want %+v", s, end, n, got, e, want)
	}
}

// refused checks that a note makes nothing of a state but an error.
func refused(t *testing.T, s redo.State, end int, n note.Note, want api.Errno) {
	t.Helper()
	if got, e := apply(t, s, end, n); !nothing(got) || e != want {
		t.Errorf("Apply(%+v, %d, %+v) = %+v, %v, want %v", s, end, n, got, e, want)
	}
	if got, e := replay(t, s, []redo.Rec{rec(end, n)}); !nothing(got) || e != want {
		t.Errorf("Replay(%+v, %d, %+v) = %+v, %v, want %v", s, end, n, got, e, want)
	}
}

// replays checks what records make of a state.
func replays(t *testing.T, s redo.State, want redo.State, l ...redo.Rec) {
	t.Helper()
	if got, e := replay(t, s, l); !equal(got, want) || e != api.OK {
		t.Errorf("Replay(%+v, %+v) = %+v, %v, want %+v", s, l, got, e, want)
	}
}

// replayRefused checks that records make nothing of a state but an error.
func replayRefused(t *testing.T, s redo.State, want api.Errno, l ...redo.Rec) {
	t.Helper()
	if got, e := replay(t, s, l); !nothing(got) || e != want {
		t.Errorf("Replay(%+v, %+v) = %+v, %v, want %v", s, l, got, e, want)
	}
}

// touches checks which blocks and counters a note has.
func touches(t *testing.T, n note.Note, wantBlocks, wantCounters []int) {
	t.Helper()
	if blocks, counters := touched(t, n); !slices.Equal(blocks, wantBlocks) || !slices.Equal(counters, wantCounters) {
		t.Errorf("Touched(%+v) = %v, %v, want %v, %v", n, blocks, counters, wantBlocks, wantCounters)
	}
}

// P19.1

func TestNewOfEachPair(t *testing.T) {
	for blocks := -2; blocks <= 258; blocks++ {
		for counters := -2; counters <= 66; counters++ {
			_, e := newState(t, blocks, counters)
			if may := 0 <= blocks && blocks <= 256 && 0 <= counters && counters <= 64; may != (e == api.OK) {
				t.Fatalf("New(%d, %d) = %v", blocks, counters, e)
			}
		}
	}
}

func TestNewOfNumbersOfAnyKind(t *testing.T) {
	for _, a := range edges() {
		for _, b := range edges() {
			if _, e := newState(t, a, b); e == api.OK != (0 <= a && a <= 256 && 0 <= b && b <= 64) {
				t.Errorf("New(%d, %d) = %v", a, b, e)
			}
		}
	}
	for _, n := range []int{-1, 257, least, most} {
		for _, counters := range []int{0, 1, 64} {
			if s, e := redo.New(n, counters); e != api.ErrArg || !nothing(s) {
				t.Errorf("New(%d, %d) = %+v, %v", n, counters, s, e)
			}
		}
	}
	for _, n := range []int{-1, 65, 256, least, most} {
		for _, blocks := range []int{0, 1, 256} {
			if s, e := redo.New(blocks, n); e != api.ErrArg || !nothing(s) {
				t.Errorf("New(%d, %d) = %+v, %v", blocks, n, s, e)
			}
		}
	}
}

func TestNewAsItIs(t *testing.T) {
	s, e := redo.New(2, 3)
	z := []byte{0, 0, 0, 0, 0, 0, 0, 0, 0, 0, 0, 0, 0, 0, 0, 0, 0, 0, 0, 0, 0, 0, 0, 0, 0, 0, 0, 0, 0, 0, 0, 0}
	want := redo.State{Blocks: [][]byte{z, z}, Lsns: []int{0, 0}, Cells: []page.Cell{{Value: 0, Lsn: 0}, {}, {}}}
	if !equal(s, want) || e != api.OK {
		t.Errorf("New(2, 3) = %+v, %v", s, e)
	}
	for _, x := range [][2]int{{0, 0}, {0, 64}, {256, 0}, {256, 64}, {1, 1}} {
		s, e := redo.New(x[0], x[1])
		if e != api.OK {
			t.Fatal(x, e)
		}
		is(t, s, true)
	}
}

func TestNoTwoBlocksShareMemory(t *testing.T) {
	for _, blocks := range []int{1, 2, 3, 64, 255, 256} {
		s, _ := redo.New(blocks, 3)
		apart(t, s)
		other, _ := redo.New(blocks, 3)
		scribble(other)
		again, _ := redo.New(blocks, 3)
		if !equal(s, again) {
			t.Error("what New made shares memory with what it made again")
		}
	}
}

func TestStatesThatMayBe(t *testing.T) {
	for _, s := range sound() {
		is(t, s, true)
	}
}

func TestStatesThatMayNotBe(t *testing.T) {
	for _, s := range strange() {
		is(t, s, false)
	}
}

func TestHowManyBlocks(t *testing.T) {
	for _, many := range []int{0, 1, 2, 100, 255, 256, 257, 258, 511, 512, 513, 65536} {
		for _, counters := range []int{0, 1, 64} {
			is(t, state(many, counters, 7), many <= 256)
		}
	}
}

func TestHowManyCells(t *testing.T) {
	for _, many := range []int{0, 1, 2, 3, 63, 64, 65, 66, 128, 255, 256, 65536} {
		for _, blocks := range []int{0, 1, 256} {
			is(t, state(blocks, many, 7), many <= 64)
		}
	}
}

func TestEachLengthOfABlock(t *testing.T) {
	for _, many := range []int{1, 2, 3, 256} {
		s := state(many, 3, 7)
		for at := range many {
			for _, n := range []int{0, 31, 32, 33} {
				is(t, withBlock(s, at, text(9, n)), n == 32)
			}
			is(t, withBlock(s, at, nil), false)
		}
	}
	for n := range 200 {
		is(t, withBlock(state(3, 3, 7), 1, text(9, n)), n == 32)
	}
	// Two whose bytes are as many together as they may be.
	is(t, withBlock(withBlock(state(3, 0, 0), 0, text(1, 31)), 1, text(1, 33)), false)
	is(t, withBlock(withBlock(state(3, 0, 0), 0, text(1, 64)), 1, nil), false)
}

func TestHowManyLsns(t *testing.T) {
	for _, blocks := range []int{0, 1, 2, 3, 255, 256} {
		for _, many := range []int{0, blocks - 1, blocks, blocks + 1, 256, 257} {
			if many >= 0 {
				s := state(blocks, 3, 7)
				s.Lsns = zeroLsns(many)
				is(t, s, many == blocks)
			}
		}
	}
	is(t, redo.State{Blocks: state(1, 0, 0).Blocks}, false)
	is(t, redo.State{Lsns: zeroLsns(1)}, false)
	// As many cells as blocks make up for none.
	is(t, redo.State{Blocks: state(3, 0, 0).Blocks, Cells: state(0, 3, 0).Cells}, false)
}

func TestEachLsn(t *testing.T) {
	for _, many := range []int{1, 3, 64, 256} {
		s := state(many, min(many, 64), 7)
		for at := range many {
			for _, lsn := range []int{-1, 0, lastLsn, lastLsn + 1, least, most} {
				is(t, withLsn(s, at, lsn), lsn == 0 || lsn == lastLsn)
				if at < len(s.Cells) {
					is(t, withCell(s, at, 5, lsn), lsn == 0 || lsn == lastLsn)
				}
			}
		}
	}
	for _, lsn := range lsns() {
		is(t, state(3, 3, lsn), true)
		is(t, withLsn(state(3, 3, 0), 1, lsn), true)
		is(t, withCell(state(3, 3, 0), 1, 0, lsn), true)
	}
	for _, lsn := range noLsns() {
		is(t, state(3, 3, lsn), false)
		is(t, state(3, 0, lsn), false)
		is(t, state(0, 3, lsn), false)
		is(t, withLsn(state(3, 3, 0), 1, lsn), false)
		is(t, withCell(state(3, 3, 0), 1, 0, lsn), false)
	}
}

func TestEachValue(t *testing.T) {
	for _, value := range edges() {
		for at := range 3 {
			is(t, withCell(state(3, 3, 7), at, value, 7), true)
		}
	}
}

// Room behind lists does not count, nor what stands there.
func TestRoomBehindLists(t *testing.T) {
	s, long := state(300, 100, 7), text(4, 64)
	is(t, redo.State{Blocks: s.Blocks[:256], Lsns: s.Lsns[:256], Cells: s.Cells[:64]}, true)
	is(t, redo.State{Blocks: s.Blocks[:3], Lsns: s.Lsns[:2], Cells: s.Cells[:3]}, false)
	is(t, withBlock(state(3, 3, 7), 1, long[:32]), true)
	is(t, withBlock(state(3, 3, 7), 1, long[:31]), false)
	is(t, redo.State{Cells: []page.Cell{{}, {Lsn: -1}}[:1]}, true)
}

// P19.2

func TestApplyToWhatMayNotBe(t *testing.T) {
	for _, s := range strange() {
		for _, n := range whole() {
			for _, end := range []int{0, 8, lastLsn} {
				refused(t, s, end, n, api.ErrArg)
			}
		}
	}
}

func TestApplyOfWhatMayNotBe(t *testing.T) {
	for _, n := range odd() {
		for _, s := range []redo.State{{}, state(3, 3, 7), state(256, 64, 0)} {
			for _, end := range []int{0, 8, lastLsn} {
				refused(t, s, end, n, api.ErrArg)
			}
		}
	}
}

func TestEachEnd(t *testing.T) {
	s := state(3, 3, 0)
	n := commit(images(1), op(2, 5))
	for _, end := range lsns() {
		want := s
		if end > 0 {
			want = withAdded(withImage(s, n.Images[0], end), 2, 5, end)
		}
		becomes(t, s, end, n, want)
		becomes(t, s, end, mark(), s)
		becomes(t, redo.State{}, end, commit(nil), redo.State{})
	}
	for _, end := range noLsns() {
		for _, n := range whole() {
			refused(t, s, end, n, api.ErrArg)
		}
		refused(t, redo.State{}, end, mark(), api.ErrArg)
		refused(t, redo.State{}, end, commit(nil), api.ErrArg)
	}
}

// What may not be comes ahead of a name that nobody has.
func TestTheOrderOfErrors(t *testing.T) {
	s := state(3, 3, 7)
	wrong := []note.Note{commit(images(3)), commit(nil, op(3, 1)), commit(images(255), op(63, 1))}
	for _, n := range wrong {
		refused(t, s, 8, n, api.ErrName)
		for _, end := range noLsns() {
			refused(t, s, end, n, api.ErrArg)
		}
		for _, bad := range []redo.State{withLsn(s, 0, -1), withCell(s, 2, 0, lastLsn+1), withBlock(s, 1, text(1, 31)), {Lsns: zeroLsns(1)}, state(2, 65, 0), state(257, 2, 0)} {
			refused(t, bad, 8, n, api.ErrArg)
		}
		bad := n
		bad.Seq = -1
		refused(t, s, 8, bad, api.ErrArg)
		bad = n
		bad.Kind = note.Mark
		refused(t, s, 8, bad, api.ErrArg)
	}
	refused(t, s, 8, commit(images(3, 3)), api.ErrArg)
	refused(t, s, 8, commit(images(200, 256)), api.ErrArg)
	refused(t, s, 8, commit(nil, op(3, 1), op(64, 1)), api.ErrArg)
	refused(t, s, 8, commit(nil, op(3, 1), op(-1, 1)), api.ErrArg)
}

func TestNamesOfBlocks(t *testing.T) {
	for many := range 257 {
		s := state(many, 3, 7)
		for _, block := range []int{0, many - 1, many, many + 1, 255} {
			if block < 0 || block > 255 {
				continue
			}
			n := commit([]api.Image{img(block, 99)})
			if block >= many {
				refused(t, s, 8, n, api.ErrName)
			} else {
				becomes(t, s, 8, n, withImage(s, n.Images[0], 8))
			}
		}
	}
}

func TestNamesOfCounters(t *testing.T) {
	for many := range 65 {
		s := state(3, many, 7)
		for counter := range 64 {
			n := commit(nil, op(counter, 9))
			if counter >= many {
				refused(t, s, 8, n, api.ErrName)
			} else {
				becomes(t, s, 8, n, withAdded(s, counter, 9, 8))
			}
		}
	}
}

// A name that nobody has is one wherever it stands, and also where nothing of the note would count; nothing else is done then.
func TestNamesAmongOthers(t *testing.T) {
	s := state(100, 3, 7)
	for _, end := range []int{0, 6, 7, 8, lastLsn} {
		refused(t, s, end, commit(images(100)), api.ErrName)
		refused(t, s, end, commit(images(0, 1, 100)), api.ErrName)
		refused(t, s, end, commit(images(100, 101, 255)), api.ErrName)
		refused(t, s, end, commit(row(0, 256), op(1, 1)), api.ErrName)
		refused(t, s, end, commit(row(0, 101)), api.ErrName)
		refused(t, s, end, commit(nil, op(3, 0)), api.ErrName)
		refused(t, s, end, commit(images(0), op(0, 1), op(63, 1), op(2, 1)), api.ErrName)
		refused(t, s, end, commit(nil, op(0, 1), op(1, 1), op(2, 1), op(3, 1)), api.ErrName)
		refused(t, s, end, commit(nil, op(3, 1), op(0, 1)), api.ErrName)
		refused(t, s, end, commit(images(100), op(3, 1)), api.ErrName)
	}
	for at := range 256 {
		refused(t, s, 8, commit(nil, with(adds(256, 3, 1), at, op(3, 1))...), api.ErrName)
	}
	refused(t, redo.State{}, 8, commit(images(0)), api.ErrName)
	refused(t, redo.State{}, 8, commit(nil, op(0, 0)), api.ErrName)
	// As many blocks as the counter asks for make up for none, nor the other way round.
	refused(t, state(256, 0, 0), 8, commit(nil, op(0, 1)), api.ErrName)
	refused(t, state(0, 64, 0), 8, commit(images(0)), api.ErrName)
}

func TestNotesOfNothing(t *testing.T) {
	for _, s := range sound() {
		for _, end := range lsns() {
			becomes(t, s, end, mark(), s)
			becomes(t, s, end, commit(nil), s)
			becomes(t, s, end, commit([]api.Image{}, []api.Op{}...), s)
		}
	}
}

// around are Lsns below an end, the same and above.
func around(end int) []int {
	return slices.DeleteFunc([]int{0, 1, end - 1, end, end + 1, lastLsn - 1, lastLsn}, func(lsn int) bool { return !plainLsn(lsn) })
}

func TestImagesAndLsns(t *testing.T) {
	image := img(1, 99)
	for _, end := range lsns() {
		for _, lsn := range around(end) {
			s := withLsn(state(3, 3, 5), 1, lsn)
			want := s
			if lsn < end {
				want = withImage(s, image, end)
			}
			becomes(t, s, end, commit([]api.Image{image}), want)
		}
	}
}

func TestOpsAndLsns(t *testing.T) {
	for _, end := range lsns() {
		for _, lsn := range around(end) {
			s := withCell(state(3, 3, 5), 1, 40, lsn)
			want := s
			if lsn < end {
				want = withCell(s, 1, 33, end)
			}
			becomes(t, s, end, commit(nil, op(1, -7)), want)
			becomes(t, s, end, commit(nil, op(1, -3), op(1, -4)), want)
			becomes(t, s, end, commit(nil, op(1, 3), op(1, -10), op(1, 0)), want)
		}
	}
}

// Each block and each counter goes by its own Lsn.
func TestEachByItsOwnLsn(t *testing.T) {
	s := state(5, 5, 0)
	s.Lsns = []int{6, 7, 8, 9, 10}
	for i, lsn := range []int{10, 9, 8, 7, 6} {
		s.Cells[i].Lsn = lsn
	}
	x := row(0, 5)
	ops := []api.Op{op(0, 1), op(1, 2), op(2, 3), op(3, 4), op(4, 5), op(0, 10), op(4, 50)}
	becomes(t, s, 6, commit(x, ops...), s)
	becomes(t, s, 7, commit(x, ops...), withAdded(withImage(s, x[0], 7), 4, 55, 7))
	want := withImage(withImage(s, x[0], 8), x[1], 8)
	becomes(t, s, 8, commit(x, ops...), withAdded(withAdded(want, 4, 55, 8), 3, 4, 8))
	want = redo.State{Lsns: []int{11, 11, 11, 11, 11}}
	for i, image := range x {
		want.Blocks = append(want.Blocks, image.Data)
		want.Cells = append(want.Cells, page.Cell{Value: s.Cells[i].Value + []int{11, 2, 3, 4, 55}[i], Lsn: 11})
	}
	becomes(t, s, 11, commit(x, ops...), want)
}

// An image that is what the block was, and ops that come to nothing, let the Lsn be the end all the same.
func TestWhatChangesButTheLsn(t *testing.T) {
	s := state(3, 3, 7)
	becomes(t, s, 9, commit([]api.Image{{Block: 1, Data: s.Blocks[1]}}), withLsn(s, 1, 9))
	becomes(t, s, 9, commit(nil, op(1, 0)), withCell(s, 1, 30, 9))
	becomes(t, s, 9, commit(nil, op(1, 5), op(1, -5)), withCell(s, 1, 30, 9))
	becomes(t, s, 9, commit(nil, op(1, least), op(1, least)), withCell(s, 1, 30, 9))
	becomes(t, s, 7, commit(nil, op(1, 0)), s)
	becomes(t, state(1, 1, 0), 1, commit([]api.Image{{Block: 0, Data: zeros(32)}}), withLsn(withBlock(state(1, 1, 0), 0, zeros(32)), 0, 1))
}

// Several ops of one counter, apart from each other among those of others: all of them count, or none.
func TestOpsOfOneCounter(t *testing.T) {
	s := withCell(withCell(state(3, 3, 7), 0, 100, 7), 2, 0, 9)
	l := []api.Op{op(0, 1), op(1, 5), op(0, 20), op(2, 8), op(2, 9), op(0, -300), op(1, 6), op(0, 4000), op(2, 1)}
	becomes(t, s, 7, commit(nil, l...), s)
	becomes(t, s, 8, commit(nil, l...), withCell(withCell(s, 0, 3821, 8), 1, 41, 8))
	becomes(t, s, 9, commit(nil, l...), withCell(withCell(s, 0, 3821, 9), 1, 41, 9))
	becomes(t, s, 10, commit(nil, l...), withCell(withCell(withCell(s, 0, 3821, 10), 1, 41, 10), 2, 18, 10))
	for range 20 {
		l = append(l[1:], l[0])
		becomes(t, s, 8, commit(nil, l...), withCell(withCell(s, 0, 3821, 8), 1, 41, 8))
	}
	for many := range 257 {
		becomes(t, s, 8, commit(nil, slices.Repeat([]api.Op{op(0, 3)}, many)...), withCell(s, 0, 100+3*many, min(7+many, 8)))
	}
	all := state(0, 64, 7)
	want := cloned(all)
	for i := range want.Cells {
		want.Cells[i] = page.Cell{Value: all.Cells[i].Value + 4*i, Lsn: 8}
	}
	var each []api.Op
	for i := range 256 {
		each = append(each, op(i%64, i%64))
	}
	becomes(t, all, 8, commit(nil, each...), want)
}

// Sums beyond an int go round, on the way and in the end.
func TestSumsThatGoRound(t *testing.T) {
	for _, x := range []struct {
		value int
		by    []int
		want  int
	}{
		{most, []int{1}, least},
		{least, []int{-1}, most},
		{most, []int{most}, -2},
		{least, []int{least}, 0},
		{least, []int{most}, -1},
		{-1, []int{least}, most},
		{1, []int{most, -1}, most},
		{1, []int{most, most}, -1},
		{most, []int{1, -1}, most},
		{least, []int{-1, 1}, least},
		{most, []int{5, -6}, most - 1},
		{0, []int{most, most, 2}, 0},
		{0, []int{least, least}, 0},
		{0, []int{least, -1, -1}, most - 1},
		{7, []int{least, least, least, least}, 7},
		{7, []int{most, most, most, most}, 3},
		{-1, []int{most, 1, most, 1}, -1},
	} {
		s := withCell(state(3, 3, 7), 1, x.value, 7)
		var alone, among []api.Op
		for _, by := range x.by {
			alone, among = append(alone, op(1, by)), append(among, op(0, 1), op(1, by), op(2, by))
		}
		becomes(t, s, 8, commit(nil, alone...), withCell(s, 1, x.want, 8))
		becomes(t, s, 7, commit(nil, alone...), s)
		if got, e := apply(t, s, 8, commit(nil, among...)); e != api.OK || got.Cells[1] != (page.Cell{Value: x.want, Lsn: 8}) {
			t.Errorf("%d and %v = %+v, %v, want %d", x.value, x.by, got.Cells, e, x.want)
		}
	}
	for _, value := range edges() {
		for _, by := range edges() {
			s := withCell(state(1, 3, 0), 2, value, 0)
			becomes(t, s, 8, commit(nil, op(2, by)), withCell(s, 2, plainSum(value, by), 8))
			becomes(t, s, 8, commit(nil, op(2, by), op(2, by)), withCell(s, 2, plainSum(value, by, by), 8))
		}
	}
}

// All other blocks and counters stay, bytes, values and Lsns, whichever it is.
func TestAllOthersStay(t *testing.T) {
	s := sound()[len(sound())-1]
	for block := range 256 {
		image := img(block, 999)
		s := withLsn(s, block, 7)
		becomes(t, s, 8, commit([]api.Image{image}), withImage(s, image, 8))
	}
	for counter := range 64 {
		s := withCell(s, counter, 5, 7)
		becomes(t, s, 8, commit(nil, op(counter, 5)), withCell(s, counter, 10, 8))
	}
	s = state(256, 64, 7)
	want := state(256, 64, 8)
	for i := range want.Blocks {
		want.Blocks[i] = img(i, 1000+3*i).Data
	}
	for i := range want.Cells {
		want.Cells[i].Value--
	}
	var ops []api.Op
	for i := range 64 {
		ops = append(ops, op(63-i, -1))
	}
	becomes(t, s, 8, commit(row(0, 256), ops...), want)
}

// A Seq says nothing here.
func TestTheSeqSaysNothing(t *testing.T) {
	s := state(3, 3, 7)
	for _, seq := range []int{0, 1, 6, 7, 8, lastSeq} {
		n := commit(images(1), op(1, 5))
		n.Seq = seq
		becomes(t, s, 8, n, withAdded(withImage(s, n.Images[0], 8), 1, 5, 8))
		becomes(t, s, 7, n, s)
	}
}

// A state stays, also where what came out of it is used on, and written over.
func TestTheStateStays(t *testing.T) {
	s := state(3, 3, 7)
	was := cloned(s)
	n := commit(images(1), op(1, 5))
	one, _ := redo.Apply(s, 8, n)
	wasOne := cloned(one)
	two, _ := redo.Apply(one, 9, commit(images(0, 2), op(0, 1)))
	three, _ := redo.Replay(one, []redo.Rec{rec(9, commit(images(1))), rec(10, commit(nil, op(1, 1), op(2, 2)))})
	if !equal(s, was) || !equal(one, wasOne) {
		t.Fatal(s, one)
	}
	scribble(two)
	scribble(three)
	if !equal(s, was) || !equal(one, wasOne) {
		t.Fatal(s, one)
	}
	again, _ := redo.Apply(s, 8, n)
	none, _ := redo.Apply(s, 8, mark())
	scribble(one)
	scribble(none)
	if !equal(s, was) || !equal(again, wasOne) {
		t.Fatal(s, again)
	}
	if !equalNotes(n, commit(images(1), op(1, 5))) {
		t.Error(n)
	}
}

// Blocks that were handed in as one are apart in what comes out of it, and one that becomes an image leaves the others.
func TestBlocksThatAreOne(t *testing.T) {
	block := text(5, 32)
	s := redo.State{Blocks: [][]byte{block, block, block}, Lsns: []int{7, 7, 7}}
	image := api.Image{Block: 1, Data: block}
	for _, n := range []note.Note{mark(), commit([]api.Image{img(1, 99)}), commit([]api.Image{{Block: 0, Data: block}, image})} {
		got, e := redo.Apply(s, 8, n)
		want, _ := plainApply(s, 8, n)
		if e != api.OK || !equal(got, want) || !bytes.Equal(block, text(5, 32)) {
			t.Fatalf("Apply(%+v, 8, %+v) = %+v, %v", s, n, got, e)
		}
		apart(t, got)
		got, e = redo.Replay(s, []redo.Rec{rec(8, n), rec(9, n)})
		want, _ = plainReplay(s, []redo.Rec{rec(8, n), rec(9, n)})
		if e != api.OK || !equal(got, want) || !bytes.Equal(block, text(5, 32)) {
			t.Fatalf("Replay(%+v, %+v) = %+v, %v", s, n, got, e)
		}
		apart(t, got)
	}
	got, _ := redo.Replay(s, nil)
	apart(t, got)
	long := text(5, 96)
	s.Blocks = [][]byte{long[:32], long[32:64], long[64:]}
	got, _ = redo.Apply(s, 8, commit([]api.Image{img(0, 99)}))
	apart(t, got)
}

// P19.3

func TestReplayOfNothing(t *testing.T) {
	for _, s := range sound() {
		replays(t, s, s)
		replays(t, s, s, []redo.Rec{}...)
	}
	// Where nothing is done, nothing is asked.
	for _, s := range strange() {
		replays(t, s, s)
	}
}

func TestReplayOfSome(t *testing.T) {
	s := state(3, 3, 7)
	a, b, c := commit(images(0, 1), op(0, 1)), commit([]api.Image{img(1, 98), img(2, 97)}, op(0, 10), op(1, 20), op(0, 10)), commit([]api.Image{img(0, 96)}, op(2, 5))
	one := withAdded(withImage(withImage(s, a.Images[0], 8), a.Images[1], 8), 0, 1, 8)
	two := withAdded(withAdded(withImage(withImage(one, b.Images[0], 20), b.Images[1], 20), 0, 20, 20), 1, 20, 20)
	three := withAdded(withImage(two, c.Images[0], 21), 2, 5, 21)
	replays(t, s, one, rec(8, a))
	replays(t, s, two, rec(8, a), rec(20, b))
	replays(t, s, three, rec(8, a), rec(20, b), rec(21, c))
	replays(t, s, three, rec(8, a), rec(9, mark()), rec(20, b), rec(20, commit(nil)), rec(21, c), rec(22, mark()))
	replays(t, s, one, rec(8, a), rec(8, commit(images(0, 1), op(0, 9))), rec(7, commit(images(0, 2), op(0, 9), op(1, 9))))
}

func TestReplayOfEndsThatDoNotRise(t *testing.T) {
	s := state(3, 3, 7)
	a, b := commit([]api.Image{img(1, 98)}, op(1, 5)), commit([]api.Image{img(1, 97)}, op(1, 60))
	replays(t, s, withAdded(withImage(s, a.Images[0], 9), 1, 5, 9), rec(9, a), rec(8, b))
	replays(t, s, withAdded(withImage(s, a.Images[0], 9), 1, 5, 9), rec(9, a), rec(9, b))
	replays(t, s, withAdded(withImage(s, b.Images[0], 10), 1, 65, 10), rec(9, a), rec(10, b))
	replays(t, s, s, rec(7, a), rec(6, b), rec(0, a))
	// In between, one of another block and counter goes by what these have.
	other := commit([]api.Image{img(0, 96)}, op(0, 1))
	replays(t, s, withAdded(withImage(withAdded(withImage(s, a.Images[0], 9), 1, 5, 9), other.Images[0], 8), 0, 1, 8), rec(9, a), rec(8, other))
}

// broken are records that can't be done to a state of three blocks and counters with the Lsn 7, and why.
func broken() map[api.Errno][]redo.Rec {
	l := map[api.Errno][]redo.Rec{api.ErrName: {rec(9, commit(images(3))), rec(0, commit(images(0, 255))), rec(lastLsn, commit(nil, op(0, 1), op(3, 1))), rec(9, commit(images(3), op(63, 1)))}}
	for _, end := range noLsns() {
		l[api.ErrArg] = append(l[api.ErrArg], rec(end, mark()), rec(end, commit(images(3), op(3, 1))))
	}
	for _, n := range odd() {
		l[api.ErrArg] = append(l[api.ErrArg], rec(9, n))
	}
	return l
}

// One with an error in the midst, whatever stands ahead of it and follows: the first one.
func TestReplayWithAnErrorInTheMidst(t *testing.T) {
	s := state(3, 3, 7)
	good := []redo.Rec{rec(8, commit(images(0), op(0, 1))), rec(9, mark()), rec(10, commit(images(1), op(1, 1)))}
	for e, l := range broken() {
		for _, bad := range l {
			for at := range len(good) + 1 {
				replayRefused(t, s, e, slices.Insert(slices.Clone(good), at, bad)...)
			}
			for other, more := range broken() {
				replayRefused(t, s, e, bad, more[0])
				replayRefused(t, s, other, more[0], bad)
				replayRefused(t, s, e, good[0], bad, good[1], more[1], good[2])
				replayRefused(t, s, other, good[0], more[1], good[1], bad, good[2])
			}
		}
	}
}

func TestReplayOfWhatMayNotBe(t *testing.T) {
	for _, s := range strange() {
		replayRefused(t, s, api.ErrArg, rec(8, mark()))
		replayRefused(t, s, api.ErrArg, rec(8, commit(images(255))), rec(9, mark()))
		replayRefused(t, s, api.ErrArg, rec(8, commit(images(0))), rec(-1, commit(nil)))
	}
}

// Replay is Apply of each, one behind the other.
func TestReplayIsApplyOfEach(t *testing.T) {
	for seed := range uint32(2000) {
		s, l := drawn(seed), drawnRecs(seed, 8)
		got, e := replay(t, s, l)
		want, wantErr := s, api.OK
		for _, r := range l {
			if want, wantErr = redo.Apply(want, r.End, r.N); wantErr != api.OK {
				break
			}
		}
		if !equal(got, want) || e != wantErr {
			t.Fatalf("Replay(%+v, %+v) = %+v, %v, but one by one %+v, %v", s, l, got, e, want, wantErr)
		}
		// From any place on, it goes on.
		for at := range len(l) + 1 {
			first, e := redo.Replay(s, l[:at])
			if e != api.OK {
				continue
			}
			if last, e := redo.Replay(first, l[at:]); !equal(last, want) || e != wantErr {
				t.Fatalf("Replay(%+v, %+v) is another one in two parts, of which the first one is of %d", s, l, at)
			}
		}
	}
}

func TestManyRecords(t *testing.T) {
	var l []redo.Rec
	for i := range 65536 {
		l = append(l, rec(i+1, commit([]api.Image{img(i%256, i)}, op(i%64, i))))
	}
	s, e := redo.Replay(state(256, 64, 0), l)
	if e != api.OK {
		t.Fatal(e)
	}
	for i, block := range s.Blocks {
		if at := 65536 - 256 + i; !bytes.Equal(block, text(at, 32)) || s.Lsns[i] != at+1 {
			t.Errorf("the block %d is %v, with the Lsn %d", i, block, s.Lsns[i])
		}
	}
	for i, c := range s.Cells {
		// Each is i, i + 64, i + 128 and so on: 1024 of them.
		want := 100*i - 70 + 1024*i + 64*1023*1024/2
		if c != (page.Cell{Value: want, Lsn: 65536 - 64 + i + 1}) {
			t.Errorf("the counter %d is %+v, want %d", i, c, want)
		}
	}
	l[65535].End = -1
	if s, e := redo.Replay(state(256, 64, 0), l); e != api.ErrArg || !nothing(s) {
		t.Error(e)
	}
}

// P19.4

func TestTouchedOfOneKind(t *testing.T) {
	touches(t, mark(), nil, nil)
	touches(t, commit(nil), nil, nil)
	touches(t, commit([]api.Image{}, []api.Op{}...), nil, nil)
	touches(t, commit(images(3, 7, 9)), []int{3, 7, 9}, nil)
	touches(t, commit(nil, op(3, 1), op(7, 0), op(9, -1)), nil, []int{3, 7, 9})
	touches(t, commit(images(0, 255), op(63, 1), op(0, 1)), []int{0, 255}, []int{0, 63})
	touches(t, commit(images(5), op(6, 1)), []int{5}, []int{6})
}

func TestTouchedOfSeveralTimes(t *testing.T) {
	touches(t, commit(images(1, 2), op(5, 1), op(3, 1), op(5, 2), op(3, 0), op(4, 1), op(5, -3)), []int{1, 2}, []int{3, 4, 5})
	touches(t, commit(images(9, 2, 9, 2, 2, 5, 9), op(5, 1)), []int{2, 5, 9}, []int{5})
	for at := range 256 {
		touches(t, commit(images(at, at), op(at, 1), op(at, 1)), []int{at}, []int{at})
	}
	for many := range 300 {
		want := []int{200}
		if many == 0 {
			want = nil
		}
		touches(t, commit(slices.Repeat(images(200), many), slices.Repeat([]api.Op{op(200, 1)}, many)...), want, want)
	}
}

func TestTouchedOfNumbersOfAnyKind(t *testing.T) {
	for _, a := range edges() {
		for _, b := range edges() {
			var want []int
			for _, n := range []int{min(a, b), max(a, b)} {
				if 0 <= n && n <= 255 && !slices.Contains(want, n) {
					want = append(want, n)
				}
			}
			touches(t, commit(images(a, b), op(b, 1), op(a, 1)), want, want)
			touches(t, commit(images(a), op(b, 1)), plainOne(a), plainOne(b))
		}
	}
	for n := -300; n <= 600; n++ {
		touches(t, commit(images(n)), plainOne(n), nil)
		touches(t, commit(nil, op(n, 1)), nil, plainOne(n))
	}
}

// plainOne is a number that stands alone, if it is one of those that are told.
func plainOne(n int) []int {
	if n < 0 || n > 255 {
		return nil
	}
	return []int{n}
}

// Each of all blocks and counters, in any order.
func TestTouchedOfAll(t *testing.T) {
	all, ops := row(-5, 300), adds(300, 300, 1)
	var want []int
	for i := range 256 {
		want = append(want, i)
	}
	touches(t, commit(all, ops...), want, want)
	slices.Reverse(all)
	slices.Reverse(ops)
	touches(t, commit(all, ops...), want, want)
	touches(t, commit(row(0, 256), adds(256, 64, 1)...), want, want[:64])
	for seed := range uint32(500) {
		var n note.Note
		x := script(seed, 300)
		for _, b := range x[:int(x[0])] {
			n.Images = append(n.Images, api.Image{Block: int(b)})
			n.Ops = append(n.Ops, op(int(b)*2-200, 1))
		}
		touched(t, n)
	}
}

// Whatever else a note has counts for nothing: what kind it is, how long its images are, whether it is Sane.
func TestTouchedOfWhatMayNotBe(t *testing.T) {
	for _, kind := range edges() {
		for _, seq := range []int{-1, 0, lastSeq + 1} {
			touches(t, note.Note{Kind: kind, Seq: seq, Images: images(4, 2, 256), Ops: []api.Op{op(200, 1), op(-1, 1), op(64, 1)}}, []int{2, 4}, []int{64, 200})
		}
	}
	touches(t, note.Note{Images: []api.Image{{Block: 3}, {Block: 2, Data: text(1, 33)}}}, []int{2, 3}, nil)
	for _, n := range append(odd(), whole()...) {
		touched(t, n)
	}
}

func TestSameOfOne(t *testing.T) {
	for i, s := range append(sound(), strange()...) {
		if !same(t, s, s) || !same(t, s, cloned(s)) {
			t.Errorf("%+v is not the same as itself", s)
		}
		for _, other := range append(sound(), strange()...)[:i] {
			same(t, s, other)
		}
	}
	if !same(t, redo.State{}, redo.State{}) || !same(t, redo.State{}, redo.State{Blocks: [][]byte{}, Lsns: []int{}, Cells: []page.Cell{}}) {
		t.Error("nothing is not the same as itself")
	}
}

// differs checks that two states are not the same, whichever comes first.
func differs(t *testing.T, a, b redo.State) {
	t.Helper()
	if same(t, a, b) || same(t, b, a) {
		t.Errorf("%+v is the same as %+v", a, b)
	}
}

func TestSameOfOtherNumbers(t *testing.T) {
	for _, many := range []int{0, 1, 2, 3, 31, 63, 64, 255, 256, 300} {
		for _, other := range []int{0, 1, 2, 3, 31, 63, 64, 255, 256, 300} {
			if many != other {
				differs(t, state(many, 3, 7), state(other, 3, 7))
				differs(t, state(3, many, 7), state(3, other, 7))
				zero, zeroOther := redo.State{Blocks: make([][]byte, many)}, redo.State{Blocks: make([][]byte, other)}
				differs(t, zero, zeroOther)
				differs(t, redo.State{Cells: make([]page.Cell, many)}, redo.State{Cells: make([]page.Cell, other)})
			}
		}
	}
	differs(t, state(0, 3, 7), state(3, 0, 7))
}

func TestSameOfAnotherByte(t *testing.T) {
	s := state(256, 64, 7)
	for at := range 256 {
		for i := range 32 {
			other := withBlock(s, at, with(s.Blocks[at], i, s.Blocks[at][i]^(1<<(i%8))))
			if redo.Same(s, other) || redo.Same(other, s) {
				t.Errorf("the byte %d of the block %d doesn't count", i, at)
			}
		}
	}
	for at := range 3 {
		for i := range 32 {
			differs(t, state(3, 3, 7), withBlock(state(3, 3, 7), at, with(text(at, 32), i, 0)))
		}
	}
	for _, n := range []int{0, 31, 33} {
		differs(t, state(3, 3, 7), withBlock(state(3, 3, 7), 1, text(1, n)))
	}
	// The same blocks, in another order.
	differs(t, s, redo.State{Blocks: slices.Concat(s.Blocks[1:], s.Blocks[:1]), Lsns: s.Lsns, Cells: s.Cells})
}

func TestSameOfAnotherValue(t *testing.T) {
	s := state(256, 64, 7)
	for at := range 64 {
		for bit := range 64 {
			other := withCell(s, at, s.Cells[at].Value^(1<<bit), 7)
			if redo.Same(s, other) || redo.Same(other, s) {
				t.Errorf("the bit %d of the counter %d doesn't count", bit, at)
			}
		}
		differs(t, s, withAdded(s, at, 1, 7))
	}
	differs(t, s, redo.State{Blocks: s.Blocks, Lsns: s.Lsns, Cells: slices.Concat(s.Cells[1:], s.Cells[:1])})
	differs(t, withCell(s, 5, least, 7), withCell(s, 5, most, 7))
	differs(t, withCell(s, 5, 0, 1), withCell(s, 5, 1, 0))
}

// Whatever the Lsns are, and however many.
func TestSameOfOtherLsns(t *testing.T) {
	for _, x := range [][2]int{{0, 0}, {1, 0}, {0, 1}, {3, 3}, {256, 64}} {
		s := state(x[0], x[1], 7)
		for _, lsn := range append(lsns(), noLsns()...) {
			if !same(t, s, state(x[0], x[1], lsn)) {
				t.Errorf("%+v is another one with the Lsn %d", s, lsn)
			}
		}
		for _, many := range []int{0, 1, 3, 256, 300} {
			other := s
			other.Lsns = zeroLsns(many)
			if !same(t, s, other) {
				t.Errorf("%+v is another one with %d Lsns", s, many)
			}
		}
	}
	s := state(3, 3, 7)
	for at := range 3 {
		if !same(t, s, withLsn(s, at, 9)) || !same(t, s, withCell(s, at, s.Cells[at].Value, 9)) {
			t.Errorf("%+v is another one with the Lsn 9 at %d", s, at)
		}
	}
}

// P19.5

// script is bytes of any kind, the same ones for a seed.
func script(seed uint32, n int) []byte {
	b := make([]byte, n)
	seed = seed*2654435761 + 12345
	for i := range b {
		seed = seed*1664525 + 1013904223
		b[i] = byte(seed >> 24)
	}
	return b
}

// number is what eight bytes tell, of more or fewer digits.
func number(b []byte) int {
	v := 0
	for i, x := range b[:8] {
		v += int(x) << (8 * i)
	}
	return v >> (b[8] % 64)
}

// drawn is a state that may be, of at most 8 blocks and counters, and Lsns up to 31.
func drawn(seed uint32) redo.State {
	x := script(seed, 200)
	s := state(int(x[0])%9, int(x[1])%9, 0)
	for i := range s.Lsns {
		s.Lsns[i] = int(x[2+i]) % 32
	}
	for i := range s.Cells {
		s.Cells[i] = page.Cell{Value: number(x[20+9*i:]), Lsn: int(x[12+i]) % 32}
	}
	return s
}

// drawnNote is one that may be, of so many blocks and counters.
func drawnNote(seed uint32, blocks, counters int) note.Note {
	x := script(seed+99, 200)
	if x[0]%8 == 0 {
		return note.Note{Kind: note.Mark, Seq: int(x[1])}
	}
	n := note.Note{Kind: note.Commit, Seq: int(x[1])}
	for i := range blocks {
		if x[2+i%20]%3 == 0 {
			n.Images = append(n.Images, img(i, int(seed)+int(x[30+i%20])))
		}
	}
	for i := range int(x[50]) % 12 {
		if counters > 0 {
			n.Ops = append(n.Ops, op(int(x[51+i])%counters, number(x[70+9*i:])))
		}
	}
	return n
}

// drawnRecs are at most 8, of at most so many blocks and counters, with Ends of any kind up to 31.
func drawnRecs(seed uint32, many int) []redo.Rec {
	x := script(seed+55555, 40)
	var l []redo.Rec
	for i := range int(x[0]) % 9 {
		l = append(l, rec(int(x[1+i])%32, drawnNote(seed*9+uint32(i), int(x[10+i])%(many+1), int(x[20+i])%(many+1))))
	}
	return l
}

// rising are records of a state, whose Ends rise from at least 1 on.
func rising(seed uint32, s redo.State, many int) []redo.Rec {
	x := script(seed+777777, many)
	end := int(x[0]) % 4
	var l []redo.Rec
	for i := range many {
		end += 1 + int(x[i])%5
		l = append(l, rec(end, drawnNote(seed*31+uint32(i), len(s.Blocks), len(s.Cells))))
	}
	return l
}

func must(t *testing.T, s redo.State, l ...redo.Rec) redo.State {
	t.Helper()
	got, e := redo.Replay(s, l)
	if e != api.OK {
		t.Fatalf("Replay(%+v, %+v) = %v", s, l, e)
	}
	return got
}

// Applied again nothing changes, nor with an End below.
func TestAppliedAgain(t *testing.T) {
	for seed := range uint32(3000) {
		s := drawn(seed)
		for i, r := range rising(seed, s, 4) {
			one := must(t, s, r)
			for end := max(0, r.End-2); end <= r.End; end++ {
				becomes(t, one, end, r.N, one)
			}
			if i%2 == 0 {
				s = one
			}
		}
	}
	s := state(256, 64, 0)
	full := commit(row(0, 256), adds(256, 64, 5)...)
	for _, end := range []int{1, 2, lastLsn - 1, lastLsn} {
		one := must(t, s, rec(end, full))
		becomes(t, one, end, full, one)
		replays(t, s, one, rec(end, full), rec(end, full), rec(end, full))
		becomes(t, one, 0, full, one)
	}
}

// all are the states on the way, from the first one to the last one.
func all(t *testing.T, s redo.State, l []redo.Rec) []redo.State {
	t.Helper()
	way := []redo.State{s}
	for _, r := range l {
		way = append(way, must(t, way[len(way)-1], r))
	}
	return way
}

// A replay from any state on the way ends in the same.
func TestReplayFromAnyStateOnTheWay(t *testing.T) {
	for seed := range uint32(1500) {
		s := drawn(seed)
		l := rising(seed, s, 7)
		way := all(t, s, l)
		want := way[len(l)]
		for at, on := range way {
			replays(t, on, want, l...)
			for from := range at + 1 {
				if got := must(t, on, l[from:]...); !equal(got, want) {
					t.Fatalf("%+v, from the state behind %d and the record %d on, ends in %+v, not in %+v", l, at, from, got, want)
				}
			}
			if got := must(t, must(t, on, l...), l...); !equal(got, want) || !redo.Same(got, want) {
				t.Fatalf("%+v done twice from the state behind %d ends in %+v, not in %+v", l, at, got, want)
			}
		}
	}
}

// mixed has each block and each counter from one of the states on the way.
func mixed(way []redo.State, x []byte) redo.State {
	s := cloned(way[0])
	for i := range s.Blocks {
		from := way[int(x[i%len(x)])%len(way)]
		s.Blocks[i], s.Lsns[i] = from.Blocks[i], from.Lsns[i]
	}
	for i := range s.Cells {
		s.Cells[i] = way[int(x[(7*i+3)%len(x)])%len(way)].Cells[i]
	}
	return s
}

// So does one from a state of which some blocks or counters are further on than others.
func TestReplayWhereSomeAreFurtherOn(t *testing.T) {
	for seed := range uint32(1500) {
		s := drawn(seed)
		l := rising(seed, s, 6)
		way := all(t, s, l)
		for i := range uint32(10) {
			on := mixed(way, script(seed*17+i, 60))
			replays(t, on, way[len(l)], l...)
		}
	}
	s := state(256, 64, 0)
	var l []redo.Rec
	for i := range 6 {
		x := row(i*40, 56)
		for j := range x {
			x[j].Data = text(i*77+j, 32)
		}
		l = append(l, rec(10*i+5, commit(x, adds(256, 20+8*i, i)...)))
	}
	way := all(t, s, l)
	for seed := range uint32(60) {
		replays(t, mixed(way, script(seed, 256)), way[6], l...)
	}
}

// Each mix that there is, of one block and two counters.
func TestEachMix(t *testing.T) {
	s := state(1, 2, 3)
	l := []redo.Rec{rec(3, commit(images(0), op(0, 1))), rec(4, commit([]api.Image{img(0, 91)}, op(1, 5), op(1, 5))), rec(6, commit(nil, op(0, 9), op(1, -3), op(0, 9))), rec(7, mark()), rec(9, commit([]api.Image{img(0, 92)}, op(0, most)))}
	way := all(t, s, l)
	if last := way[len(l)]; last.Lsns[0] != 9 || last.Cells[0] != (page.Cell{Value: -70 + 18 + most, Lsn: 9}) || last.Cells[1] != (page.Cell{Value: 37, Lsn: 6}) {
		t.Fatal(last)
	}
	for block := range way {
		for one := range way {
			for two := range way {
				on := redo.State{Blocks: way[block].Blocks, Lsns: way[block].Lsns, Cells: []page.Cell{way[one].Cells[0], way[two].Cells[1]}}
				replays(t, on, way[len(l)], l...)
			}
		}
	}
}

// P1

// anyState is one of any kind, by bytes: how many blocks and counters, what is wrong with it, and the Lsns.
func anyState(b []byte) redo.State {
	b = append(slices.Clone(b), zeros(3)...)
	s := state(int(b[0])%12, int(b[1])%12, 0)
	for i, x := range b[3:] {
		if len(s.Lsns) > 0 {
			s.Lsns[i%len(s.Lsns)] = int(x) / 16
		}
		if len(s.Cells) > 0 {
			s.Cells[i%len(s.Cells)] = page.Cell{Value: (int(x) - 128) << (x % 60), Lsn: int(x) % 16}
		}
	}
	switch b[2] % 32 {
	case 1:
		s.Lsns = append(s.Lsns, 0)
	case 2:
		s.Lsns = s.Lsns[:len(s.Lsns)/2]
	case 3:
		s.Blocks = append(s.Blocks, nil)
	case 4:
		s.Blocks, s.Lsns = append(s.Blocks, text(1, 33)), append(s.Lsns, 0)
	case 5:
		s.Blocks, s.Lsns = append(s.Blocks, text(1, 32)), append(s.Lsns, -1)
	case 6:
		s.Cells = append(s.Cells, page.Cell{Lsn: lastLsn + 1})
	}
	return s
}

// anyNote is one of any kind, by bytes: what is wrong with it, which blocks it has images of, and the counters of its ops.
func anyNote(b []byte) note.Note {
	b = append(slices.Clone(b), zeros(2)...)
	n := note.Note{Kind: note.Commit, Seq: int(b[0])}
	for i := range 8 {
		if b[1]&b[0]>>i&1 == 1 {
			n.Images = append(n.Images, img(i-int(b[0])/250*i/2, i+int(b[0])))
		}
	}
	for i, x := range b[2:] {
		n.Ops = append(n.Ops, op(int(x)%64/10, (int(x)-128)<<(i*9%60)))
	}
	switch b[0] % 32 {
	case 1, 2, 3:
		n.Kind = note.Mark
	case 4, 5, 6:
		n = note.Note{Kind: note.Mark, Seq: 5}
	case 7:
		n.Seq = lastSeq + 1
	case 8:
		n.Images = append(n.Images, api.Image{Block: 200})
	case 9:
		n.Ops = append(n.Ops, op(64, 5))
	case 10:
		n.Ops = append(n.Ops, op(-1, 5))
	}
	return n
}

func TestThingsOfAnyKind(t *testing.T) {
	count := map[api.Errno]int{}
	for seed := range uint32(10000) {
		x := script(seed+1<<20, 60)
		s, n := anyState(x[:3+x[59]%8]), anyNote(x[20:22+x[58]%8])
		sane(t, s)
		touched(t, n)
		same(t, s, anyState(x[1:6]))
		_, e := apply(t, s, int(x[57])/16, n)
		count[e]++
		_, e = replay(t, s, []redo.Rec{rec(int(x[55])/16, n), rec(int(x[56])/8, anyNote(x[30:32+x[54]%4])), rec(7, mark())})
		count[e]++
		apply(t, s, number(x[40:49]), n)
	}
	if count[api.OK] < 2000 || count[api.ErrName] < 2000 || count[api.ErrArg] < 2000 {
		t.Error(count)
	}
}

func TestNumbersOfAnyKind(t *testing.T) {
	for _, a := range append(edges(), lastLsn-1, lastLsn, lastLsn+1, lastSeq+1) {
		for _, b := range append(edges(), lastLsn-1, lastLsn, lastLsn+1, lastSeq+1) {
			s := withCell(withLsn(state(3, 3, 7), 1, a), 2, a, b)
			sane(t, s)
			touched(t, commit(images(a, b), op(a, b), op(b, a)))
			for _, n := range []note.Note{commit(images(b)), commit(nil, op(b, a)), commit(images(1), op(2, b)), {Kind: note.Commit, Seq: b}, {Kind: b, Seq: a}} {
				apply(t, state(3, 3, 7), a, n)
				apply(t, s, b, n)
				replay(t, s, []redo.Rec{rec(a, mark()), rec(b, n)})
			}
		}
	}
}

func TestNilOfEverything(t *testing.T) {
	for _, s := range []redo.State{{}, {Blocks: make([][]byte, 1)}, {Lsns: zeroLsns(1)}, {Cells: make([]page.Cell, 1)}, {Blocks: make([][]byte, 1), Lsns: zeroLsns(1)}, {Blocks: make([][]byte, 300), Cells: make([]page.Cell, 300)}} {
		for _, n := range []note.Note{{}, {Kind: note.Commit}, {Kind: note.Mark}, {Kind: note.Commit, Images: make([]api.Image, 2)}, {Kind: note.Commit, Images: make([]api.Image, 1)}, {Kind: note.Commit, Ops: make([]api.Op, 1)}} {
			sane(t, s)
			same(t, s, redo.State{})
			apply(t, s, 0, n)
			apply(t, s, 5, n)
			replay(t, s, nil)
			replay(t, s, make([]redo.Rec, 2))
			replay(t, s, []redo.Rec{rec(1, n), {}})
			touched(t, n)
		}
	}
}

func TestLargeThings(t *testing.T) {
	many := redo.State{Blocks: slices.Repeat([][]byte{zeros(32)}, 1<<20), Lsns: zeroLsns(1 << 20), Cells: make([]page.Cell, 1<<20)}
	long := redo.State{Blocks: [][]byte{zeros(1 << 24)}, Lsns: zeroLsns(1)}
	for _, s := range []redo.State{many, {Cells: many.Cells}, {Lsns: many.Lsns}, {Blocks: many.Blocks}, long} {
		got, e := redo.Apply(s, 5, commit(images(0)))
		if redo.Sane(s) || e != api.ErrArg || !nothing(got) || !redo.Same(s, s) || len(s.Blocks) > 0 && redo.Same(s, redo.State{}) {
			t.Error(len(s.Blocks), len(s.Lsns), len(s.Cells), e)
		}
		if got, e := redo.Replay(s, slices.Repeat([]redo.Rec{rec(5, mark())}, 1000)); e != api.ErrArg || !nothing(got) {
			t.Error(len(s.Blocks), len(s.Lsns), len(s.Cells), e)
		}
	}
	big := note.Note{Kind: note.Commit, Images: slices.Repeat([]api.Image{{Block: 9}}, 1<<20), Ops: slices.Repeat([]api.Op{op(7, 1)}, 1<<20)}
	if s, e := redo.Apply(state(256, 64, 0), 5, big); e != api.ErrArg || !nothing(s) {
		t.Error(e)
	}
	touches(t, big, []int{9}, []int{7})
}

// What is kept: nothing.

func TestNothingIsKept(t *testing.T) {
	s, n := state(3, 3, 7), commit(images(1), op(2, 5), op(2, 6))
	one, _ := redo.Apply(s, 8, n)
	want := cloned(one)
	blank, _ := redo.New(3, 3)
	blocks, counters := redo.Touched(n)
	for range 3 {
		redo.Apply(state(256, 64, 0), 5, commit(row(0, 256), adds(256, 64, 3)...))
		redo.Apply(s, 9, commit(images(3)))
		redo.Apply(s, -1, n)
		redo.Replay(s, []redo.Rec{rec(9, n), rec(10, commit(nil, op(2, 100)))})
		redo.New(256, 64)
		redo.Touched(commit(row(0, 256), adds(256, 64, 3)...))
		if !equal(one, want) || !equal(blank, redo.State{Blocks: [][]byte{zeros(32), zeros(32), zeros(32)}, Lsns: zeroLsns(3), Cells: make([]page.Cell, 3)}) {
			t.Fatal(one, blank)
		}
		if !slices.Equal(blocks, []int{1}) || !slices.Equal(counters, []int{2}) {
			t.Fatal(blocks, counters)
		}
		becomes(t, s, 8, n, want)
	}
}

func TestAnswersShareNone(t *testing.T) {
	s, n := state(3, 3, 7), commit(images(1), op(2, 5))
	l := []redo.Rec{rec(8, n), rec(9, commit(images(0, 1)))}
	one, _ := redo.Apply(s, 8, n)
	two, _ := redo.Apply(s, 8, n)
	want := cloned(two)
	scribble(one)
	if !equal(two, want) {
		t.Error("two answers of Apply share memory")
	}
	apart(t, two)
	one, _ = redo.Replay(s, l)
	two, _ = redo.Replay(s, l)
	want = cloned(two)
	scribble(one)
	if !equal(two, want) {
		t.Error("two answers of Replay share memory")
	}
	apart(t, two)
	first, _ := redo.Touched(n)
	second, _ := redo.Touched(n)
	first[0] = 9
	if second[0] != 1 {
		t.Error("two answers of Touched share memory")
	}
}

// Two blocks that become images of the same bytes are apart.
func TestImagesOfTheSameBytes(t *testing.T) {
	data := text(3, 32)
	l := []api.Image{{Block: 0, Data: data}, {Block: 1, Data: data}, {Block: 2, Data: data}}
	got, e := redo.Apply(state(3, 0, 7), 8, commit(l))
	if e != api.OK || !bytes.Equal(got.Blocks[0], data) || !bytes.Equal(got.Blocks[2], data) {
		t.Fatal(got, e)
	}
	apart(t, got)
	got, _ = redo.Replay(state(3, 0, 7), []redo.Rec{rec(8, commit(l[:2])), rec(9, commit(l[2:]))})
	apart(t, got)
	scribble(got)
	if !bytes.Equal(data, text(3, 32)) {
		t.Error(data)
	}
}

// The chapter's example.

func TestTheExample(t *testing.T) {
	s := withLsn(state(3, 3, 0), 1, 7)
	becomes(t, s, 7, commit(images(1)), s)
	becomes(t, s, 8, commit([]api.Image{img(1, 99)}), withImage(s, img(1, 99), 8))
}

func ExampleApply() {
	s, _ := redo.New(1, 1)
	n := note.Note{Kind: note.Commit, Images: []api.Image{{Block: 0, Data: bytes.Repeat([]byte{9}, 32)}}, Ops: []api.Op{{Counter: 0, By: 2}, {Counter: 0, By: 3}}}
	s, e := redo.Apply(s, 7, n)
	fmt.Println(s.Blocks[0][0], s.Lsns, s.Cells, e == api.OK)
	n.Images[0].Data = make([]byte, 32)
	s, e = redo.Apply(s, 7, n)
	fmt.Println(s.Blocks[0][0], s.Lsns, s.Cells, e == api.OK)
	// Output:
	// 9 [7] [{5 7}] true
	// 9 [7] [{5 7}] true
}

// FuzzApply: states, notes and Ends of any kind.
func FuzzApply(f *testing.F) {
	f.Add(7, []byte{3, 3, 5, 0}, []byte{0, 7, 1, 130, 1, 2, 2, 1})
	f.Add(0, []byte{3, 3, 5, 0}, []byte{0, 7, 1, 130, 1, 2, 2, 1})
	f.Add(lastLsn, []byte{0, 0, 0, 0}, []byte{5, 7, 0, 0})
	f.Add(-1, []byte{5, 5, 1, 1, 0, 1}, []byte{0, 0, 255, 255, 7, 7})
	f.Add(lastLsn+1, []byte{}, []byte{})
	f.Fuzz(func(t *testing.T, end int, b, c []byte) {
		s, n := anyState(b), anyNote(c)
		sane(t, s)
		touched(t, n)
		got, e := apply(t, s, end, n)
		if e == api.OK {
			becomes(t, got, end, n, got)
			same(t, s, got)
		}
		replay(t, s, []redo.Rec{rec(end, n), rec(7, n), rec(8, anyNote(b))})
	})
}

// FuzzReplay: records with rising Ends, from states on the way, and mixes of these.
func FuzzReplay(f *testing.F) {
	for seed := range uint32(8) {
		f.Add(seed, int(seed), script(seed, 20))
	}
	f.Add(uint32(9), 40, []byte{})
	f.Fuzz(func(t *testing.T, seed uint32, many int, x []byte) {
		if many < 1 || many > 40 {
			return
		}
		s := drawn(seed)
		l := rising(seed, s, many)
		way := all(t, s, l)
		replays(t, mixed(way, append(x, 0)), way[many], l...)
	})
}

// FuzzNew: numbers of any kind.
func FuzzNew(f *testing.F) {
	f.Add(0, 0)
	f.Add(256, 64)
	f.Add(257, 65)
	f.Fuzz(func(t *testing.T, blocks, counters int) { newState(t, blocks, counters) })
}
