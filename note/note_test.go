package note_test

import (
	"bytes"
	"encoding/binary"
	"fmt"
	"maps"
	"math"
	"slices"
	"testing"

	"heronry/api"
	"heronry/note"
)

const (
	least   = math.MinInt
	most    = math.MaxInt
	lastSeq = 1_099_511_627_776 // 2^40
	manySeq = 1<<48 - 1         // as much as six bytes tell
	someSeq = 0xA0B0C0D0E       // whose low bytes are all unlike
)

// Where each thing stands in a note without images.
const (
	seqAt    = 1
	imagesAt = 7
	opsAt    = 9
)

func zeros(n int) []byte { return make([]byte, n) }

// text is as many bytes, which hang on a seed, and of which neighbours are unlike.
func text(seed, n int) []byte {
	b := make([]byte, n)
	for i := range b {
		b[i] = byte(seed*31 + i*7 + i>>5 + 1)
	}
	return b
}

// img is an image of a block.
func img(block, seed int) api.Image { return api.Image{Block: block, Data: text(seed, 32)} }

// row is as many images, whose blocks rise from one on.
func row(from, many int) []api.Image {
	l := make([]api.Image, many)
	for i := range l {
		l[i] = img(from+i, from+3*i)
	}
	return l
}

// blocks are images of these blocks, as they are.
func blocks(l ...int) []api.Image {
	images := make([]api.Image, len(l))
	for i, block := range l {
		images[i] = img(block, i+block)
	}
	return images
}

func op(counter, by int) api.Op { return api.Op{Counter: counter, By: by} }

// adds is as many ops, of each counter in turn.
func adds(many, seed int) []api.Op {
	l := make([]api.Op, many)
	for i := range l {
		l[i] = op(i%64, (i-many/2)*(seed*1_000_003+1))
	}
	return l
}

// commit is a note of that kind, with the Seq 7.
func commit(images []api.Image, ops []api.Op) note.Note {
	return note.Note{Kind: note.Commit, Seq: 7, Images: images, Ops: ops}
}

func mark(seq int) note.Note { return note.Note{Kind: note.Mark, Seq: seq} }

// edges are numbers at the bounds of all that a note has, and of what tells them.
func edges() []int {
	return []int{
		least, least + 1, -1 << 48, -lastSeq, -1 << 32, -65536, -257, -256, -255, -3, -2, -1,
		0, 1, 2, 3, 62, 63, 64, 65, 127, 128, 254, 255, 256, 257, 258, 511, 512, 65535, 65536,
		1<<32 - 1, 1 << 32, 1<<32 + 1, someSeq, lastSeq - 1, lastSeq, lastSeq + 1, manySeq, manySeq + 1, manySeq + 2, most - 1, most,
	}
}

// numbers are as many, from one on.
func numbers(from, many int) []int {
	l := make([]int, many)
	for i := range l {
		l[i] = from + i
	}
	return l
}

// seqs may be.
func seqs() []int {
	return []int{0, 1, 2, 3, 255, 256, 65535, 65536, 1<<32 - 1, 1 << 32, someSeq, lastSeq - 1, lastSeq}
}

// noSeqs may not be.
func noSeqs() []int {
	return []int{-1, -2, -lastSeq, -lastSeq - 1, -1 << 48, least, least + 1, lastSeq + 1, lastSeq + 2, 2 * lastSeq, manySeq, manySeq + 1, 1<<48 + 5, 1 << 62, most - 1, most}
}

// bys may all be.
func bys() []int {
	return []int{least, least + 1, -1 << 32, -258, -2, -1, 0, 1, 2, 258, 1 << 32, 0x0102030405060708, most - 1, most}
}

// whole are notes that may be: with none, one, some and all of each.
func whole() []note.Note {
	l := []note.Note{mark(0), mark(3), mark(lastSeq), commit(nil, nil), commit([]api.Image{}, []api.Op{})}
	for _, images := range [][]api.Image{nil, row(0, 1), row(255, 1), blocks(0, 7, 255), row(100, 20), row(0, 256)} {
		for _, ops := range [][]api.Op{nil, {op(0, 0)}, {op(63, least), op(63, most), op(0, -1)}, adds(30, 5), adds(256, 9)} {
			n := commit(images, ops)
			n.Seq = seqs()[len(l)%len(seqs())]
			l = append(l, n)
		}
	}
	for _, seq := range seqs() {
		l = append(l, mark(seq), note.Note{Kind: note.Commit, Seq: seq, Images: blocks(5), Ops: []api.Op{op(5, seq)}})
	}
	return l
}

// small are those of whole that have not many bytes.
func small() []note.Note {
	return slices.DeleteFunc(whole(), func(n note.Note) bool { return len(laid(n)) > 400 })
}

// with is a list with one thing in place of what stands at a place.
func with[T any](l []T, at int, v T) []T {
	l = slices.Clone(l)
	l[at] = v
	return l
}

// strange are notes that may not be, each for one thing's sake.
func strange() []note.Note {
	l := []note.Note{{}, {Seq: 5}, {Images: row(0, 1)}}
	for _, seq := range noSeqs() {
		l = append(l, mark(seq), note.Note{Kind: note.Commit, Seq: seq}, note.Note{Kind: note.Commit, Seq: seq, Images: row(0, 1), Ops: adds(1, 1)})
	}
	for _, kind := range edges() {
		if kind != note.Commit && kind != note.Mark {
			l = append(l, note.Note{Kind: kind}, note.Note{Kind: kind, Seq: 1, Images: row(3, 2), Ops: adds(2, 1)})
		}
	}
	for _, images := range noImages() {
		l = append(l, commit(images, nil), commit(images, adds(2, 1)))
	}
	for _, ops := range noOps() {
		l = append(l, commit(nil, ops), commit(row(0, 2), ops))
	}
	l = append(l, note.Note{Kind: note.Mark, Images: row(0, 1)}, note.Note{Kind: note.Mark, Ops: adds(1, 1)})
	return append(l, note.Note{Kind: note.Mark, Images: row(0, 256), Ops: adds(256, 1)})
}

// noImages may not be.
func noImages() [][]api.Image {
	l := [][]api.Image{row(0, 257), row(-1, 257), row(-1, 1), row(256, 1), row(-1, 256), row(1, 256), blocks(5, 5), blocks(6, 5), blocks(0, 255, 0), blocks(1, 2, 2, 3), {{}}}
	for _, n := range []int{0, 1, 31, 33, 64} {
		l = append(l, []api.Image{{Block: 5, Data: text(1, n)}}, with(row(0, 256), 255, api.Image{Block: 255, Data: text(1, n)}))
	}
	return l
}

// noOps may not be.
func noOps() [][]api.Op {
	l := [][]api.Op{adds(257, 1), adds(65536, 1), with(adds(256, 1), 255, op(64, 0)), with(adds(256, 1), 0, op(-1, 0))}
	for _, counter := range edges() {
		if counter < 0 || counter > 63 {
			l = append(l, []api.Op{op(counter, 1)}, []api.Op{op(1, 1), op(counter, 1)})
		}
	}
	return l
}

// The plain ones.

func plainSane(n note.Note) bool {
	if n.Kind != 1 && n.Kind != 2 || n.Seq < 0 || n.Seq > lastSeq || len(n.Images) > 256 || len(n.Ops) > 256 {
		return false
	}
	above := -1
	for _, image := range n.Images {
		if image.Block <= above || image.Block > 255 || len(image.Data) != 32 {
			return false
		}
		above = image.Block
	}
	for _, op := range n.Ops {
		if op.Counter < 0 || op.Counter > 63 {
			return false
		}
	}
	return n.Kind == 1 || len(n.Images)+len(n.Ops) == 0
}

// low are a number's low bytes, the lowest first.
func low(v, n int) []byte { return binary.LittleEndian.AppendUint64(nil, uint64(v))[:n] }

// laid are a note's bytes, whether it may be or not, made without the layers below.
func laid(n note.Note) []byte {
	l := [][]byte{{byte(n.Kind)}, low(n.Seq, 6), low(len(n.Images), 2)}
	for _, image := range n.Images {
		l = append(l, []byte{byte(image.Block)}, image.Data)
	}
	l = append(l, low(len(n.Ops), 2))
	for _, op := range n.Ops {
		l = append(l, []byte{byte(op.Counter)}, low(op.By, 8))
	}
	return slices.Concat(l...)
}

func plainEncode(n note.Note) ([]byte, api.Errno) {
	if !plainSane(n) {
		return nil, api.ErrArg
	}
	return laid(n), api.OK
}

// number is what bytes tell, the lowest first; below 0, if there are eight and the highest bit is 1.
func number(b []byte) int {
	v := 0
	for i, x := range b {
		v += int(x) << (8 * i)
	}
	return v
}

// plainDecode holds how many bytes there are against what each number asks for, all at once.
func plainDecode(b []byte) (note.Note, api.Errno) {
	if len(b) < 9 {
		return note.Note{}, api.ErrShort
	}
	n := note.Note{Kind: int(b[0]), Seq: number(b[1:7])}
	images := number(b[7:9])
	if b = b[9:]; images > 256 {
		return note.Note{}, api.ErrForm
	}
	if len(b) < images*33+2 {
		return note.Note{}, api.ErrShort
	}
	for range images {
		n.Images = append(n.Images, api.Image{Block: int(b[0]), Data: b[1:33]})
		b = b[33:]
	}
	ops := number(b[:2])
	if b = b[2:]; ops > 256 {
		return note.Note{}, api.ErrForm
	}
	if len(b) < ops*9 {
		return note.Note{}, api.ErrShort
	}
	for range ops {
		n.Ops = append(n.Ops, op(int(b[0]), number(b[1:9])))
		b = b[9:]
	}
	if len(b) > 0 || !plainSane(n) {
		return note.Note{}, api.ErrForm
	}
	return n, api.OK
}

func plainMerge(a, b note.Note) (note.Note, api.Errno) {
	if !plainSane(a) || !plainSane(b) || a.Kind != 1 || b.Kind != 1 {
		return note.Note{}, api.ErrArg
	}
	if len(a.Ops)+len(b.Ops) > 256 {
		return note.Note{}, api.ErrLimit
	}
	of := map[int]api.Image{}
	for _, image := range append(slices.Clone(a.Images), b.Images...) {
		of[image.Block] = image
	}
	both := note.Note{Kind: 1, Seq: b.Seq, Ops: append(slices.Clone(a.Ops), b.Ops...)}
	for _, block := range slices.Sorted(maps.Keys(of)) {
		both.Images = append(both.Images, of[block])
	}
	return both, api.OK
}

// What notes and bytes are, and what memory they have.

func sameImage(a, b api.Image) bool { return a.Block == b.Block && bytes.Equal(a.Data, b.Data) }

func same(a, b note.Note) bool {
	return a.Kind == b.Kind && a.Seq == b.Seq && slices.EqualFunc(a.Images, b.Images, sameImage) && slices.Equal(a.Ops, b.Ops)
}

// nothing: is that the zero value?
func nothing(n note.Note) bool {
	return n.Kind == 0 && n.Seq == 0 && n.Images == nil && n.Ops == nil
}

// room is a list with more behind it, which is looked at again. nil stays so.
func room[T any](l []T, more ...T) []T {
	if l == nil {
		return nil
	}
	return slices.Concat(l, more)[:len(l)]
}

// roomy is a note in memory of its own, with room behind each of its lists.
func roomy(n note.Note) note.Note {
	n.Images = room(n.Images, img(44, 44), api.Image{Block: 45, Data: text(45, 5)})
	for i, image := range n.Images[:cap(n.Images)] {
		n.Images[:cap(n.Images)][i].Data = room(image.Data, text(77, 40)...)
	}
	n.Ops = room(n.Ops, op(3, 33), op(4, 44))
	return n
}

// rooms is a note as it stands in memory, with all that is behind its lists.
func rooms(n note.Note) note.Note {
	n.Images, n.Ops = slices.Clone(n.Images[:cap(n.Images)]), n.Ops[:cap(n.Ops)]
	for i, image := range n.Images {
		n.Images[i].Data = image.Data[:cap(image.Data)]
	}
	return n
}

// cloned is a note in memory of its own.
func cloned(n note.Note) note.Note {
	n.Images, n.Ops = slices.Clone(n.Images), slices.Clone(n.Ops)
	for i, image := range n.Images {
		n.Images[i].Data = bytes.Clone(image.Data)
	}
	return n
}

// stays holds notes that were handed in against what they were.
func stays(t *testing.T, call string, l ...note.Note) func() {
	t.Helper()
	var was []note.Note
	for _, n := range l {
		was = append(was, cloned(rooms(n)))
	}
	return func() {
		t.Helper()
		for i, n := range l {
			if !same(rooms(n), was[i]) {
				t.Fatalf("%s left %+v behind, where %+v was", call, rooms(n), was[i])
			}
		}
	}
}

// spoil writes over bytes, and over the room behind them.
func spoil(b []byte) {
	for i := range b[:cap(b)] {
		b[:cap(b)][i] ^= 255
	}
}

// scribble writes over all that a note has, and over the room behind it.
func scribble(n note.Note) {
	for i, image := range n.Images[:cap(n.Images)] {
		spoil(image.Data)
		n.Images[:cap(n.Images)][i] = api.Image{Block: 1000}
	}
	for i := range n.Ops[:cap(n.Ops)] {
		n.Ops[:cap(n.Ops)][i] = op(1000, 1000)
	}
}

// The calls are held against the plain ones. What is handed in stays, also where the answer is written to; the answer stays, where what was handed in is.

func sane(t *testing.T, n note.Note) bool {
	t.Helper()
	handed := roomy(n)
	stay := stays(t, "Sane", handed)
	got := note.Sane(handed)
	stay()
	if want := plainSane(n); got != want {
		t.Fatalf("Sane(%+v) = %v", n, got)
	}
	return got
}

func size(t *testing.T, n note.Note) int {
	t.Helper()
	handed := roomy(n)
	stay := stays(t, "Size", handed)
	got := note.Size(handed)
	stay()
	want, _ := plainEncode(n)
	if got != len(want) {
		t.Fatalf("Size(%+v) = %d, want %d", n, got, len(want))
	}
	return got
}

func encode(t *testing.T, n note.Note) ([]byte, api.Errno) {
	t.Helper()
	handed := roomy(n)
	stay := stays(t, "Encode", handed)
	got, e := note.Encode(handed)
	stay()
	want, wantErr := plainEncode(n)
	if !bytes.Equal(got, want) || e != wantErr || e != api.OK && got != nil {
		t.Fatalf("Encode(%+v) = %v, %v, want %v, %v", n, got, e, want, wantErr)
	}
	again := bytes.Clone(got)
	spoil(got)
	stay()
	spoil(got)
	scribble(handed)
	if !bytes.Equal(got, again) {
		t.Fatalf("Encode(%+v) shares memory with the note", n)
	}
	return again, e
}

func decode(t *testing.T, b []byte) (note.Note, api.Errno) {
	t.Helper()
	handed := room(b, text(88, 400)...)
	was := bytes.Clone(handed[:cap(handed)])
	n, e := note.Decode(handed)
	want, wantErr := plainDecode(b)
	if !same(n, want) || e != wantErr || e != api.OK && !nothing(n) {
		t.Fatalf("Decode(%v) = %+v, %v, want %+v, %v", b, n, e, want, wantErr)
	}
	spoil(handed)
	if !same(n, want) {
		t.Fatalf("Decode(%v) shares memory with the bytes", b)
	}
	spoil(handed)
	again := cloned(n)
	scribble(n)
	if !bytes.Equal(handed[:cap(handed)], was) {
		t.Fatalf("Decode(%v) left %v behind", b, handed[:cap(handed)])
	}
	return again, e
}

func merge(t *testing.T, a, b note.Note) (note.Note, api.Errno) {
	t.Helper()
	first, second := roomy(a), roomy(b)
	stay := stays(t, "Merge", first, second)
	both, e := note.Merge(first, second)
	stay()
	want, wantErr := plainMerge(a, b)
	if !same(both, want) || e != wantErr || e != api.OK && !nothing(both) {
		t.Fatalf("Merge(%+v, %+v) = %+v, %v, want %+v, %v", a, b, both, e, want, wantErr)
	}
	again := cloned(both)
	scribble(first)
	scribble(second)
	if !same(both, again) {
		t.Fatalf("Merge(%+v, %+v) shares memory with them", a, b)
	}
	first, second = roomy(a), roomy(b)
	stay = stays(t, "Merge", first, second)
	both, _ = note.Merge(first, second)
	scribble(both)
	stay()
	return again, e
}

// is checks all that is told of a note that may be.
func is(t *testing.T, n note.Note) {
	t.Helper()
	if !sane(t, n) {
		t.Errorf("Sane(%+v) = false", n)
	}
	want := laid(n)
	if got, e := encode(t, n); !bytes.Equal(got, want) || e != api.OK {
		t.Errorf("Encode(%+v) = %v, %v, want %v", n, got, e, want)
	}
	if got := size(t, n); got != len(want) {
		t.Errorf("Size(%+v) = %d, want %d", n, got, len(want))
	}
	tells(t, want, n)
}

// isNot checks all that is told of a note that may not be.
func isNot(t *testing.T, n note.Note) {
	t.Helper()
	if sane(t, n) {
		t.Errorf("Sane(%+v) = true", n)
	}
	if b, e := encode(t, n); b != nil || e != api.ErrArg {
		t.Errorf("Encode(%+v) = %v, %v", n, b, e)
	}
	if got := size(t, n); got != 0 {
		t.Errorf("Size(%+v) = %d", n, got)
	}
}

// either checks one by whether it may be.
func either(t *testing.T, n note.Note, may bool) {
	t.Helper()
	if may {
		is(t, n)
	} else {
		isNot(t, n)
	}
}

// tells checks what Decode tells of bytes.
func tells(t *testing.T, b []byte, want note.Note) {
	t.Helper()
	if n, e := decode(t, b); !same(n, want) || e != api.OK {
		t.Errorf("Decode(%v) = %+v, %v, want %+v", b, n, e, want)
	}
}

// refused checks that Decode tells nothing but an error.
func refused(t *testing.T, b []byte, want api.Errno) {
	t.Helper()
	if n, e := decode(t, b); !nothing(n) || e != want {
		t.Errorf("Decode(%v) = %+v, %v, want %v", b, n, e, want)
	}
}

// merges checks what Merge answers.
func merges(t *testing.T, a, b, want note.Note) {
	t.Helper()
	if both, e := merge(t, a, b); !same(both, want) || e != api.OK {
		t.Errorf("Merge(%+v, %+v) = %+v, %v, want %+v", a, b, both, e, want)
	}
}

// mergeRefused checks that Merge answers nothing but an error.
func mergeRefused(t *testing.T, a, b note.Note, want api.Errno) {
	t.Helper()
	if both, e := merge(t, a, b); !nothing(both) || e != want {
		t.Errorf("Merge(%+v, %+v) = %+v, %v, want %v", a, b, both, e, want)
	}
}

// P18.1

func TestNotesThatMayBe(t *testing.T) {
	for _, n := range whole() {
		is(t, n)
	}
}

func TestNotesThatMayNotBe(t *testing.T) {
	for _, n := range strange() {
		isNot(t, n)
	}
}

func TestEachKind(t *testing.T) {
	for kind := -300; kind <= 600; kind++ {
		either(t, note.Note{Kind: kind}, kind == 1 || kind == 2)
		either(t, note.Note{Kind: kind, Seq: 9, Images: row(0, 1)}, kind == 1)
		either(t, note.Note{Kind: kind, Seq: 9, Ops: adds(1, 1)}, kind == 1)
	}
	for _, kind := range edges() {
		either(t, note.Note{Kind: kind, Seq: lastSeq}, kind == 1 || kind == 2)
		either(t, note.Note{Kind: kind, Images: row(0, 1), Ops: adds(1, 1)}, kind == 1)
	}
	if note.Commit != 1 || note.Mark != 2 {
		t.Error(note.Commit, note.Mark)
	}
}

func TestEachSeq(t *testing.T) {
	for _, kind := range []int{note.Commit, note.Mark} {
		for _, seq := range seqs() {
			is(t, note.Note{Kind: kind, Seq: seq})
		}
		for _, seq := range noSeqs() {
			isNot(t, note.Note{Kind: kind, Seq: seq})
		}
		for _, seq := range edges() {
			either(t, note.Note{Kind: kind, Seq: seq}, 0 <= seq && seq <= lastSeq)
		}
	}
}

func TestHowManyImages(t *testing.T) {
	for _, many := range []int{0, 1, 2, 3, 31, 128, 255, 256} {
		is(t, commit(row(0, many), nil))
		is(t, commit(row(256-many, many), adds(3, 3)))
	}
	for _, many := range []int{257, 258, 512, 65535, 65536, 65537} {
		for _, from := range []int{-many, -1, 0, 1, 255} {
			isNot(t, commit(row(from, many), nil))
		}
		isNot(t, commit(slices.Repeat(blocks(0), many), nil))
		isNot(t, commit(slices.Repeat(blocks(255), many), nil))
	}
	// One more, wherever it stands, and whatever block it is of.
	for at := range 257 {
		for _, block := range []int{-1, 0, at - 1, at, 255, 256} {
			isNot(t, commit(slices.Insert(row(0, 256), at, img(block, 1)), nil))
		}
	}
}

func TestEachBlock(t *testing.T) {
	for _, block := range append(edges(), numbers(-300, 900)...) {
		either(t, commit(blocks(block), nil), 0 <= block && block <= 255)
	}
	for _, block := range edges() {
		for at := range 3 {
			l := with(blocks(63, 127, 254), at, img(block, 4))
			either(t, commit(l, nil), plainSane(commit(l, nil)))
		}
	}
}

func TestEachPairOfBlocks(t *testing.T) {
	for one := -2; one <= 257; one++ {
		for two := -2; two <= 257; two++ {
			n := commit([]api.Image{{Block: one, Data: zeros(32)}, {Block: two, Data: zeros(32)}}, nil)
			want := 0 <= one && one < two && two <= 255
			if got := note.Sane(n); got != want {
				t.Fatalf("Sane of the blocks %d and %d = %v", one, two, got)
			}
		}
	}
}

// Blocks that do not rise, at each place in a row of others.
func TestBlocksThatDoNotRise(t *testing.T) {
	var even []int
	for i := range 128 {
		even = append(even, 2*i)
	}
	is(t, commit(blocks(even...), nil))
	for at := 1; at < 128; at++ {
		was := even[at]
		is(t, commit(blocks(with(even, at, was-1)...), nil))
		isNot(t, commit(blocks(with(even, at, was-2)...), nil))
		isNot(t, commit(blocks(with(even, at-1, was)...), nil))
		isNot(t, commit(blocks(with(with(even, at, was-2), at-1, was)...), nil))
	}
	slices.Reverse(even)
	isNot(t, commit(blocks(even...), nil))
}

func TestEachLengthOfAnImage(t *testing.T) {
	for _, many := range []int{1, 2, 3, 256} {
		for at := range many {
			for _, n := range []int{0, 31, 32, 33} {
				image := api.Image{Block: at, Data: text(9, n)}
				either(t, commit(with(row(0, many), at, image), nil), n == 32)
			}
			isNot(t, commit(with(row(0, many), at, api.Image{Block: at}), nil))
		}
	}
	for n := range 200 {
		either(t, commit([]api.Image{{Block: 3, Data: text(9, n)}}, adds(1, 1)), n == 32)
	}
	for _, n := range []int{255, 256, 288, 65536, 65568, 1 << 20} {
		isNot(t, commit([]api.Image{{Block: 3, Data: text(9, n)}}, nil))
	}
	// Two whose bytes are as many together as they may be.
	isNot(t, commit([]api.Image{{Block: 3, Data: text(9, 31)}, {Block: 4, Data: text(9, 33)}}, nil))
	isNot(t, commit([]api.Image{{Block: 3, Data: text(9, 64)}, {Block: 4}}, nil))
}

// Room behind bytes does not count, nor what stands there.
func TestRoomBehindBytes(t *testing.T) {
	long := text(4, 64)
	is(t, commit([]api.Image{{Block: 3, Data: long[:32]}}, nil))
	isNot(t, commit([]api.Image{{Block: 3, Data: long[:31]}}, nil))
	is(t, commit(row(0, 300)[:256], adds(300, 1)[:256]))
	is(t, note.Note{Kind: note.Mark, Images: row(0, 2)[:0], Ops: adds(2, 1)[:0]})
}

func TestHowManyOps(t *testing.T) {
	for _, many := range []int{0, 1, 2, 63, 64, 65, 255, 256, 257, 258, 512, 65535, 65536, 65537, 65792} {
		either(t, commit(nil, adds(many, 3)), many <= 256)
		either(t, commit(row(0, 2), adds(many, 3)), many <= 256)
		either(t, commit(nil, slices.Repeat([]api.Op{op(5, -5)}, many)), many <= 256)
	}
}

func TestEachCounter(t *testing.T) {
	for _, counter := range append(edges(), numbers(-300, 900)...) {
		either(t, commit(nil, []api.Op{op(counter, 5)}), 0 <= counter && counter <= 63)
	}
	for _, many := range []int{2, 3, 256} {
		for at := range many {
			for _, counter := range []int{-1, 0, 63, 64} {
				either(t, commit(nil, with(adds(many, 2), at, op(counter, 5))), counter == 0 || counter == 63)
			}
		}
	}
}

func TestEachBy(t *testing.T) {
	for _, by := range append(bys(), edges()...) {
		is(t, commit(nil, []api.Op{op(0, by)}))
		is(t, commit(row(9, 1), []api.Op{op(63, by), op(0, -by), op(63, by)}))
	}
}

func TestAMarkOfAnything(t *testing.T) {
	for _, seq := range seqs() {
		is(t, mark(seq))
		for _, images := range [][]api.Image{row(0, 1), row(255, 1), row(0, 256)} {
			isNot(t, note.Note{Kind: note.Mark, Seq: seq, Images: images})
			isNot(t, note.Note{Kind: note.Mark, Seq: seq, Images: images, Ops: []api.Op{op(0, 0)}})
		}
		for _, ops := range [][]api.Op{{op(0, 0)}, {op(63, -1)}, adds(256, 1)} {
			isNot(t, note.Note{Kind: note.Mark, Seq: seq, Ops: ops})
		}
	}
	is(t, note.Note{Kind: note.Mark, Images: []api.Image{}, Ops: []api.Op{}})
}

// lays checks what bytes a note has, by bytes that are written out, in case what laid lays is wrong in the same way.
func lays(t *testing.T, n note.Note, want ...byte) {
	t.Helper()
	if b, e := note.Encode(n); !bytes.Equal(b, want) || e != api.OK {
		t.Errorf("Encode(%+v) = %v, %v, want %v", n, b, e, want)
	}
	if got := note.Size(n); got != len(want) {
		t.Errorf("Size(%+v) = %d, want %d", n, got, len(want))
	}
	if got, e := note.Decode(want); !same(got, n) || e != api.OK {
		t.Errorf("Decode(%v) = %+v, %v, want %+v", want, got, e, n)
	}
}

func TestByteByByte(t *testing.T) {
	lays(t, mark(3), 2, 3, 0, 0, 0, 0, 0, 0, 0, 0, 0)
	lays(t, mark(0), 2, 0, 0, 0, 0, 0, 0, 0, 0, 0, 0)
	lays(t, mark(lastSeq), 2, 0, 0, 0, 0, 0, 1, 0, 0, 0, 0)
	lays(t, mark(lastSeq-1), 2, 255, 255, 255, 255, 255, 0, 0, 0, 0, 0)
	lays(t, commit(nil, nil), 1, 7, 0, 0, 0, 0, 0, 0, 0, 0, 0)
	lays(t, note.Note{Kind: note.Commit, Seq: 0x0504030201}, 1, 1, 2, 3, 4, 5, 0, 0, 0, 0, 0)
	lays(t, commit([]api.Image{{Block: 254, Data: []byte("heronry heronry heronry heronry ")}}, nil),
		1, 7, 0, 0, 0, 0, 0, 1, 0, 254,
		'h', 'e', 'r', 'o', 'n', 'r', 'y', ' ', 'h', 'e', 'r', 'o', 'n', 'r', 'y', ' ',
		'h', 'e', 'r', 'o', 'n', 'r', 'y', ' ', 'h', 'e', 'r', 'o', 'n', 'r', 'y', ' ',
		0, 0)
	lays(t, commit(nil, []api.Op{op(63, 0), op(5, -1), op(5, 258), op(0, least), op(1, most)}),
		1, 7, 0, 0, 0, 0, 0, 0, 0, 5, 0,
		63, 0, 0, 0, 0, 0, 0, 0, 0,
		5, 255, 255, 255, 255, 255, 255, 255, 255,
		5, 2, 1, 0, 0, 0, 0, 0, 0,
		0, 0, 0, 0, 0, 0, 0, 0, 128,
		1, 255, 255, 255, 255, 255, 255, 255, 127)
	lays(t, note.Note{Kind: note.Commit, Seq: 258, Images: []api.Image{{Block: 0, Data: zeros(32)}, {Block: 255, Data: bytes.Repeat([]byte{9}, 32)}}, Ops: []api.Op{op(2, 0x0807060504030201)}},
		1, 2, 1, 0, 0, 0, 0, 2, 0,
		0, 0, 0, 0, 0, 0, 0, 0, 0, 0, 0, 0, 0, 0, 0, 0, 0, 0, 0, 0, 0, 0, 0, 0, 0, 0, 0, 0, 0, 0, 0, 0, 0,
		255, 9, 9, 9, 9, 9, 9, 9, 9, 9, 9, 9, 9, 9, 9, 9, 9, 9, 9, 9, 9, 9, 9, 9, 9, 9, 9, 9, 9, 9, 9, 9, 9,
		1, 0, 2, 1, 2, 3, 4, 5, 6, 7, 8)
}

func TestTheGreatestNote(t *testing.T) {
	n := note.Note{Kind: note.Commit, Seq: lastSeq, Images: row(0, 256), Ops: adds(256, 11)}
	b, e := note.Encode(n)
	if e != api.OK || len(b) != 10763 || note.Size(n) != 10763 {
		t.Fatal(len(b), e, note.Size(n))
	}
	if !bytes.Equal(b[:9], []byte{1, 0, 0, 0, 0, 0, 1, 0, 1}) || !bytes.Equal(b[8457:8459], []byte{0, 1}) {
		t.Error(b[:9], b[8457:8459])
	}
	for i, image := range n.Images {
		if at := 9 + 33*i; int(b[at]) != i || !bytes.Equal(b[at+1:at+33], image.Data) {
			t.Errorf("the image %d is laid as %v", i, b[at:at+33])
		}
	}
	for i, op := range n.Ops {
		if at := 8459 + 9*i; int(b[at]) != op.Counter || number(b[at+1:at+9]) != op.By {
			t.Errorf("the op %d is laid as %v", i, b[at:at+9])
		}
	}
	is(t, n)
}

func TestSizeOfEach(t *testing.T) {
	for images := range 257 {
		for _, ops := range []int{0, 1, 2, 100, 255, 256} {
			if got, want := note.Size(commit(row(0, images), adds(ops, 1))), 11+33*images+9*ops; got != want {
				t.Errorf("Size of %d images and %d ops = %d, want %d", images, ops, got, want)
			}
		}
	}
	for _, seq := range seqs() {
		if got := note.Size(mark(seq)); got != 11 {
			t.Errorf("Size of a Mark of %d = %d", seq, got)
		}
	}
}

// P18.2

func TestDecodeOfNoBytes(t *testing.T) {
	refused(t, nil, api.ErrShort)
	refused(t, []byte{}, api.ErrShort)
}

func TestDecodeOfEachBeginning(t *testing.T) {
	for _, n := range append(small(), whole()[len(whole())/2]) {
		b := laid(n)
		for length := range b {
			refused(t, b[:length], api.ErrShort)
		}
		tells(t, b, n)
	}
	b := laid(commit(row(0, 256), adds(256, 2)))
	for length := 0; length < len(b); length += 1 + length%7 {
		refused(t, b[:length], api.ErrShort)
	}
	refused(t, b[:len(b)-1], api.ErrShort)
}

func TestDecodeOfMoreBytes(t *testing.T) {
	for _, n := range whole() {
		b := laid(n)
		for v := range 256 {
			if v > 3 && v < 250 && len(b) > 400 {
				continue
			}
			refused(t, append(bytes.Clone(b), byte(v)), api.ErrForm)
		}
		for _, more := range []int{2, 9, 33, 1000, 1 << 17} {
			refused(t, append(bytes.Clone(b), zeros(more)...), api.ErrForm)
		}
		refused(t, append(bytes.Clone(b), b...), api.ErrForm)
	}
}

// tooMany are numbers of images, or of ops, that two bytes tell.
func tooMany() []int { return []int{257, 258, 511, 512, 4096, 32767, 32768, 65280, 65534, 65535} }

func TestDecodeOfTooManyImages(t *testing.T) {
	for _, kind := range []byte{note.Commit, note.Mark, 0, 3, 255} {
		for _, seq := range [][]byte{low(5, 6), low(lastSeq, 6), low(manySeq, 6)} {
			for _, many := range tooMany() {
				b := slices.Concat([]byte{kind}, seq, low(many, 2))
				refused(t, b, api.ErrForm)
				refused(t, b[:8], api.ErrShort)
				for _, more := range []int{1, 2, 32, 33, 34, 257*33 + 2} {
					refused(t, append(b, zeros(more)...), api.ErrForm)
				}
			}
		}
	}
	for _, from := range []int{-1, 0, 5} {
		refused(t, laid(commit(row(from, 257), nil)), api.ErrForm)
		refused(t, laid(commit(row(from, 257), adds(3, 1))), api.ErrForm)
	}
	// As many as there may be: what follows is asked for.
	refused(t, slices.Concat([]byte{1}, low(5, 6), low(256, 2)), api.ErrShort)
	refused(t, slices.Concat([]byte{1}, low(5, 6), low(256, 2), zeros(256*33+1)), api.ErrShort)
	refused(t, slices.Concat([]byte{1}, low(5, 6), low(256, 2), zeros(256*33+2)), api.ErrForm)
	refused(t, slices.Concat([]byte{1}, low(5, 6), low(255, 2), zeros(8)), api.ErrShort)
}

func TestDecodeOfTooManyOps(t *testing.T) {
	for _, kind := range []byte{note.Commit, note.Mark, 0, 3, 255} {
		for _, images := range [][]api.Image{nil, row(0, 1), blocks(7, 7), row(0, 256)} {
			n := commit(images, nil)
			ahead := laid(n)
			ahead[0] = kind
			ahead = ahead[:len(ahead)-2]
			for _, many := range tooMany() {
				b := append(bytes.Clone(ahead), low(many, 2)...)
				refused(t, b, api.ErrForm)
				refused(t, b[:len(b)-1], api.ErrShort)
				for _, more := range []int{1, 9, 10, 257 * 9} {
					refused(t, append(b, zeros(more)...), api.ErrForm)
				}
			}
			refused(t, append(bytes.Clone(ahead), 0, 1), api.ErrShort)
			refused(t, slices.Concat(ahead, low(256, 2), zeros(256*9-1)), api.ErrShort)
			refused(t, slices.Concat(ahead, low(1, 2), zeros(8)), api.ErrShort)
		}
	}
	refused(t, laid(commit(nil, adds(257, 1))), api.ErrForm)
	refused(t, laid(commit(row(0, 3), adds(65535, 1))), api.ErrForm)
}

// Images that are not all there, ahead of ops that would be too many.
func TestTooManyOpsAreToldBehindTheImages(t *testing.T) {
	b := laid(commit(row(0, 2), nil))
	b = append(b[:len(b)-2], 255, 255)
	refused(t, b, api.ErrForm)
	for length := range len(b) {
		refused(t, b[:length], api.ErrShort)
	}
}

func TestDecodeOfEachKind(t *testing.T) {
	for kind := range 256 {
		for _, n := range []note.Note{mark(3), commit(row(0, 1), nil), commit(nil, adds(1, 1)), commit(row(0, 2), adds(2, 1))} {
			b := laid(n)
			b[0] = byte(kind)
			n.Kind = kind
			if kind == note.Commit || kind == note.Mark && len(n.Images)+len(n.Ops) == 0 {
				tells(t, b, n)
			} else {
				refused(t, b, api.ErrForm)
			}
			refused(t, b[:len(b)-1], api.ErrShort)
			refused(t, append(b, 0), api.ErrForm)
		}
	}
}

func TestDecodeOfEachSeq(t *testing.T) {
	for _, n := range []note.Note{mark(0), commit(nil, nil), commit(row(0, 1), adds(1, 1))} {
		for _, seq := range append(seqs(), 1<<8, 1<<16, 1<<24, 1<<32, 1<<39) {
			b := laid(n)
			copy(b[seqAt:], low(seq, 6))
			n.Seq = seq
			tells(t, b, n)
		}
		for _, seq := range []int{lastSeq + 1, lastSeq + 2, lastSeq + 1<<32, 2 * lastSeq, 1 << 42, 1 << 47, 1<<47 + lastSeq, manySeq - 1, manySeq} {
			b := laid(n)
			copy(b[seqAt:], low(seq, 6))
			refused(t, b, api.ErrForm)
			refused(t, b[:len(b)-1], api.ErrShort)
		}
	}
}

func TestDecodeOfEachPairOfBlocks(t *testing.T) {
	images := []api.Image{{Data: text(1, 32)}, {Data: text(2, 32)}}
	for one := range 256 {
		for two := range 256 {
			images[0].Block, images[1].Block = one, two
			want := api.ErrForm
			if one < two {
				want = api.OK
			}
			if n, e := note.Decode(laid(commit(images, nil))); e != want || (e == api.OK) == nothing(n) {
				t.Fatalf("Decode of the blocks %d and %d = %+v, %v", one, two, n, e)
			}
		}
	}
}

func TestDecodeOfBlocksThatDoNotRise(t *testing.T) {
	for _, l := range [][]int{{0, 0}, {255, 255}, {1, 0}, {255, 0}, {0, 1, 1}, {0, 2, 1}, {1, 0, 2}, {3, 2, 1}} {
		b := laid(commit(blocks(l...), adds(2, 1)))
		refused(t, b, api.ErrForm)
		refused(t, b[:len(b)-1], api.ErrShort)
		refused(t, append(b, 1), api.ErrForm)
	}
	for at := 1; at < 256; at++ {
		b := laid(commit(row(0, 256), nil))
		b[9+33*at]--
		refused(t, b, api.ErrForm)
	}
}

func TestDecodeOfEachCounter(t *testing.T) {
	for counter := range 256 {
		for at := range 3 {
			n := commit(row(4, 1), with(adds(3, 7), at, op(counter, -5)))
			b := laid(n)
			if counter <= 63 {
				tells(t, b, n)
			} else {
				refused(t, b, api.ErrForm)
			}
			refused(t, b[:len(b)-1], api.ErrShort)
		}
	}
}

func TestDecodeOfEachBy(t *testing.T) {
	for _, by := range append(bys(), edges()...) {
		n := commit(nil, []api.Op{op(9, by), op(8, by)})
		tells(t, laid(n), n)
	}
}

// The errors come in order: what is read is there, then there are not too many, then none is left and all of it may be.
func TestTheOrderOfErrors(t *testing.T) {
	bad := note.Note{Kind: 3, Seq: manySeq, Images: blocks(9, 8), Ops: []api.Op{op(255, 1)}}
	b := laid(bad)
	for length := range b {
		refused(t, b[:length], api.ErrShort)
	}
	refused(t, b, api.ErrForm)
	refused(t, append(bytes.Clone(b), 7), api.ErrForm)
	over := bytes.Clone(b)
	copy(over[imagesAt:], low(257, 2))
	for length := range over {
		want := api.ErrShort
		if length >= imagesAt+2 {
			want = api.ErrForm
		}
		refused(t, over[:length], want)
	}
	none := laid(note.Note{Kind: 3, Seq: manySeq})
	copy(none[opsAt:], low(257, 2))
	refused(t, none, api.ErrForm)
	refused(t, none[:10], api.ErrShort)
}

// Each byte of some notes is any other one.
func TestEachByteTurned(t *testing.T) {
	told, refusals := 0, 0
	for _, n := range []note.Note{mark(3), mark(lastSeq), commit(nil, nil), commit(row(5, 1), nil), commit(nil, adds(2, 3)), commit(blocks(1, 255), []api.Op{op(63, -1)})} {
		b := laid(n)
		for at := range b {
			for turn := 1; turn < 256; turn++ {
				turned := bytes.Clone(b)
				turned[at] ^= byte(turn)
				if back(t, turned) {
					told++
				} else {
					refusals++
				}
			}
		}
	}
	if told < 1000 || refusals < 1000 {
		t.Error(told, refusals)
	}
}

// back checks that what is told of bytes, if they may be told, is laid as it was.
func back(t *testing.T, b []byte) bool {
	t.Helper()
	n, e := decode(t, b)
	if e != api.OK {
		return false
	}
	is(t, n)
	if again, e := note.Encode(n); !bytes.Equal(again, b) || e != api.OK {
		t.Fatalf("%v is told as %+v, which is laid as %v, %v", b, n, again, e)
	}
	return true
}

// P18.3

// seq is a Commit with that Seq.
func seq(n int, images []api.Image, ops ...api.Op) note.Note {
	return note.Note{Kind: note.Commit, Seq: n, Images: images, Ops: ops}
}

func TestMergeOfNothing(t *testing.T) {
	merges(t, seq(1, nil), seq(2, nil), seq(2, nil))
	merges(t, seq(5, []api.Image{}), seq(2, nil), seq(2, nil))
	for _, n := range whole() {
		if n.Kind != note.Commit {
			continue
		}
		ahead := n
		ahead.Seq = 3
		merges(t, n, seq(3, nil), ahead)
		merges(t, seq(3, nil), n, n)
	}
}

func TestMergeTellsTheLaterSeq(t *testing.T) {
	for _, one := range seqs() {
		for _, two := range seqs() {
			merges(t, seq(one, row(0, 1), op(1, 1)), seq(two, nil), seq(two, row(0, 1), op(1, 1)))
			merges(t, seq(one, nil), seq(two, row(0, 1), op(1, 1)), seq(two, row(0, 1), op(1, 1)))
		}
	}
}

func TestMergeOfBlocks(t *testing.T) {
	a := seq(1, []api.Image{img(2, 10), img(5, 11), img(9, 12)})
	for _, x := range []struct{ b, want []api.Image }{
		{nil, a.Images},
		{[]api.Image{img(0, 20)}, []api.Image{img(0, 20), img(2, 10), img(5, 11), img(9, 12)}},
		{[]api.Image{img(3, 20), img(7, 21)}, []api.Image{img(2, 10), img(3, 20), img(5, 11), img(7, 21), img(9, 12)}},
		{[]api.Image{img(255, 20)}, []api.Image{img(2, 10), img(5, 11), img(9, 12), img(255, 20)}},
		{[]api.Image{img(5, 20)}, []api.Image{img(2, 10), img(5, 20), img(9, 12)}},
		{[]api.Image{img(2, 20), img(9, 21)}, []api.Image{img(2, 20), img(5, 11), img(9, 21)}},
		{[]api.Image{img(2, 20), img(5, 21), img(9, 22)}, []api.Image{img(2, 20), img(5, 21), img(9, 22)}},
		{[]api.Image{img(0, 20), img(5, 21), img(6, 22)}, []api.Image{img(0, 20), img(2, 10), img(5, 21), img(6, 22), img(9, 12)}},
		{[]api.Image{{Block: 5, Data: zeros(32)}}, []api.Image{img(2, 10), {Block: 5, Data: zeros(32)}, img(9, 12)}},
		{[]api.Image{{Block: 4, Data: zeros(32)}}, []api.Image{img(2, 10), {Block: 4, Data: zeros(32)}, img(5, 11), img(9, 12)}},
	} {
		merges(t, a, seq(2, x.b), seq(2, x.want))
	}
	zero := seq(1, []api.Image{{Block: 0, Data: zeros(32)}, {Block: 255, Data: zeros(32)}})
	merges(t, zero, seq(1, nil), zero)
	merges(t, zero, seq(1, []api.Image{img(0, 1)}), seq(1, []api.Image{img(0, 1), {Block: 255, Data: zeros(32)}}))
}

func TestMergeOfEachTwoBlocks(t *testing.T) {
	for one := range 256 {
		for two := range 256 {
			images := []api.Image{img(min(one, two), 1), img(max(one, two), 2)}
			switch {
			case one == two:
				images = []api.Image{img(two, 2)}
			case one > two:
				images = []api.Image{img(two, 2), img(one, 1)}
			}
			both, e := note.Merge(seq(1, []api.Image{img(one, 1)}), seq(2, []api.Image{img(two, 2)}))
			if want := seq(2, images); !same(both, want) || e != api.OK {
				t.Fatalf("Merge of the blocks %d and %d = %+v, %v", one, two, both, e)
			}
		}
	}
}

// All blocks, or as many as can be, of which all, some or none are the other one's too.
func TestMergeOfAllBlocks(t *testing.T) {
	full := seq(1, row(0, 256))
	var other []api.Image
	for i := range 256 {
		other = append(other, img(i, i+77))
	}
	for at := range 256 {
		merges(t, full, seq(2, other[at:at+1]), seq(2, with(full.Images, at, other[at])))
		merges(t, seq(2, other[at:at+1]), full, full)
	}
	for _, at := range []int{0, 1, 100, 128, 255, 256} {
		merges(t, full, seq(2, other[:at]), seq(2, slices.Concat(other[:at], full.Images[at:])))
		merges(t, full, seq(2, other[at:]), seq(2, slices.Concat(full.Images[:at], other[at:])))
		merges(t, seq(1, full.Images[:at]), seq(2, other[at:]), seq(2, slices.Concat(full.Images[:at], other[at:])))
		merges(t, seq(1, full.Images[at:]), seq(2, other[:at]), seq(2, slices.Concat(other[:at], full.Images[at:])))
	}
	merges(t, full, seq(2, other), seq(2, other))
	var odd, even, both []api.Image
	for i := range 256 {
		if i%2 == 1 {
			odd = append(odd, other[i])
		} else {
			even = append(even, full.Images[i])
		}
		both = append(both, []api.Image{full.Images[i], other[i]}[i%2])
	}
	merges(t, seq(1, even), seq(2, odd), seq(2, both))
	merges(t, seq(1, odd), seq(2, even), seq(2, both))
}

func TestMergeOfOps(t *testing.T) {
	one, two, three := op(5, 1), op(5, -1), op(0, most)
	merges(t, seq(1, nil, one), seq(2, nil, two), seq(2, nil, one, two))
	merges(t, seq(1, nil, two), seq(2, nil, one), seq(2, nil, two, one))
	merges(t, seq(1, nil, one, one), seq(2, nil, one), seq(2, nil, one, one, one))
	merges(t, seq(1, nil, three, one), seq(2, nil, two, three), seq(2, nil, three, one, two, three))
	merges(t, seq(1, row(3, 1), one), seq(2, row(2, 1), two), seq(2, append(row(2, 1), row(3, 1)...), one, two))
	merges(t, seq(1, nil, three), seq(2, row(2, 1)), seq(2, row(2, 1), three))
}

func TestMergeOfManyOps(t *testing.T) {
	for _, x := range [][2]int{{0, 256}, {256, 0}, {1, 255}, {255, 1}, {128, 128}, {100, 156}, {0, 255}, {128, 127}} {
		a, b := adds(x[0], 3), adds(x[1], 5)
		merges(t, seq(1, nil, a...), seq(2, nil, b...), seq(2, nil, slices.Concat(a, b)...))
		merges(t, seq(1, row(0, 256), a...), seq(2, row(0, 256), b...), seq(2, row(0, 256), slices.Concat(a, b)...))
	}
	for _, x := range [][2]int{{1, 256}, {256, 1}, {129, 128}, {128, 129}, {2, 255}, {256, 256}, {200, 200}} {
		a, b := adds(x[0], 3), adds(x[1], 5)
		mergeRefused(t, seq(1, nil, a...), seq(2, nil, b...), api.ErrLimit)
		mergeRefused(t, seq(1, row(0, 256), a...), seq(2, row(9, 3), b...), api.ErrLimit)
	}
}

func TestMergeOfWhatMayNotBe(t *testing.T) {
	bad := append(strange(), mark(0), mark(3), mark(lastSeq))
	for _, n := range bad {
		for _, good := range []note.Note{seq(0, nil), seq(lastSeq, row(0, 256), adds(256, 1)...), seq(1, row(9, 1), op(1, 1))} {
			mergeRefused(t, n, good, api.ErrArg)
			mergeRefused(t, good, n, api.ErrArg)
		}
		mergeRefused(t, n, n, api.ErrArg)
		mergeRefused(t, n, mark(1), api.ErrArg)
		mergeRefused(t, mark(1), n, api.ErrArg)
	}
}

// Ops that are too many come behind what may not be by itself.
func TestTheOrderOfMergesErrors(t *testing.T) {
	full := seq(1, nil, adds(256, 1)...)
	for _, bad := range []note.Note{mark(1), {Kind: 3, Ops: adds(256, 1)}, seq(-1, nil, adds(256, 1)...), seq(1, blocks(1, 1), adds(256, 1)...), seq(1, nil, adds(257, 1)...)} {
		mergeRefused(t, full, bad, api.ErrArg)
		mergeRefused(t, bad, full, api.ErrArg)
	}
	mergeRefused(t, full, full, api.ErrLimit)
}

// state is blocks and counters, to which notes are done one behind the other.
type state struct {
	blocks   [256]string
	counters [64]int
}

func (s state) do(n note.Note) state {
	for _, image := range n.Images {
		s.blocks[image.Block] = string(image.Data)
	}
	for _, op := range n.Ops {
		s.counters[op.Counter] += op.By
	}
	return s
}

// A merged note does what its two do, one behind the other; and three are merged from either end.
func TestMergedIsOneBehindTheOther(t *testing.T) {
	for seed := range uint32(3000) {
		a, b, c := drawn(seed), drawn(seed+5000), drawn(seed+10000)
		ab, e := merge(t, a, b)
		if e != api.OK {
			t.Fatal(e)
		}
		var s state
		for i := range s.blocks {
			s.blocks[i] = "elder"
		}
		if s.do(a).do(b) != s.do(ab) {
			t.Fatalf("%+v does something else than %+v and %+v", ab, a, b)
		}
		bc, _ := merge(t, b, c)
		first, e := merge(t, ab, c)
		last, f := merge(t, a, bc)
		if !same(first, last) || e != api.OK || f != api.OK {
			t.Fatal(first, last, e, f)
		}
	}
}

// P18.4

func TestThereAndBack(t *testing.T) {
	for seed := range uint32(5000) {
		n := drawn(seed)
		is(t, n)
		if !back(t, laid(n)) {
			t.Fatalf("%+v is not told", n)
		}
	}
}

// What is told is laid as it was, whatever bytes are told.
func TestBackAndThere(t *testing.T) {
	told, refusals := 0, 0
	for seed := range uint32(20000) {
		if back(t, anyBytes(seed)) {
			told++
		} else {
			refusals++
		}
	}
	if told < 1000 || refusals < 1000 {
		t.Error(told, refusals)
	}
}

// script is bytes of any kind, the same ones for a seed.
func script(seed uint32, n int) []byte {
	b := make([]byte, n)
	for i := range b {
		seed = seed*1664525 + 1013904223
		b[i] = byte(seed >> 24)
	}
	return b
}

// drawn is a Commit that may be, of at most 20 images and 20 ops.
func drawn(seed uint32) note.Note {
	x := script(seed, 4)
	n := note.Note{Kind: note.Commit, Seq: number(script(seed+1, 6)) >> (x[0] % 48) % (lastSeq + 1)}
	block := -1
	for i := range int(x[1]) % 21 {
		d := script(seed+uint32(100*i), 33)
		block += 1 + int(d[32])%12
		n.Images = append(n.Images, api.Image{Block: block, Data: d[:32]})
	}
	for i := range int(x[2]) % 21 {
		d := script(seed+uint32(300*i)+7, 10)
		n.Ops = append(n.Ops, op(int(d[8])%64, number(d[:8])>>(d[9]%64)))
	}
	return n
}

// anyBytes are those of a note, of which some are others, or there are more of them, or fewer.
func anyBytes(seed uint32) []byte {
	x := script(seed+77777, 8)
	n := drawn(seed)
	if x[0]%4 == 0 {
		n = mark(n.Seq)
	}
	b := laid(n)
	for i := range int(x[1]) % 3 {
		b[number(x[2+i:4+i])%len(b)] ^= x[5+i] >> (x[2] % 8)
	}
	switch x[7] % 16 {
	case 0:
		return append(b, x...)
	case 1:
		return b[:len(b)*int(x[6])/256]
	}
	return b
}

// P1

func TestBytesOfAnyKind(t *testing.T) {
	for seed := range uint32(20000) {
		b := script(seed+1<<20, 120)
		b = b[:int(b[0])%120]
		back(t, b)
		if len(b) > 11 {
			b[0], b[6], b[7], b[8] = b[0]%4, b[6]%2, b[7]%4, b[8]%2
			back(t, b)
		}
	}
	for _, v := range []byte{0, 1, 2, 3, 127, 128, 255} {
		for n := range 300 {
			back(t, bytes.Repeat([]byte{v}, n))
		}
		back(t, bytes.Repeat([]byte{v}, 1<<22))
	}
}

func TestNotesOfAnyKind(t *testing.T) {
	for _, kind := range []int{1, 2, 0, -1, 3} {
		for _, a := range edges() {
			for _, b := range edges() {
				n := note.Note{Kind: kind, Seq: a, Images: blocks(b), Ops: []api.Op{op(b, a)}}
				either(t, n, plainSane(n))
				n = note.Note{Kind: kind, Seq: 5, Images: blocks(a, b), Ops: []api.Op{op(a, b), op(b, a)}}
				either(t, n, plainSane(n))
				merge(t, n, commit(nil, nil))
				merge(t, commit(nil, nil), n)
			}
		}
	}
}

func TestLargeThings(t *testing.T) {
	images := slices.Repeat([]api.Image{{Block: 1, Data: zeros(32)}}, 1<<20)
	ops := make([]api.Op, 1<<20)
	for _, n := range []note.Note{
		{Kind: note.Commit, Images: images},
		{Kind: note.Commit, Ops: ops},
		{Kind: note.Mark, Images: images, Ops: ops},
		{Kind: note.Commit, Images: []api.Image{{Data: zeros(1 << 24)}}},
	} {
		both, e := note.Merge(n, n)
		if b, f := note.Encode(n); note.Sane(n) || note.Size(n) != 0 || b != nil || f != api.ErrArg || !nothing(both) || e != api.ErrArg {
			t.Error(len(n.Images), len(n.Ops), f, e)
		}
	}
	b := laid(commit(row(0, 256), adds(256, 1)))
	if n, e := note.Decode(append(b, zeros(1<<24)...)); !nothing(n) || e != api.ErrForm {
		t.Error(e)
	}
}

// What is kept: nothing.

func TestNothingIsKept(t *testing.T) {
	n := commit(blocks(1, 5, 9), adds(3, 2))
	b, _ := note.Encode(n)
	told, _ := note.Decode(b)
	both, _ := note.Merge(n, commit(blocks(2, 5), adds(2, 4)))
	wantBoth := cloned(both)
	for range 3 {
		note.Encode(commit(row(0, 256), adds(256, 1)))
		note.Decode(laid(commit(row(0, 256), adds(256, 1))))
		note.Decode(laid(mark(5))[:4])
		note.Decode(append(laid(mark(5)), 4))
		note.Merge(commit(row(0, 256), adds(256, 1)), n)
		note.Merge(commit(row(0, 256), adds(200, 1)), n)
		if !bytes.Equal(b, laid(n)) || !same(told, n) || !same(both, wantBoth) {
			t.Fatal(b, told, both)
		}
		is(t, n)
		merges(t, n, commit(blocks(2, 5), adds(2, 4)), wantBoth)
	}
}

// apart checks that no two lists of a note share any memory: each image's bytes are written over, also behind their end.
func apart(t *testing.T, n note.Note) {
	t.Helper()
	for i, image := range n.Images {
		was := cloned(n)
		spoil(image.Data)
		for j, other := range n.Images {
			if i != j && !sameImage(other, was.Images[j]) {
				t.Fatalf("the image %d of %+v shares memory with %d", i, was, j)
			}
		}
		spoil(image.Data)
	}
}

func TestNoTwoListsShareAny(t *testing.T) {
	a, b := commit(row(0, 256), adds(100, 1)), commit(blocks(0, 9, 200), adds(50, 2))
	data := text(3, 32)
	twice := commit([]api.Image{{Block: 1, Data: data}, {Block: 2, Data: data}}, nil)
	for _, x := range [][2]note.Note{{a, b}, {b, a}, {a, a}, {commit(nil, nil), a}, {a, commit(nil, nil)}, {twice, twice}, {twice, b}} {
		both, e := note.Merge(x[0], x[1])
		if e != api.OK {
			t.Fatal(e)
		}
		apart(t, both)
		told, e := note.Decode(laid(both))
		if e != api.OK {
			t.Fatal(e)
		}
		apart(t, told)
	}
}

func TestAnswersShareNone(t *testing.T) {
	n := commit(blocks(1, 5, 9), adds(3, 2))
	b := laid(n)
	one, _ := note.Encode(n)
	two, _ := note.Encode(n)
	spoil(one)
	if !bytes.Equal(two, b) {
		t.Error("two answers of Encode share memory")
	}
	first, _ := note.Decode(b)
	second, _ := note.Decode(b)
	scribble(first)
	if !same(second, n) {
		t.Error("two answers of Decode share memory")
	}
	first, _ = note.Merge(n, n)
	second, _ = note.Merge(n, n)
	want := cloned(second)
	scribble(first)
	if !same(second, want) {
		t.Error("two answers of Merge share memory")
	}
}

// The chapter's example.

func ExampleEncode() {
	b, e := note.Encode(note.Note{Kind: note.Mark, Seq: 3})
	fmt.Println(b, e == api.OK)
	// Output: [2 3 0 0 0 0 0 0 0 0 0] true
}

func ExampleMerge() {
	a := note.Note{Kind: note.Commit, Seq: 1, Ops: []api.Op{{Counter: 5, By: 2}}}
	b := note.Note{Kind: note.Commit, Seq: 2, Ops: []api.Op{{Counter: 4, By: -1}}}
	both, e := note.Merge(a, b)
	fmt.Println(both.Seq, both.Ops, e == api.OK)
	// Output: 2 [{5 2} {4 -1}] true
}

// FuzzDecode: whatever bytes are told, nothing panics, and what is told is laid as it was.
func FuzzDecode(f *testing.F) {
	for _, n := range small() {
		f.Add(laid(n))
	}
	f.Add(laid(commit(row(0, 256), adds(256, 1))))
	f.Add([]byte{})
	for seed := range uint32(20) {
		f.Add(anyBytes(seed))
	}
	f.Fuzz(func(t *testing.T, b []byte) { back(t, b) })
}

// noteOf is a note of any kind, by bytes: one for each image's block and what its length is more than, and for each op's counter.
func noteOf(kind, seq int, images, ops []byte) note.Note {
	n := note.Note{Kind: kind, Seq: seq}
	for i := 0; i+1 < len(images); i += 2 {
		n.Images = append(n.Images, api.Image{Block: int(images[i]) + int(int8(images[i+1]))/64, Data: text(i, 32+int(images[i+1])%64/63)})
	}
	for i, counter := range ops {
		n.Ops = append(n.Ops, op(int(counter)-1, (i-3)*seq))
	}
	return n
}

// FuzzNotes: notes of any kind, by themselves and with each other.
func FuzzNotes(f *testing.F) {
	f.Add(1, 5, []byte{1, 0, 2, 0, 9, 0}, []byte{1, 64, 5}, 1, 6, []byte{2, 0, 255, 0}, []byte{3})
	f.Add(1, lastSeq, []byte{1, 0, 1, 0}, []byte{}, 2, 6, []byte{}, []byte{})
	f.Add(1, 0, []byte{255, 64}, []byte{65}, 1, lastSeq+1, []byte{0, 128}, []byte{0})
	f.Add(2, least, []byte{3, 63}, text(1, 257), 3, most, []byte{}, text(1, 256))
	f.Add(1, 9, []byte{}, bytes.Repeat([]byte{7}, 256), 1, 9, []byte{}, []byte{7})
	f.Fuzz(func(t *testing.T, kind, seq int, images, ops []byte, kind2, seq2 int, images2, ops2 []byte) {
		a, b := noteOf(kind, seq, images, ops), noteOf(kind2, seq2, images2, ops2)
		either(t, a, plainSane(a))
		either(t, b, plainSane(b))
		if both, e := merge(t, a, b); e == api.OK {
			is(t, both)
		}
		merge(t, b, a)
	})
}
