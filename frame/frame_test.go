package frame_test

import (
	"bytes"
	"encoding/binary"
	"hash/crc32"
	"math"
	"math/big"
	"slices"
	"testing"

	"heronry/api"
	"heronry/frame"
)

const (
	mostEpoch = 4_294_967_295     // 2^32 - 1
	mostAt    = 2_199_023_255_552 // 2^41
	mostBytes = 44 * 1024
)

// Where each thing stands in a sector.
const (
	epochAt = 4
	atAt    = 8
	indexAt = 14
	countAt = 16
	sizeAt  = 18
	noneAt  = 19
	dataAt  = 20
)

// pattern is n bytes, none of them 0, of which neighbours, and those 44 apart, are unlike.
func pattern(seed, n int) []byte {
	b := make([]byte, n)
	for i := range b {
		b[i] = byte((seed*31+i*7+i/44*3)%255 + 1)
	}
	return b
}

// fields are a sector's numbers, as its bytes can tell them, and the 44 bytes behind.
type fields struct {
	epoch, at, index, count, size, none uint64
	data                                [44]byte
}

// low is the n low bytes of v, the lowest first.
func low(v uint64, n int) []byte {
	var b [8]byte
	binary.LittleEndian.PutUint64(b[:], v)
	return b[:n]
}

// sealed is a body behind its right sum.
func sealed(body []byte) []byte {
	return slices.Concat(low(uint64(crc32.ChecksumIEEE(body)), 4), body)
}

// sector is what the fields are, under a sum that is right, whether the piece may be or not.
func (f fields) sector() []byte {
	return sealed(slices.Concat(low(f.epoch, 4), low(f.at, 6), low(f.index, 2), low(f.count, 2), low(f.size, 1), low(f.none, 1), f.data[:]))
}

// fieldsOf are a piece's.
func fieldsOf(p frame.Piece) fields {
	f := fields{epoch: uint64(p.Epoch), at: uint64(p.At), index: uint64(p.Index), count: uint64(p.Count), size: uint64(len(p.Data))}
	copy(f.data[:], p.Data)
	return f
}

// plainMayBe tells whether a piece may be, bound by bound.
func plainMayBe(p frame.Piece) bool {
	switch {
	case p.Epoch < 0, p.Epoch > mostEpoch, p.At < 0, p.At > mostAt, p.Count < 1, p.Count > 1024, p.Index < 0, p.Index >= p.Count:
		return false
	case p.Index < p.Count-1:
		return len(p.Data) == 44
	}
	return len(p.Data) <= 44
}

// plainRead is Read, byte by byte, by sums of the library's.
func plainRead(b []byte) (frame.Piece, api.Errno) {
	switch {
	case len(b) < 64:
		return frame.Piece{}, api.ErrShort
	case len(b) > 64:
		return frame.Piece{}, api.ErrForm
	case binary.LittleEndian.Uint32(b) != crc32.ChecksumIEEE(b[4:]):
		return frame.Piece{}, api.ErrSum
	}
	p := frame.Piece{
		Epoch: int(binary.LittleEndian.Uint32(b[epochAt:])),
		At:    int(binary.LittleEndian.Uint32(b[atAt:])) + int(binary.LittleEndian.Uint16(b[atAt+4:]))<<32,
		Index: int(binary.LittleEndian.Uint16(b[indexAt:])),
		Count: int(binary.LittleEndian.Uint16(b[countAt:])),
	}
	size := int(b[sizeAt])
	if size > 44 || b[noneAt] != 0 {
		return frame.Piece{}, api.ErrForm
	}
	if !bytes.Equal(b[dataAt+size:], make([]byte, 44-size)) {
		return frame.Piece{}, api.ErrForm
	}
	p.Data = b[dataAt : dataAt+size]
	if !plainMayBe(p) {
		return frame.Piece{}, api.ErrForm
	}
	return p, api.OK
}

// record is what Gather answers.
type record struct {
	b            []byte
	epoch, count int
	e            api.Errno
}

// plainGather is Gather, sector by sector.
func plainGather(l [][]byte, at int) record {
	var r record
	for i := 0; i == 0 || i < r.count; i++ {
		if i == len(l) {
			return record{e: api.ErrShort}
		}
		p, e := plainRead(l[i])
		if e != api.OK {
			return record{e: e}
		}
		if i == 0 {
			r.epoch, r.count = p.Epoch, p.Count
		}
		switch {
		case p.At-i != at, p.Index != i, p.Epoch != r.epoch, p.Count != r.count:
			return record{e: api.ErrForm}
		}
		r.b = append(r.b, p.Data...)
	}
	return r
}

// samePiece tells whether two pieces are one.
func samePiece(a, b frame.Piece) bool {
	return a.Epoch == b.Epoch && a.At == b.At && a.Index == b.Index && a.Count == b.Count && bytes.Equal(a.Data, b.Data)
}

// write writes what may be.
func write(t *testing.T, p frame.Piece) []byte {
	t.Helper()
	b, e := frame.Write(p)
	if e != api.OK {
		t.Fatalf("Write(%v) = %v", p, e)
	}
	if len(b) != 64 {
		t.Fatalf("Write(%v) has %d bytes", p, len(b))
	}
	return b
}

// writeRefused checks that a piece may not be written.
func writeRefused(t *testing.T, p frame.Piece) {
	t.Helper()
	if b, e := frame.Write(p); e != api.ErrArg || b != nil {
		t.Errorf("Write(%v) = %v, %v", p, b, e)
	}
}

// reads checks what is read.
func reads(t *testing.T, b []byte, want frame.Piece) {
	t.Helper()
	if p, e := frame.Read(b); e != api.OK || !samePiece(p, want) {
		t.Errorf("Read(%v) = %v, %v, want %v", b, p, e, want)
	}
}

// readRefused checks that there is this error, and no piece beside it.
func readRefused(t *testing.T, b []byte, want api.Errno) {
	t.Helper()
	if p, e := frame.Read(b); e != want || !samePiece(p, frame.Piece{}) || p.Data != nil {
		t.Errorf("Read(%v) = %v, %v, want no piece, and %v", b, p, e, want)
	}
}

// cut cuts what can be.
func cut(t *testing.T, epoch, at int, b []byte) [][]byte {
	t.Helper()
	l, e := frame.Cut(epoch, at, b)
	if e != api.OK {
		t.Fatalf("Cut(%d, %d, %d bytes) = %v", epoch, at, len(b), e)
	}
	return l
}

// cutRefused checks that there is this error, and no sector beside it.
func cutRefused(t *testing.T, epoch, at int, b []byte, want api.Errno) {
	t.Helper()
	if l, e := frame.Cut(epoch, at, b); e != want || l != nil {
		t.Errorf("Cut(%d, %d, %d bytes) = %d sectors, %v, want none, and %v", epoch, at, len(b), len(l), e, want)
	}
}

// gathers checks what is gathered, and that the plain way tells it too.
func gathers(t *testing.T, l [][]byte, at int, want record) {
	t.Helper()
	b, epoch, count, e := frame.Gather(l, at)
	got := record{b, epoch, count, e}
	if !sameRecord(got, want) {
		t.Errorf("Gather of %d sectors at %d = %v, want %v", len(l), at, got, want)
	}
	if plain := plainGather(l, at); !sameRecord(plain, want) {
		t.Errorf("plainGather of %d sectors at %d = %v, want %v", len(l), at, plain, want)
	}
}

// sameRecord tells whether two answers are one; beside an error there must be nil.
func sameRecord(a, b record) bool {
	if a.e != api.OK && a.b != nil {
		return false
	}
	return bytes.Equal(a.b, b.b) && a.epoch == b.epoch && a.count == b.count && a.e == b.e
}

// gatherRefused checks that there is this error, and nothing beside it.
func gatherRefused(t *testing.T, l [][]byte, at int, want api.Errno) {
	t.Helper()
	gathers(t, l, at, record{e: want})
}

// copied is a list of copies.
func copied(l [][]byte) [][]byte {
	var out [][]byte
	for _, b := range l {
		out = append(out, bytes.Clone(b))
	}
	return out
}

// with is a list in which another sector stands at i.
func with(l [][]byte, i int, b []byte) [][]byte {
	out := slices.Clone(l)
	out[i] = b
	return out
}

// torn is the first n bytes of one sector, and the others of another one.
func torn(a, b []byte, n int) []byte { return slices.Concat(a[:n], b[n:]) }

// bitTurned is a copy of b with one bit turned.
func bitTurned(b []byte, bit int) []byte {
	out := bytes.Clone(b)
	out[bit/8] ^= 1 << (bit % 8)
	return out
}

// pieces are some that may be, at each bound and between.
func pieces() []frame.Piece {
	var l []frame.Piece
	for _, epoch := range []int{0, 1, 255, 256, 65536, 1 << 31, mostEpoch - 1, mostEpoch} {
		for _, at := range []int{0, 1, 255, 65536, 1 << 32, 1 << 40, mostAt - 1, mostAt} {
			for _, place := range [][2]int{{0, 1}, {0, 2}, {1, 2}, {255, 256}, {254, 256}, {0, 1024}, {1022, 1024}, {1023, 1024}} {
				l = append(l, frame.Piece{Epoch: epoch, At: at, Index: place[0], Count: place[1], Data: pattern(at+epoch, 44)})
			}
			for _, n := range []int{0, 1, 43} {
				l = append(l, frame.Piece{Epoch: epoch, At: at, Index: 4, Count: 5, Data: pattern(at+epoch, n)})
			}
		}
	}
	return l
}

// P6.1: Need

func TestNeedOfSome(t *testing.T) {
	for _, x := range []struct{ n, want int }{
		{math.MinInt, 1}, {math.MinInt + 1, 1}, {-45, 1}, {-44, 1}, {-1, 1},
		{0, 1}, {1, 1}, {2, 1}, {43, 1}, {44, 1},
		{45, 2}, {87, 2}, {88, 2}, {89, 3},
		{mostBytes - 44, 1023}, {mostBytes - 43, 1024}, {mostBytes, 1024}, {mostBytes + 1, 1025},
		{math.MaxInt - 8, 209_622_091_746_699_450},
		{math.MaxInt - 7, 209_622_091_746_699_450},
		{math.MaxInt - 6, 209_622_091_746_699_451},
		{math.MaxInt - 1, 209_622_091_746_699_451},
		{math.MaxInt, 209_622_091_746_699_451},
	} {
		if got := frame.Need(x.n); got != x.want {
			t.Errorf("Need(%d) = %d, want %d", x.n, got, x.want)
		}
	}
}

func TestNeedIsTheLeastThatHasRoom(t *testing.T) {
	for _, first := range []int{1, mostBytes - 100, 1<<31 - 100, 1 << 40, math.MaxInt - 500} {
		for n := first; n < first+499; n++ {
			got := big.NewInt(int64(frame.Need(n)))
			room := new(big.Int).Mul(got, big.NewInt(44))
			over := new(big.Int).Sub(room, big.NewInt(int64(n)))
			if over.Sign() < 0 || over.Cmp(big.NewInt(44)) >= 0 {
				t.Errorf("Need(%d) = %v", n, got)
			}
		}
	}
}

// P6.1: Write

func TestWriteLaysEachNumberWhereItStands(t *testing.T) {
	p := frame.Piece{Epoch: 0x84838281, At: 0x01_A5A4A3A2A1, Index: 0x0102, Count: 0x0304, Data: pattern(9, 44)}
	b := write(t, p)
	for _, x := range []struct {
		what     string
		from, to int
		want     []byte
	}{
		{"the sum", 0, 4, low(uint64(crc32.ChecksumIEEE(b[4:])), 4)},
		{"Epoch", 4, 8, []byte{0x81, 0x82, 0x83, 0x84}},
		{"At", 8, 14, []byte{0xA1, 0xA2, 0xA3, 0xA4, 0xA5, 0x01}},
		{"Index", 14, 16, []byte{0x02, 0x01}},
		{"Count", 16, 18, []byte{0x04, 0x03}},
		{"the size", 18, 19, []byte{44}},
		{"the byte behind the size", 19, 20, []byte{0}},
		{"Data", 20, 64, pattern(9, 44)},
	} {
		if got := b[x.from:x.to]; !bytes.Equal(got, x.want) {
			t.Errorf("%s is %v, want %v", x.what, got, x.want)
		}
	}
}

func TestWriteOfASectorThatIsKnown(t *testing.T) {
	b := write(t, frame.Piece{Epoch: 7, At: 258, Index: 1, Count: 2, Data: []byte("!")})
	body := append([]byte{7, 0, 0, 0, 2, 1, 0, 0, 0, 0, 1, 0, 2, 0, 1, 0, '!'}, make([]byte, 43)...)
	if want := sealed(body); !bytes.Equal(b, want) {
		t.Errorf("%v, want %v", b, want)
	}
}

func TestBehindTheDataThereIs0(t *testing.T) {
	for n := range 45 {
		data := append(pattern(n, n), bytes.Repeat([]byte{0xEE}, 64)...)[:n] // what stands behind it in memory is not of it
		b := write(t, frame.Piece{Epoch: 1, At: 2, Index: 3, Count: 4, Data: data})
		if int(b[sizeAt]) != n || b[noneAt] != 0 || !bytes.Equal(b[dataAt:dataAt+n], data) {
			t.Errorf("of %d bytes: %v", n, b)
		}
		if !bytes.Equal(b[dataAt+n:], make([]byte, 44-n)) {
			t.Errorf("behind %d bytes: %v", n, b[dataAt+n:])
		}
	}
}

func TestWriteAtTheBounds(t *testing.T) {
	full := pattern(1, 44)
	for _, x := range []struct {
		p    frame.Piece
		want bool
	}{
		{frame.Piece{Epoch: -1, Count: 1}, false},
		{frame.Piece{Epoch: 0, Count: 1}, true},
		{frame.Piece{Epoch: mostEpoch, Count: 1}, true},
		{frame.Piece{Epoch: mostEpoch + 1, Count: 1}, false},

		{frame.Piece{At: -1, Count: 1}, false},
		{frame.Piece{At: 0, Count: 1}, true},
		{frame.Piece{At: mostAt, Count: 1}, true},
		{frame.Piece{At: mostAt + 1, Count: 1}, false},

		{frame.Piece{Count: -1}, false},
		{frame.Piece{Count: 0}, false},
		{frame.Piece{Count: 0, Data: full}, false},
		{frame.Piece{Count: 0, Index: -1}, false},
		{frame.Piece{Count: 1}, true},
		{frame.Piece{Count: 1024, Index: 1023}, true},
		{frame.Piece{Count: 1024, Data: full}, true},
		{frame.Piece{Count: 1025, Index: 1024}, false},
		{frame.Piece{Count: 1025, Data: full}, false},

		{frame.Piece{Count: 3, Index: -1, Data: full}, false},
		{frame.Piece{Count: 3, Index: 0, Data: full}, true},
		{frame.Piece{Count: 3, Index: 1, Data: full}, true},
		{frame.Piece{Count: 3, Index: 2, Data: full}, true},
		{frame.Piece{Count: 3, Index: 3, Data: full}, false},
		{frame.Piece{Count: 3, Index: 4, Data: full}, false},
		{frame.Piece{Count: 1, Index: 1}, false},
		{frame.Piece{Count: 1, Index: -1, Data: full}, false},

		{frame.Piece{Count: 3, Index: 2}, true},
		{frame.Piece{Count: 3, Index: 2, Data: []byte{}}, true},
		{frame.Piece{Count: 3, Index: 2, Data: pattern(1, 43)}, true},
		{frame.Piece{Count: 3, Index: 2, Data: pattern(1, 45)}, false},
		{frame.Piece{Count: 3, Index: 2, Data: pattern(1, 300)}, false}, // 44 modulo 256
		{frame.Piece{Count: 3, Index: 1}, false},
		{frame.Piece{Count: 3, Index: 1, Data: []byte{}}, false},
		{frame.Piece{Count: 3, Index: 1, Data: pattern(1, 43)}, false},
		{frame.Piece{Count: 3, Index: 1, Data: pattern(1, 45)}, false},
		{frame.Piece{Count: 3, Index: 1, Data: pattern(1, 300)}, false},
		{frame.Piece{}, false},
	} {
		if got := plainMayBe(x.p); got != x.want {
			t.Fatalf("plainMayBe(%v) = %v", x.p, got)
		}
		if !x.want {
			writeRefused(t, x.p)
			continue
		}
		if b := write(t, x.p); !bytes.Equal(b, fieldsOf(x.p).sector()) {
			t.Errorf("Write(%v) = %v", x.p, b)
		}
	}
}

func TestWriteOfAnyInts(t *testing.T) {
	ints := []int{
		math.MinInt, math.MinInt + 1, -mostAt, -1 << 32, -1024, -1, 0, 1, 2, 1023, 1024, 1025, 65536, 65537,
		mostEpoch, mostEpoch + 1, mostAt, mostAt + 1, 1 << 48, 1<<48 + 1, math.MaxInt - 1, math.MaxInt,
	}
	datas := [][]byte{nil, pattern(1, 1), pattern(2, 43), pattern(3, 44), pattern(4, 45)}
	for _, epoch := range ints {
		for _, at := range ints {
			for _, index := range ints {
				for _, count := range ints {
					data := datas[(epoch^at^index^count)&math.MaxInt%len(datas)]
					p := frame.Piece{Epoch: epoch, At: at, Index: index, Count: count, Data: data}
					b, e := frame.Write(p)
					switch {
					case plainMayBe(p) && (e != api.OK || !bytes.Equal(b, fieldsOf(p).sector())):
						t.Fatalf("Write(%v) = %v, %v", p, b, e)
					case !plainMayBe(p) && (e != api.ErrArg || b != nil):
						t.Fatalf("Write(%v) = %v, %v", p, b, e)
					}
				}
			}
		}
	}
}

// P6.1: Read

func TestWhatIsWrittenIsRead(t *testing.T) {
	for _, p := range pieces() {
		b := write(t, p)
		if !bytes.Equal(b, fieldsOf(p).sector()) {
			t.Fatalf("Write(%v) = %v", p, b)
		}
		reads(t, b, p)
	}
}

func TestReadOfOtherLengths(t *testing.T) {
	good := write(t, frame.Piece{Epoch: 1, At: 2, Index: 3, Count: 4, Data: pattern(1, 20)})
	reads(t, good, frame.Piece{Epoch: 1, At: 2, Index: 3, Count: 4, Data: pattern(1, 20)})
	readRefused(t, nil, api.ErrShort)
	for n := range 64 {
		readRefused(t, good[:n], api.ErrShort)
		readRefused(t, make([]byte, n), api.ErrShort)
	}
	for _, n := range []int{1, 2, 64, 1000} {
		readRefused(t, append(bytes.Clone(good), make([]byte, n)...), api.ErrForm)
		readRefused(t, append(bytes.Clone(good), pattern(1, n)...), api.ErrForm)
	}
	body := append(bytes.Clone(good[4:]), 0) // a right sum of too many
	readRefused(t, sealed(body), api.ErrForm)
	readRefused(t, sealed(body[:59]), api.ErrShort)
}

func TestReadOfAnotherSum(t *testing.T) {
	good := write(t, frame.Piece{Epoch: 1, At: 2, Index: 3, Count: 4, Data: pattern(1, 20)})
	for bit := range 64 * 8 {
		readRefused(t, bitTurned(good, bit), api.ErrSum)
	}
	right := binary.LittleEndian.Uint32(good)
	for _, s := range []uint32{0, 1, ^right, right + 1, right - 1, math.MaxUint32, crc32.ChecksumIEEE(good), crc32.ChecksumIEEE(good[5:])} {
		readRefused(t, slices.Concat(low(uint64(s), 4), good[4:]), api.ErrSum)
	}
	turned := bytes.Clone(good) // the highest byte first
	slices.Reverse(turned[:4])
	readRefused(t, turned, api.ErrSum)
	readRefused(t, make([]byte, 64), api.ErrSum)
	readRefused(t, bytes.Repeat([]byte{0xFF}, 64), api.ErrSum)
}

// turned is a sector of which something is another, under a sum that is right, and whether the piece may be.
type turned struct {
	what string
	from fields
	turn func(*fields)
	want bool
}

// goods are the fields of a piece that is not the last one, of a last one that is full, and of one of none.
func goods() (good, last, short fields) {
	good = fieldsOf(frame.Piece{Epoch: 9, At: 8, Index: 1, Count: 3, Data: pattern(1, 44)})
	last = fieldsOf(frame.Piece{Epoch: 9, At: 8, Index: 2, Count: 3, Data: pattern(1, 44)})
	short = fieldsOf(frame.Piece{Epoch: 9, At: 8, Index: 2, Count: 3})
	return good, last, short
}

// checkTurned checks what is read of each: the piece, or ErrForm.
func checkTurned(t *testing.T, l []turned) {
	t.Helper()
	for _, x := range l {
		f := x.from
		x.turn(&f)
		b := f.sector()
		p, e := frame.Read(b)
		switch want, _ := plainRead(b); {
		case x.want && (e != api.OK || !samePiece(p, want) || want.Count == 0):
			t.Errorf("%s: %v, %v", x.what, p, e)
		case !x.want && (e != api.ErrForm || !samePiece(p, frame.Piece{})):
			t.Errorf("%s: %v, %v", x.what, p, e)
		}
	}
}

func TestReadOfANumberThatMayNotBe(t *testing.T) {
	good, last, short := goods()
	checkTurned(t, []turned{
		{"as it is", good, func(f *fields) {}, true},
		{"the last one as it is", last, func(f *fields) {}, true},
		{"the last one of none", short, func(f *fields) {}, true},
		{"Epoch 0", good, func(f *fields) { f.epoch = 0 }, true},
		{"Epoch 2^32 - 1", good, func(f *fields) { f.epoch = mostEpoch }, true},
		{"At 0", good, func(f *fields) { f.at = 0 }, true},
		{"At 2^41 - 1", good, func(f *fields) { f.at = mostAt - 1 }, true},
		{"At 2^41", good, func(f *fields) { f.at = mostAt }, true},
		{"At 2^41 + 1", good, func(f *fields) { f.at = mostAt + 1 }, false},
		{"At 2^42", good, func(f *fields) { f.at = 1 << 42 }, false},
		{"At 2^47", good, func(f *fields) { f.at = 1 << 47 }, false},
		{"At 2^48 - 1", good, func(f *fields) { f.at = 1<<48 - 1 }, false},
		{"Count 0", good, func(f *fields) { f.count = 0 }, false},
		{"Count 0, Index 0", good, func(f *fields) { f.count, f.index = 0, 0 }, false},
		{"Count 0, Index -1", good, func(f *fields) { f.count, f.index = 0, 65535 }, false},
		{"Count 1, Index 0", good, func(f *fields) { f.count, f.index = 1, 0 }, true},
		{"Count 1, Index 1", good, func(f *fields) { f.count, f.index = 1, 1 }, false},
		{"Count 1, none", short, func(f *fields) { f.count, f.index = 1, 0 }, true},
		{"Count 1024", good, func(f *fields) { f.count = 1024 }, true},
		{"Count 1024, its last one", short, func(f *fields) { f.count, f.index = 1024, 1023 }, true},
		{"Count 1025", good, func(f *fields) { f.count = 1025 }, false},
		{"Count 1025, its last one", short, func(f *fields) { f.count, f.index = 1025, 1024 }, false},
		{"Count 65535", good, func(f *fields) { f.count = 65535 }, false},
		{"Index 0", good, func(f *fields) { f.index = 0 }, true},
		{"Index Count", good, func(f *fields) { f.index = 3 }, false},
		{"Index Count + 1", good, func(f *fields) { f.index = 4 }, false},
		{"Index 65535", good, func(f *fields) { f.index = 65535 }, false},
	})
}

func TestReadOfASizeThatMayNotBe(t *testing.T) {
	good, last, short := goods()
	checkTurned(t, []turned{
		{"43, not the last one", good, func(f *fields) { f.size, f.data[43] = 43, 0 }, false},
		{"none, not the last one", short, func(f *fields) { f.index = 0 }, false},
		{"45, not the last one", good, func(f *fields) { f.size = 45 }, false},
		{"255, not the last one", good, func(f *fields) { f.size = 255 }, false},
		{"43, the last one", last, func(f *fields) { f.size, f.data[43] = 43, 0 }, true},
		{"43 and one behind", last, func(f *fields) { f.size = 43 }, false},
		{"45, the last one", last, func(f *fields) { f.size = 45 }, false},
		{"45 of zeros", short, func(f *fields) { f.size = 45 }, false},
		{"128, the last one", last, func(f *fields) { f.size = 128 }, false},
		{"255, the last one", last, func(f *fields) { f.size = 255 }, false},
		{"the byte behind the size 1", good, func(f *fields) { f.none = 1 }, false},
		{"the byte behind the size 255", last, func(f *fields) { f.none = 255 }, false},
		{"the byte behind the size 128, of none", short, func(f *fields) { f.none = 128 }, false},
		{"the first byte behind none", short, func(f *fields) { f.data[0] = 1 }, false},
		{"the last byte behind none", short, func(f *fields) { f.data[43] = 1 }, false},
	})
}

func TestReadOfAByteBehindTheData(t *testing.T) {
	for size := range 45 {
		f := fieldsOf(frame.Piece{Epoch: 1, At: 2, Index: 0, Count: 1, Data: pattern(size, size)})
		reads(t, f.sector(), frame.Piece{Epoch: 1, At: 2, Index: 0, Count: 1, Data: pattern(size, size)})
		for i := size; i < 44; i++ {
			for _, x := range []byte{1, 0x80, 0xFF} {
				g := f
				g.data[i] = x
				readRefused(t, g.sector(), api.ErrForm)
			}
		}
	}
}

func TestReadOfBytesOfDataThatAre0(t *testing.T) {
	for size := range 45 {
		p := frame.Piece{Epoch: 1, At: 2, Index: 0, Count: 1, Data: make([]byte, size)}
		reads(t, write(t, p), p)
	}
}

func TestTheOrderOfReadsErrors(t *testing.T) {
	bad := fieldsOf(frame.Piece{Epoch: 1, At: mostAt + 1, Index: 5, Count: 4, Data: pattern(1, 44)}) // may not be
	bad.none, bad.size = 7, 3
	b := bad.sector()
	readRefused(t, b, api.ErrForm)
	readRefused(t, bitTurned(b, 0), api.ErrSum) // the sum is ahead of what may not be
	readRefused(t, bitTurned(b, 511), api.ErrSum)
	readRefused(t, bitTurned(b, 8*noneAt), api.ErrSum)
	readRefused(t, b[:63], api.ErrShort) // and the length ahead of the sum
	readRefused(t, bitTurned(b, 0)[:63], api.ErrShort)
	readRefused(t, append(b, 0), api.ErrForm)
	readRefused(t, append(bitTurned(b, 0), 0), api.ErrForm)
	good := write(t, frame.Piece{Count: 1})
	readRefused(t, append(bitTurned(good, 0), 0), api.ErrForm)
	readRefused(t, bitTurned(good, 0)[:63], api.ErrShort)
}

// P6.2

// checkCut checks the sectors of what is cut, one by one.
func checkCut(t *testing.T, epoch, at int, b []byte, l [][]byte) {
	t.Helper()
	count := max((len(b)+43)/44, 1)
	if len(l) != count || count != frame.Need(len(b)) {
		t.Fatalf("Cut(%d, %d, %d bytes) = %d sectors", epoch, at, len(b), len(l))
	}
	for i, sector := range l {
		p := frame.Piece{Epoch: epoch, At: at + i, Index: i, Count: count, Data: b[44*i:]}
		if i < count-1 {
			p.Data = p.Data[:44]
		}
		if !bytes.Equal(sector, fieldsOf(p).sector()) {
			t.Fatalf("Cut(%d, %d, %d bytes): the sector %d is %v", epoch, at, len(b), i, sector)
		}
	}
}

func TestCutOfEachLength(t *testing.T) {
	lens := []int{0, 1, 2, 43, 44, 45, 87, 88, 89, 131, 132, 133, 1000, mostBytes - 45, mostBytes - 44, mostBytes - 43, mostBytes - 1, mostBytes}
	for _, n := range lens {
		for _, at := range []int{0, 7, 1 << 32, mostAt - frame.Need(n) + 1} {
			for _, epoch := range []int{0, 1, mostEpoch} {
				b := pattern(n, n)
				l := cut(t, epoch, at, b)
				checkCut(t, epoch, at, b, l)
				gathers(t, l, at, record{b, epoch, len(l), api.OK})
			}
		}
	}
	checkCut(t, 3, 4, nil, cut(t, 3, 4, nil))
}

func TestCutOfTooMany(t *testing.T) {
	for _, n := range []int{mostBytes + 1, mostBytes + 44, mostBytes + 45, 2 * mostBytes, 64*1024 + 1, 65537 * 44} {
		cutRefused(t, 1, 0, pattern(1, n), api.ErrLimit)
	}
}

func TestCutOfAnEpochOrAPlaceBeyond(t *testing.T) {
	for _, n := range []int{0, 44, 45, 88, mostBytes} {
		b := pattern(n, n)
		for _, epoch := range []int{-1, mostEpoch + 1, math.MinInt, math.MaxInt, 1 << 48} {
			cutRefused(t, epoch, 0, b, api.ErrArg)
		}
		for _, at := range []int{-1, -2, -1024, mostAt + 1, math.MinInt, math.MaxInt, math.MaxInt - 1, math.MaxInt - 1022, 1 << 48} {
			cutRefused(t, 1, at, b, api.ErrArg)
		}
		cutRefused(t, -1, -1, b, api.ErrArg)
	}
}

func TestCutWhereALaterPlaceIsBeyond(t *testing.T) {
	for _, count := range []int{1, 2, 3, 100, 1023, 1024} {
		b := pattern(count, 44*count)
		for _, at := range []int{mostAt - count - 1, mostAt - count, mostAt - count + 1} {
			checkCut(t, 1, at, b, cut(t, 1, at, b))
		}
		for at := mostAt - count + 2; at < mostAt+2; at++ {
			cutRefused(t, 1, at, b, api.ErrArg)
		}
	}
}

func TestTheOrderOfCutsErrors(t *testing.T) {
	b := pattern(1, mostBytes+1)
	for _, epoch := range []int{-1, 0, mostEpoch, mostEpoch + 1, math.MinInt, math.MaxInt} {
		for _, at := range []int{-1, 0, mostAt - 1024, mostAt - 1, mostAt, mostAt + 1, math.MinInt, math.MaxInt} {
			cutRefused(t, epoch, at, b, api.ErrLimit)
		}
	}
}

// P6.3

// three is a record of three pieces, at 100 and of the epoch 7, and its bytes.
func three(t *testing.T) ([][]byte, []byte) {
	t.Helper()
	b := pattern(5, 100)
	return cut(t, 7, 100, b), b
}

func TestGatherWithWhateverBehind(t *testing.T) {
	other := cut(t, 8, 103, pattern(1, 200))
	for _, n := range []int{0, 1, 43, 44, 45, 100, 3000} {
		b := pattern(n, n)
		l := cut(t, 7, 100, b)
		want := record{b, 7, len(l), api.OK}
		gathers(t, l, 100, want)
		for _, behind := range [][][]byte{
			{nil},
			{{}},
			{{1, 2, 3}},
			{make([]byte, 64)},
			{make([]byte, 65)},
			{bitTurned(l[0], 3)},
			other,
			l, // itself once more
			append(copied(other), nil, make([]byte, 64)),
		} {
			gathers(t, append(copied(l), behind...), 100, want)
		}
	}
}

func TestGatherOfAnEmptyList(t *testing.T) {
	for _, at := range []int{0, 100, -1, mostAt, mostAt + 1, math.MinInt, math.MaxInt} {
		gatherRefused(t, nil, at, api.ErrShort)
		gatherRefused(t, [][]byte{}, at, api.ErrShort)
	}
}

func TestGatherAtEachEdge(t *testing.T) {
	for _, n := range []int{0, 44, 45, 100} {
		b := pattern(n, n)
		count := frame.Need(n)
		for _, at := range []int{0, 1, 1 << 40, mostAt - count, mostAt - count + 1} {
			for _, epoch := range []int{0, 1, mostEpoch} {
				l := cut(t, epoch, at, b)
				gathers(t, l, at, record{b, epoch, count, api.OK})
				for _, other := range []int{at - 1, at + 1, at - count, at + count, at + 1<<48, at - 1<<48, -at - 1, math.MinInt, math.MinInt + 1, math.MaxInt, math.MaxInt - 1} {
					gatherRefused(t, l, other, api.ErrForm)
				}
			}
		}
	}
}

func TestGatherWithASectorLeftOut(t *testing.T) {
	l, b := three(t)
	gathers(t, l, 100, record{b, 7, 3, api.OK})
	gatherRefused(t, l[:2], 100, api.ErrShort)
	gatherRefused(t, l[:1], 100, api.ErrShort)
	gatherRefused(t, l[:0], 100, api.ErrShort)
	gatherRefused(t, l[1:], 100, api.ErrForm)
	gatherRefused(t, l[1:], 101, api.ErrForm) // its place is right, its Index is not
	gatherRefused(t, l[2:], 102, api.ErrForm)
	gatherRefused(t, [][]byte{l[0], l[2]}, 100, api.ErrForm)
	next := cut(t, 7, 103, pattern(1, 100))
	gatherRefused(t, append(copied(l[:2]), next...), 100, api.ErrForm)
	gatherRefused(t, append(copied(l[:1]), next...), 100, api.ErrForm)
}

func TestGatherWithASectorInAnothersPlace(t *testing.T) {
	l, _ := three(t)
	for i := range l {
		for j := range l {
			if i != j {
				gatherRefused(t, with(l, i, l[j]), 100, api.ErrForm)
			}
		}
	}
	for _, order := range [][3]int{{0, 2, 1}, {1, 0, 2}, {1, 2, 0}, {2, 0, 1}, {2, 1, 0}} {
		gatherRefused(t, [][]byte{l[order[0]], l[order[1]], l[order[2]]}, 100, api.ErrForm)
	}
}

func TestGatherWithASectorOfAnother(t *testing.T) {
	l, b := three(t)
	for _, x := range []struct {
		what  string
		other [][]byte
	}{
		{"epoch", cut(t, 8, 100, b)},
		{"lower epoch", cut(t, 6, 100, b)},
		{"count", cut(t, 7, 100, pattern(5, 140))},
		{"place", cut(t, 7, 101, b)},
		{"round of the ring", cut(t, 7, 100+4096, b)},
		{"record", cut(t, 9, 50, pattern(3, 3000))},
	} {
		for i := range l {
			b, epoch, count, e := frame.Gather(with(l, i, x.other[i]), 100)
			if e == api.OK || b != nil || epoch != 0 || count != 0 {
				t.Errorf("another %s at %d: %v, %d, %d, %v", x.what, i, b, epoch, count, e)
			}
			gatherRefused(t, with(l, i, x.other[i]), 100, api.ErrForm)
		}
	}
}

func TestGatherOfEachStampThatIsAnother(t *testing.T) {
	good := frame.Piece{Epoch: 7, At: 101, Index: 1, Count: 3, Data: pattern(2, 44)}
	l, b := three(t)
	gathers(t, with(l, 1, write(t, good)), 100, record{slices.Concat(b[:44], pattern(2, 44), b[88:]), 7, 3, api.OK})
	for _, turn := range []func(*frame.Piece){
		func(p *frame.Piece) { p.Epoch = 6 },
		func(p *frame.Piece) { p.Epoch = 8 },
		func(p *frame.Piece) { p.Epoch = 0 },
		func(p *frame.Piece) { p.Epoch += 1 << 31 },
		func(p *frame.Piece) { p.At = 100 },
		func(p *frame.Piece) { p.At = 102 },
		func(p *frame.Piece) { p.At = 1 },
		func(p *frame.Piece) { p.At += 1 << 32 },
		func(p *frame.Piece) { p.Index = 0 },
		func(p *frame.Piece) { p.Index = 2 },
		func(p *frame.Piece) { p.Index, p.At = 0, 100 },
		func(p *frame.Piece) { p.Index, p.At = 2, 102 }, // of that record, but not here
		func(p *frame.Piece) { p.Count = 2 },
		func(p *frame.Piece) { p.Count = 4 },
		func(p *frame.Piece) { p.Count = 1024 },
	} {
		p := good
		turn(&p)
		gatherRefused(t, with(l, 1, write(t, p)), 100, api.ErrForm)
	}
}

func TestGatherOfATornSector(t *testing.T) {
	l, b := three(t)
	other := cut(t, 8, 300, pattern(9, 100))
	for i := range l {
		for n := 1; n < 64; n++ {
			one := torn(l[i], other[i], n)
			if bytes.Equal(one, l[i]) || bytes.Equal(one, other[i]) {
				continue
			}
			gatherRefused(t, with(l, i, one), 100, api.ErrSum)
		}
		for n := range 64 {
			gatherRefused(t, with(l, i, l[i][:n]), 100, api.ErrShort)
		}
		gatherRefused(t, with(l, i, nil), 100, api.ErrShort)
		gatherRefused(t, with(l, i, append(bytes.Clone(l[i]), 0)), 100, api.ErrForm)
		gatherRefused(t, with(l, i, make([]byte, 64)), 100, api.ErrSum)
	}
	gathers(t, l, 100, record{b, 7, 3, api.OK})
}

func TestGatherOfEachBitTurned(t *testing.T) {
	for _, n := range []int{0, 30, 44, 45, 100} { // P6.4
		l := cut(t, 7, 100, pattern(5, n))
		for i := range l {
			for bit := range 64 * 8 {
				gatherRefused(t, with(l, i, bitTurned(l[i], bit)), 100, api.ErrSum)
			}
		}
	}
}

func TestGatherOfEachBitTurnedUnderARightSum(t *testing.T) {
	l, _ := three(t)
	for i := range l {
		for bit := 8 * epochAt; bit < 8*dataAt; bit++ {
			switch at := bit / 8; {
			case i == 0 && at >= countAt && at < sizeAt: // it may be a shorter record's first one
				continue
			case i == 2 && at == sizeAt: // the last one may have more data, that are 0
				continue
			}
			gatherRefused(t, with(l, i, sealed(bitTurned(l[i], bit)[4:])), 100, api.ErrForm)
		}
	}
}

func TestTheFirstErrorThatIsMet(t *testing.T) {
	l, _ := three(t)
	sum := bitTurned(l[1], 300)
	form := write(t, frame.Piece{Epoch: 7, At: 101, Index: 1, Count: 4, Data: pattern(1, 44)})
	noPiece := fields{count: 2000}.sector()
	for k, x := range []struct {
		l    [][]byte
		want api.Errno
	}{
		{[][]byte{l[0], sum}, api.ErrSum}, // ahead of the third one's want
		{[][]byte{l[0], form}, api.ErrForm},
		{[][]byte{l[0], noPiece}, api.ErrForm},
		{[][]byte{l[0], nil}, api.ErrShort},
		{[][]byte{l[0], l[1]}, api.ErrShort},
		{[][]byte{l[0], sum, form}, api.ErrSum},
		{[][]byte{l[0], form, sum}, api.ErrForm},
		{[][]byte{l[0], nil, sum}, api.ErrShort},
		{[][]byte{l[0], sum, nil}, api.ErrSum},
		{[][]byte{l[0], form, nil}, api.ErrForm},
		{[][]byte{sum, form, nil}, api.ErrSum},
		{[][]byte{sum}, api.ErrSum},
		{[][]byte{form}, api.ErrForm},
		{[][]byte{l[1], sum, nil}, api.ErrForm}, // the first one's own stamp is held first
		{[][]byte{noPiece, sum, nil}, api.ErrForm},
		{[][]byte{nil, sum}, api.ErrShort},
		{[][]byte{l[0][:63], sum}, api.ErrShort},
		{[][]byte{append(bytes.Clone(l[0]), 1), sum}, api.ErrForm},
		{[][]byte{l[0], bitTurned(form, 0), nil}, api.ErrSum}, // Read's error ahead of the stamp
		{[][]byte{l[0], form[:60], sum}, api.ErrShort},
	} {
		b, epoch, count, e := frame.Gather(x.l, 100)
		if e != x.want || b != nil || epoch != 0 || count != 0 {
			t.Errorf("%d: %v, %d, %d, %v, want %v", k, b, epoch, count, e, x.want)
		}
		gatherRefused(t, x.l, 100, x.want)
	}
	gatherRefused(t, [][]byte{l[0], sum}, 99, api.ErrForm)
	gatherRefused(t, [][]byte{bitTurned(l[0], 9), sum}, 99, api.ErrSum)
}

func TestGatherOfTheLongestRecord(t *testing.T) {
	b := pattern(1, mostBytes)
	l := cut(t, 3, mostAt-1023, b)
	gathers(t, l, mostAt-1023, record{b, 3, 1024, api.OK})
	gatherRefused(t, l[:1023], mostAt-1023, api.ErrShort)
	gatherRefused(t, with(l, 1023, l[1022]), mostAt-1023, api.ErrForm)
	gatherRefused(t, with(l, 1023, bitTurned(l[1023], 511)), mostAt-1023, api.ErrSum)
}

func TestGatherOfALastPieceOfNone(t *testing.T) { // no Cut makes it, but it may be
	first := write(t, frame.Piece{Epoch: 1, At: 5, Index: 0, Count: 2, Data: pattern(1, 44)})
	last := write(t, frame.Piece{Epoch: 1, At: 6, Index: 1, Count: 2})
	gathers(t, [][]byte{first, last}, 5, record{pattern(1, 44), 1, 2, api.OK})
	gatherRefused(t, [][]byte{first}, 5, api.ErrShort)
}

func TestGatherWhereALaterPlaceCanNotBe(t *testing.T) {
	first := write(t, frame.Piece{Epoch: 1, At: mostAt, Index: 0, Count: 2, Data: pattern(1, 44)})
	gatherRefused(t, [][]byte{first}, mostAt, api.ErrShort)
	second := fields{epoch: 1, at: mostAt + 1, index: 1, count: 2}.sector()
	gatherRefused(t, [][]byte{first, second}, mostAt, api.ErrForm)
}

// R3

func TestWhatIsHandedInIsAsItWas(t *testing.T) {
	for _, n := range []int{0, 43, 44, 45, 1000} {
		b := append(pattern(n, n), pattern(1, 300)...)[:n] // with room behind that holds marks
		was := bytes.Clone(b[:n+300])
		p := frame.Piece{Epoch: 1, At: 2, Index: 3, Count: 4, Data: b[:min(n, 44)]}
		sector := write(t, p)
		l := cut(t, 1, 2, b)
		if !bytes.Equal(b[:n+300], was) {
			t.Errorf("%d bytes that were handed in became others", n)
		}
		sectorWas, lWas := bytes.Clone(sector), copied(l)
		reads(t, sector, p)
		gathers(t, l, 2, record{b, 1, len(l), api.OK})
		readRefused(t, bitTurned(sector, 1), api.ErrSum)
		gatherRefused(t, l, 3, api.ErrForm)
		if !bytes.Equal(sector, sectorWas) || !slices.EqualFunc(l, lWas, bytes.Equal) {
			t.Errorf("sectors of %d bytes became others", n)
		}
	}
}

// spoil writes over bytes and the room behind them.
func spoil(b []byte) {
	b = b[:cap(b)]
	for i := range b {
		b[i] = 0xEE
	}
}

func TestWhatIsAnsweredIsNewMemory(t *testing.T) {
	for _, n := range []int{1, 43, 44} {
		data := pattern(n, n)
		p := frame.Piece{Epoch: 1, At: 2, Index: 3, Count: 4, Data: data}
		a, b := write(t, p), write(t, p)
		spoil(a)
		reads(t, b, p)
		if !bytes.Equal(data, pattern(n, n)) {
			t.Error("Write answers what was handed in")
		}
		c, _ := frame.Read(b)
		d, _ := frame.Read(b)
		spoil(c.Data)
		if !bytes.Equal(d.Data, data) || !bytes.Equal(b, fieldsOf(p).sector()) {
			t.Error("Read's data share memory with another, or the sector")
		}
		spoil(b)
		if !bytes.Equal(d.Data, data) {
			t.Error("Read's data are the sector's")
		}
	}
}

func TestWhatIsCutAndGatheredIsNewMemory(t *testing.T) {
	for _, n := range []int{0, 44, 45, 1000} {
		data := pattern(n, n)
		a, b := cut(t, 1, 2, data), cut(t, 1, 2, data)
		for i := range a {
			spoil(a[i])
			checkCut(t, 1, 2+i+1, data, cut(t, 1, 2+i+1, data))
			for j := i + 1; j < len(a); j++ {
				if !bytes.Equal(a[j], b[j]) {
					t.Fatalf("of %d bytes the sectors %d and %d share memory", n, i, j)
				}
			}
		}
		checkCut(t, 1, 2, pattern(n, n), b)
		c, _, _, _ := frame.Gather(b, 2)
		d, _, _, _ := frame.Gather(b, 2)
		spoil(c)
		if !bytes.Equal(d, data) {
			t.Errorf("of %d bytes two records share memory", n)
		}
		checkCut(t, 1, 2, pattern(n, n), b)
		for _, sector := range b {
			spoil(sector)
		}
		if !bytes.Equal(d, data) {
			t.Errorf("of %d bytes the record is the sectors' own", n)
		}
	}
}

func TestNothingIsKept(t *testing.T) {
	l, b := three(t)
	data := pattern(1, 44)
	p := frame.Piece{Epoch: 1, At: 2, Index: 0, Count: 1, Data: data}
	sector := write(t, p)
	spoil(data) // a sector is not of the bytes that were handed in
	reads(t, sector, frame.Piece{Epoch: 1, At: 2, Index: 0, Count: 1, Data: pattern(1, 44)})
	writeRefused(t, frame.Piece{})
	readRefused(t, nil, api.ErrShort)
	cutRefused(t, -1, 0, nil, api.ErrArg)
	gatherRefused(t, with(l, 1, nil), 100, api.ErrShort)
	gathers(t, l, 100, record{b, 7, 3, api.OK})
	if again := cut(t, 7, 100, b); !slices.EqualFunc(again, l, bytes.Equal) {
		t.Error("one call changes another")
	}
}

// P6.4

// damage does with a list of sectors as bytes tell: sectors are moved, left out, doubled, torn, turned and sealed anew.
func damage(l [][]byte, script []byte) [][]byte {
	l = copied(l)
	for ; len(script) >= 4; script = script[4:] {
		if len(l) == 0 {
			break
		}
		i, j := int(script[1])%len(l), int(script[2])%len(l)
		switch script[0] % 8 {
		case 0:
			l[i], l[j] = l[j], l[i]
		case 1:
			l = slices.Delete(l, i, i+1)
		case 2:
			l = slices.Insert(l, i, bytes.Clone(l[j]))
		case 3:
			n := int(script[3]) % 65
			l[i] = slices.Concat(l[i][:min(n, len(l[i]))], l[j][min(n, len(l[j])):])
		case 4:
			if len(l[i]) > 0 {
				l[i] = bitTurned(l[i], int(script[3])*2%(8*len(l[i])))
			}
		case 5:
			l[i] = l[i][:min(int(script[3])%70, len(l[i]))]
		case 6:
			if len(l[i]) > dataAt { // one of its numbers another, under a right sum
				l[i][4+int(script[2])%16] = script[3]
				l[i] = sealed(l[i][4:])
			}
		case 7:
			l[i] = append(l[i], script[3])
		}
	}
	return l
}

// checkGather holds Gather against the plain way, and what it gathers against what would be cut of it.
func checkGather(t *testing.T, l [][]byte, at int) bool {
	t.Helper()
	was := copied(l)
	b, epoch, count, e := frame.Gather(l, at)
	if got, want := (record{b, epoch, count, e}), plainGather(l, at); !sameRecord(got, want) {
		t.Fatalf("Gather of %d sectors at %d = %v, want %v", len(l), at, got, want)
	}
	if !slices.EqualFunc(l, was, bytes.Equal) {
		t.Fatal("Gather changes what was handed in")
	}
	if e != api.OK {
		return false
	}
	again := cut(t, epoch, at, b)
	if len(again) == count-1 && l[count-1][sizeAt] == 0 { // a last piece of none, that is not cut but may be
		return true
	}
	if !slices.EqualFunc(again, l[:count], bytes.Equal) {
		t.Fatalf("of %d sectors at %d others are cut than were gathered", len(l), at)
	}
	return true
}

// script is bytes of any kind, that a seed tells.
func script(seed uint32, n int) []byte {
	b := make([]byte, n)
	for i := range b {
		seed = seed*1664525 + 1013904223
		b[i] = byte(seed >> 24)
	}
	return b
}

func TestDamageOfAnyKind(t *testing.T) {
	gathered, refused := 0, 0
	for seed := range uint32(20000) {
		lens := script(seed, 5)
		at := int(lens[0])
		l := cut(t, int(lens[1])%3, at, pattern(int(seed), int(lens[2])))
		l = append(l, cut(t, int(lens[3])%3, at+len(l), pattern(int(seed), int(lens[4])))...)
		l = damage(l, script(seed+7777, 4*int(seed%4)))
		if checkGather(t, l, at) {
			gathered++
		} else {
			refused++
		}
	}
	if gathered < 2000 || refused < 2000 {
		t.Errorf("%d gathered, %d refused", gathered, refused)
	}
}

func TestRecordsOneBehindTheOther(t *testing.T) {
	var l [][]byte
	var want []record
	for i := range 60 {
		b := pattern(i, i*i%500)
		sectors := cut(t, i/7, 1000+len(l), b)
		want = append(want, record{b, i / 7, len(sectors), api.OK})
		l = append(l, sectors...)
	}
	at := 0
	for _, r := range want {
		gathers(t, l[at:], 1000+at, r)
		at += r.count
	}
	if at != len(l) {
		t.Errorf("%d of %d sectors", at, len(l))
	}
	gatherRefused(t, l[at:], 1000+at, api.ErrShort)
}

// The example of the chapter.

func TestTheExample(t *testing.T) {
	if got := frame.Need(45); got != 2 {
		t.Error(got)
	}
	b := pattern(1, 45)
	l := cut(t, 1, 0, b)
	if len(l) != 2 {
		t.Error(len(l))
	}
	gathers(t, l, 0, record{b, 1, 2, api.OK})
}

// P1

func FuzzRead(f *testing.F) {
	for _, p := range pieces()[:20] {
		f.Add(fieldsOf(p).sector())
	}
	f.Add([]byte(nil))
	f.Add(make([]byte, 65))
	f.Fuzz(func(t *testing.T, b []byte) {
		all := [][]byte{b}
		if len(b) >= 4 {
			all = append(all, sealed(b[4:])) // by any bytes alone no sum is right
		}
		for _, b := range all {
			p, e := frame.Read(b)
			want, wantE := plainRead(b)
			if e != wantE || !samePiece(p, want) {
				t.Fatalf("Read(%v) = %v, %v, want %v, %v", b, p, e, want, wantE)
			}
			if e == api.OK && !bytes.Equal(write(t, p), b) {
				t.Fatalf("Read(%v) is not what was written", b)
			}
		}
	})
}

func FuzzWrite(f *testing.F) {
	f.Add(1, 2, 3, 4, pattern(1, 44))
	f.Add(mostEpoch, mostAt, 1023, 1024, []byte(nil))
	f.Add(-1, math.MaxInt, math.MinInt, 0, pattern(1, 45))
	f.Fuzz(func(t *testing.T, epoch, at, index, count int, data []byte) {
		p := frame.Piece{Epoch: epoch, At: at, Index: index, Count: count, Data: data}
		if plainMayBe(p) {
			reads(t, write(t, p), p)
		} else {
			writeRefused(t, p)
		}
		l, e := frame.Cut(epoch, at, data)
		if e != api.OK {
			return
		}
		checkCut(t, epoch, at, data, l)
		gathers(t, l, at, record{data, epoch, len(l), api.OK})
	})
}

func FuzzGather(f *testing.F) {
	f.Add(7, 100, pattern(1, 100), 100, []byte{0, 1, 2, 3})
	f.Add(7, 100, pattern(1, 300), 100, script(3, 12))
	f.Add(0, mostAt, []byte(nil), mostAt, []byte(nil))
	f.Add(7, 100, make([]byte, 45), 100, []byte{6, 1, sizeAt - 4, 0}) // the last piece of none
	f.Fuzz(func(t *testing.T, epoch, at int, b []byte, asked int, script []byte) {
		l, e := frame.Cut(epoch, at, b)
		if e != api.OK {
			return
		}
		l = damage(l, script[:min(len(script), 400)])
		checkGather(t, l, asked)
		checkGather(t, l, at)
	})
}
