package sum_test

import (
	"bytes"
	"hash/crc32"
	"math"
	"slices"
	"testing"

	"heronry/api"
	"heronry/sum"
)

// turned is the number that is turned in (P3.1).
const turned = 0xEDB88320

// round is how many halvings lead each number back to itself.
const round = 1<<32 - 1

// halvings is v so many times halved, as P3.1 and P3.4 tell it.
func halvings(v uint32, times int) uint32 {
	for range times {
		low := v % 2
		v /= 2
		if low == 1 {
			v ^= turned
		}
	}
	return v
}

// plainMore is More, bit by bit, without a table.
func plainMore(s uint32, b []byte) uint32 {
	v := ^s
	for _, x := range b {
		v = halvings(v^uint32(x), 8)
	}
	return ^v
}

// plainJoin is Join, byte by byte.
func plainJoin(a, b uint32, n int) uint32 {
	for range max(n, 0) {
		a = halvings(a, 8)
	}
	return a ^ b
}

// matrix is what 32 bits become, each on its own: all that halvings make of a number.
type matrix [32]uint32

// of is what a number becomes.
func (m matrix) of(v uint32) uint32 {
	out := uint32(0)
	for i, x := range m {
		if v>>i&1 == 1 {
			out ^= x
		}
	}
	return out
}

// matrixJoin is Join by squared matrices, for counts of bytes that can't be gone over.
func matrixJoin(a, b uint32, n int) uint32 {
	var m matrix
	for i := range m {
		m[i] = halvings(1<<i, 8)
	}
	for ; n > 0; n /= 2 {
		if n%2 == 1 {
			a = m.of(a)
		}
		twice := m
		for i, x := range m {
			twice[i] = m.of(x)
		}
		m = twice
	}
	return a ^ b
}

// pattern is n bytes of which neighbours, and those 256 apart, are unlike.
func pattern(n int) []byte {
	b := make([]byte, n)
	for i := range b {
		b[i] = byte(i*7 + i>>8 + 1)
	}
	return b
}

// roomy is b with room behind it that holds marks: who appends in place writes over them.
func roomy(b []byte) []byte {
	l := append(append(make([]byte, 0, len(b)+32), b...), bytes.Repeat([]byte{0xEE}, 32)...)
	return l[:len(b)]
}

// untouched tells whether the marks of roomy are still there.
func untouched(b []byte) bool {
	return bytes.Equal(b[len(b):cap(b)][:32], bytes.Repeat([]byte{0xEE}, 32))
}

// bitTurned is a copy of b with one bit turned.
func bitTurned(b []byte, bit int) []byte {
	l := bytes.Clone(b)
	l[bit/8] ^= 1 << (bit % 8)
	return l
}

// sums is numbers that a sum may be: the edges, single bits, and some of any bits.
func sums() []uint32 {
	l := []uint32{0, 2, 3, 0xFF, 0xFFFF, 0x7FFFFFFF, 0xFFFFFFFE, math.MaxUint32, turned, 0xCBF43926, ^uint32(turned)}
	for i := range 32 {
		l = append(l, 1<<i)
	}
	for i := range uint32(20) {
		l = append(l, (i+1)*0x9E3779B9^i<<13)
	}
	return l
}

// P3.1

func TestTableEntries(t *testing.T) {
	table := sum.Table()
	for i, got := range table {
		if want := halvings(uint32(i), 8); got != want {
			t.Errorf("entry %d = %08X, want %08X", i, got, want)
		}
	}
	if table != *crc32.IEEETable {
		t.Error("it is not the table of CRC-32")
	}
	for i, want := range map[int]uint32{0: 0, 1: 0x77073096, 2: 0xEE0E612C, 128: turned, 255: 0x2D02EF8D} {
		if table[i] != want {
			t.Errorf("entry %d = %08X, want %08X", i, table[i], want)
		}
	}
}

func TestTableIsNotKept(t *testing.T) {
	table := sum.Table()
	want := table
	clear(table[:])
	if sum.Table() != want || sum.Of([]byte("123456789")) != 0xCBF43926 {
		t.Error("what is done to a table is to be seen in another")
	}
}

// P3.2

func TestOfSome(t *testing.T) {
	for _, x := range []struct {
		b    []byte
		want uint32
	}{
		{nil, 0},
		{[]byte{}, 0},
		{[]byte{0}, 0xD202EF8D},
		{[]byte{255}, 0xFF000000},
		{[]byte("a"), 0xE8B7BE43},
		{[]byte("abc"), 0x352441C2},
		{[]byte("The quick brown fox jumps over the lazy dog"), 0x414FA339},
		{make([]byte, 4), 0x2144DF1C},
		{bytes.Repeat([]byte{255}, 4), 0xFFFFFFFF},
		{make([]byte, 32), 0x190A55AD},
		{bytes.Repeat([]byte{255}, 32), 0xFF6CAB0B},
	} {
		if got := sum.Of(x.b); got != x.want {
			t.Errorf("Of(%v) = %08X, want %08X", x.b, got, x.want)
		}
		if got := sum.More(0, x.b); got != x.want {
			t.Errorf("More(0, %v) = %08X, want %08X", x.b, got, x.want)
		}
	}
}

func TestOfAny(t *testing.T) {
	lots := [][]byte{pattern(65535), pattern(65536), pattern(100_003), make([]byte, 1000)}
	for n := range 600 {
		lots = append(lots, pattern(n))
	}
	for i := range 256 {
		lots = append(lots, []byte{byte(i)}, []byte{byte(i), 1}, []byte{1, byte(i)})
	}
	for _, b := range lots {
		got := sum.Of(b)
		if got != plainMore(0, b) || got != crc32.ChecksumIEEE(b) {
			t.Errorf("Of %d bytes = %08X, want %08X", len(b), got, plainMore(0, b))
		}
	}
}

func TestMoreFromAny(t *testing.T) {
	for _, s := range sums() {
		for _, b := range [][]byte{nil, {}, {0}, {255}, {0, 0, 0, 0}, {1, 2, 3}, pattern(300)} {
			got := sum.More(s, b)
			if got != plainMore(s, b) || got != crc32.Update(s, crc32.IEEETable, b) {
				t.Errorf("More(%08X, %d bytes) = %08X, want %08X", s, len(b), got, plainMore(s, b))
			}
		}
		if sum.More(s, nil) != s || sum.More(s, []byte{}) != s {
			t.Errorf("no bytes change %08X", s)
		}
	}
}

func TestMoreInPieces(t *testing.T) {
	b := pattern(90)
	for _, s := range append([]uint32{0}, sums()...) {
		want := sum.More(s, b)
		single := s
		for from := range b {
			single = sum.More(single, b[from:from+1])
			for _, to := range []int{from, from + 1, (from + len(b)) / 2, len(b)} {
				if got := sum.More(sum.More(sum.More(s, b[:from]), b[from:to]), b[to:]); got != want {
					t.Fatalf("from %08X, cut at %d and %d: %08X, want %08X", s, from, to, got, want)
				}
			}
		}
		if single != want {
			t.Fatalf("from %08X, byte by byte: %08X, want %08X", s, single, want)
		}
	}
}

func TestOneBehindTheOtherIsOf(t *testing.T) {
	b := pattern(700)
	for cut := range b {
		if sum.More(sum.Of(b[:cut]), b[cut:]) != sum.Of(b) {
			t.Fatal(cut)
		}
	}
}

// P3.3

func TestSealLaysTheSumBehind(t *testing.T) {
	for _, x := range []struct{ b, last []byte }{
		{nil, []byte{0, 0, 0, 0}},
		{[]byte{}, []byte{0, 0, 0, 0}},
		{[]byte{0}, []byte{0x8D, 0xEF, 0x02, 0xD2}},
		{[]byte("abc"), []byte{0xC2, 0x41, 0x24, 0x35}},
		{[]byte("123456789"), []byte{0x26, 0x39, 0xF4, 0xCB}},
	} {
		if got := sum.Seal(x.b); !bytes.Equal(got, slices.Concat(x.b, x.last)) {
			t.Errorf("Seal(%v) = %v", x.b, got)
		}
	}
	for _, n := range []int{1, 3, 4, 5, 60, 64, 255, 256, 65535, 65536, 70000} {
		b := pattern(n)
		s := crc32.ChecksumIEEE(b)
		if got := sum.Seal(b); !bytes.Equal(got, append(pattern(n), byte(s), byte(s>>8), byte(s>>16), byte(s>>24))) {
			t.Errorf("Seal of %d bytes is another one", n)
		}
	}
}

func TestWhatIsSealedIsOpened(t *testing.T) { // P3.5
	lots := [][]byte{nil, {}, {0}, {0, 0, 0, 0}, make([]byte, 100), pattern(65535), pattern(65536), pattern(70000)}
	for n := range 300 {
		lots = append(lots, pattern(n))
	}
	for _, b := range lots {
		sealed := sum.Seal(b)
		if got, e := sum.Open(sealed); !bytes.Equal(got, b) || e != api.OK {
			t.Errorf("%d bytes that were sealed are opened as %d, %v", len(b), len(got), e)
		}
		twice := sum.Seal(sealed)
		if got, e := sum.Open(twice); !bytes.Equal(got, sealed) || e != api.OK {
			t.Errorf("%d bytes that were sealed twice are opened as %d, %v", len(b), len(got), e)
		}
	}
}

func TestOpenOfFewerThanFour(t *testing.T) {
	for _, b := range [][]byte{nil, {}, {0}, {0, 0}, {0, 0, 0}, {1}, {1, 2}, {1, 2, 3}, {255, 255, 255}, sum.Seal(nil)[:3], sum.Seal([]byte("abc"))[:3]} {
		if got, e := sum.Open(b); got != nil || e != api.ErrShort {
			t.Errorf("Open(%v) = %v, %v", b, got, e)
		}
		// What lies behind the bytes in memory is none of them.
		long := append(bytes.Clone(b), 0, 0, 0, 0)
		if got, e := sum.Open(long[:len(b)]); got != nil || e != api.ErrShort {
			t.Errorf("Open(%v), more behind it = %v, %v", b, got, e)
		}
	}
}

func TestOpenOfFour(t *testing.T) {
	if got, e := sum.Open([]byte{0, 0, 0, 0}); len(got) != 0 || e != api.OK {
		t.Errorf("the sum of no bytes is opened as %v, %v", got, e)
	}
	for _, b := range [][]byte{{1, 0, 0, 0}, {0, 0, 0, 1}, {1, 2, 3, 4}, {255, 255, 255, 255}, {0x20, 0x83, 0xB8, 0xED}} {
		if got, e := sum.Open(b); got != nil || e != api.ErrSum {
			t.Errorf("Open(%v) = %v, %v", b, got, e)
		}
	}
	for bit := range 32 {
		if got, e := sum.Open(bitTurned(make([]byte, 4), bit)); got != nil || e != api.ErrSum {
			t.Errorf("Open of four with bit %d = %v, %v", bit, got, e)
		}
	}
}

func TestOpenOfEachBitTurned(t *testing.T) {
	for n := range 70 {
		sealed := sum.Seal(pattern(n))
		for bit := range 8 * len(sealed) {
			if got, e := sum.Open(bitTurned(sealed, bit)); got != nil || e != api.ErrSum {
				t.Fatalf("%d bytes, bit %d turned: %v, %v", n, bit, got, e)
			}
		}
		if _, e := sum.Open(sealed); e != api.OK {
			t.Fatal(n, e)
		}
	}
}

func TestOpenOfAnotherSum(t *testing.T) {
	b := []byte("123456789")
	for name, last := range map[string][]byte{
		"the highest first":       {0xCB, 0xF4, 0x39, 0x26},
		"its bits turned":         {0xD9, 0xC6, 0x0B, 0x34},
		"of other bytes":          {0xC2, 0x41, 0x24, 0x35},
		"of none":                 {0, 0, 0, 0},
		"with a byte too many":    {0x26, 0x39, 0xF4, 0xCB, 0},
		"with a byte too few":     {0x26, 0x39, 0xF4},
		"the lowest two only":     {0x26, 0x39, 0, 0},
		"the highest two only":    {0, 0, 0xF4, 0xCB},
		"two times, other behind": {0x26, 0x39, 0xF4, 0xCB, 0x26, 0x39, 0xF4, 0xCB},
	} {
		if got, e := sum.Open(slices.Concat(b, last)); got != nil || e != api.ErrSum {
			t.Errorf("a sum %s: %v, %v", name, got, e)
		}
	}
	sealed := sum.Seal(b)
	if got, e := sum.Open(sealed[1:]); got != nil || e != api.ErrSum {
		t.Errorf("without the first byte: %v, %v", got, e)
	}
	if got, e := sum.Open(slices.Concat(sealed[4:9], sealed[:4], sealed[9:])); got != nil || e != api.ErrSum {
		t.Errorf("bytes in another order: %v, %v", got, e)
	}
}

// R3: what is handed in is not changed, and what is answered shares no memory with it.

func TestSealIsNewMemory(t *testing.T) {
	for n := range 40 {
		b := roomy(pattern(n))
		got := sum.Seal(b)
		again := sum.Seal(b)
		if !untouched(b) || !bytes.Equal(b, pattern(n)) {
			t.Fatalf("Seal of %d bytes changes what is handed in", n)
		}
		for i := range got {
			got[i] ^= 0x55
		}
		if !bytes.Equal(b, pattern(n)) {
			t.Fatalf("Seal of %d bytes answers the memory that was handed in", n)
		}
		if opened, e := sum.Open(again); !bytes.Equal(opened, b) || e != api.OK {
			t.Fatalf("two answers of Seal of %d bytes share memory", n)
		}
	}
}

func TestOpenIsNewMemory(t *testing.T) {
	for n := range 40 {
		sealed := sum.Seal(pattern(n))
		b := roomy(sealed)
		got, e := sum.Open(b)
		again, _ := sum.Open(b)
		if e != api.OK || !untouched(b) || !bytes.Equal(b, sealed) {
			t.Fatalf("Open of %d bytes changes what is handed in, or %v", n, e)
		}
		for i := range got {
			got[i] ^= 0x55
		}
		_ = append(got, 1, 2, 3, 4, 5)
		if !untouched(b) || !bytes.Equal(b, sealed) {
			t.Fatalf("Open of %d bytes answers the memory that was handed in", n)
		}
		if !bytes.Equal(again, pattern(n)) {
			t.Fatalf("two answers of Open of %d bytes share memory", n)
		}
	}
}

func TestNothingElseIsChanged(t *testing.T) {
	b := roomy(pattern(50))
	sum.Of(b)
	sum.More(7, b)
	if got, e := sum.Open(b); got != nil || e != api.ErrSum {
		t.Error(got, e)
	}
	if !untouched(b) || !bytes.Equal(b, pattern(50)) {
		t.Error("what is handed in is changed")
	}
}

// P3.4

func TestJoinIsOfBoth(t *testing.T) {
	b := pattern(1500)
	for _, end := range []int{0, 1, 2, 3, 4, 5, 64, 100, 255, 256, 257, 1500} {
		for cut := 0; cut <= end; cut++ {
			first, second := b[:cut], b[cut:end]
			if got := sum.Join(sum.Of(first), sum.Of(second), len(second)); got != sum.Of(b[:end]) {
				t.Fatalf("%d bytes and %d: %08X, want %08X", cut, end-cut, got, sum.Of(b[:end]))
			}
		}
	}
	long := append(pattern(3), make([]byte, 1<<20)...)
	if sum.Join(sum.Of(pattern(3)), sum.Of(make([]byte, 1<<20)), 1<<20) != sum.Of(long) {
		t.Error("three bytes, and very many of 0")
	}
}

func TestJoinOfThree(t *testing.T) {
	l := [][]byte{pattern(40), []byte("abc"), pattern(900)}
	a, b, c := sum.Of(l[0]), sum.Of(l[1]), sum.Of(l[2])
	left := sum.Join(sum.Join(a, b, 3), c, 900)
	right := sum.Join(a, sum.Join(b, c, 900), 903)
	if want := sum.Of(slices.Concat(l...)); left != want || right != want {
		t.Errorf("%08X, %08X, want %08X", left, right, want)
	}
}

func TestJoinOfNoneAndBelow(t *testing.T) {
	for _, a := range sums() {
		for _, b := range sums() {
			for _, n := range []int{0, -1, -2, -8, -1 << 32, math.MinInt + 1, math.MinInt} {
				if got := sum.Join(a, b, n); got != a^b {
					t.Fatalf("Join(%08X, %08X, %d) = %08X", a, b, n, got)
				}
			}
		}
	}
}

func TestJoinOfAny(t *testing.T) {
	for _, n := range []int{1, 2, 3, 4, 5, 7, 8, 9, 15, 16, 17, 44, 60, 64, 255, 256, 1000, 4097} {
		for _, a := range sums() {
			for _, b := range []uint32{0, 1, 1 << 31, math.MaxUint32, 0x12345678} {
				if got := sum.Join(a, b, n); got != plainJoin(a, b, n) {
					t.Fatalf("Join(%08X, %08X, %d) = %08X, want %08X", a, b, n, got, plainJoin(a, b, n))
				}
			}
		}
	}
	for n := range 600 {
		if got := sum.Join(0xCBF43926, 0x352441C2, n); got != plainJoin(0xCBF43926, 0x352441C2, n) {
			t.Fatalf("of %d bytes: %08X", n, got)
		}
	}
}

func TestJoinOfGreatN(t *testing.T) {
	greats := []int{1<<31 - 1, 1 << 31, round, round + 1, 1 << 48, 123456789012345678, 1 << 62, 1<<62 - 1, 1<<62 + 1, math.MaxInt - 1, math.MaxInt}
	for bit := range 63 {
		greats = append(greats, 1<<bit)
	}
	for _, n := range greats {
		for _, a := range sums() {
			if got := sum.Join(a, 0x12345678, n); got != matrixJoin(a, 0x12345678, n) {
				t.Fatalf("Join(%08X, 12345678, %d) = %08X, want %08X", a, n, got, matrixJoin(a, 0x12345678, n))
			}
		}
	}
}

// Beyond a round all begins again, so a few halvings tell what a great n does: 2^29 bytes and 2^61 are one, 2^62 two, and as many as an int tells are four short of none.
func TestJoinGoesRound(t *testing.T) {
	for _, a := range sums() {
		if sum.Join(a, 0, round) != a {
			t.Fatalf("%08X does not come back", a)
		}
		for _, n := range []int{0, 1, 2, 100} {
			for _, rounds := range []int{1, 2, 1000, 1 << 30} {
				if got := sum.Join(a, 9, rounds*round+n); got != plainJoin(a, 9, n) {
					t.Fatalf("Join(%08X, 9, %d rounds and %d) = %08X", a, rounds, n, got)
				}
			}
		}
		if sum.Join(a, 0, 1<<29) != halvings(a, 1) || sum.Join(a, 0, 1<<61) != halvings(a, 1) || sum.Join(a, 0, 1<<62) != halvings(a, 2) {
			t.Fatalf("Join(%08X, 0, a power of two)", a)
		}
		if halvings(sum.Join(a, 0, math.MaxInt), 4) != a {
			t.Fatalf("Join(%08X, 0, the greatest int) = %08X", a, sum.Join(a, 0, math.MaxInt))
		}
	}
}

// P3.5

func TestOneBitTurnedIsAnotherSum(t *testing.T) {
	for _, b := range [][]byte{{0}, {255}, make([]byte, 64), pattern(64), pattern(700)} {
		for bit := range 8 * len(b) {
			if sum.Of(bitTurned(b, bit)) == sum.Of(b) {
				t.Fatalf("%d bytes, bit %d turned", len(b), bit)
			}
		}
	}
}

func TestExample(t *testing.T) {
	if got := sum.Of([]byte("123456789")); got != 0xCBF43926 {
		t.Errorf("%08X", got)
	}
}

// FuzzSum (P1): whatever bytes and numbers are handed in, no call panics, all of them agree with the plain ones, and what was handed in is as it was.
func FuzzSum(f *testing.F) {
	f.Add([]byte(nil), uint32(0), 0)
	f.Add([]byte("123456789"), uint32(0xCBF43926), 3)
	f.Add([]byte{0, 0, 0, 0}, uint32(math.MaxUint32), math.MinInt)
	f.Add(sum.Seal(pattern(60)), uint32(turned), math.MaxInt)
	f.Add(pattern(3), uint32(1), -1)
	f.Fuzz(func(t *testing.T, b []byte, s uint32, n int) {
		keep := bytes.Clone(b)
		if sum.More(s, b) != plainMore(s, b) || sum.Of(b) != plainMore(0, b) {
			t.Error("More or Of")
		}
		cut := min(max(n, 0), len(b))
		if sum.Join(sum.More(s, b[:cut]), sum.Of(b[cut:]), len(b)-cut) != sum.More(s, b) {
			t.Error("Join of two lots")
		}
		if sum.Join(s, sum.Of(b), n) != matrixJoin(s, plainMore(0, b), n) {
			t.Error("Join of any")
		}
		sealed := sum.Seal(b)
		if got, e := sum.Open(sealed); !bytes.Equal(got, b) || e != api.OK {
			t.Error("what is sealed is not opened:", e)
		}
		got, e := sum.Open(b)
		if e == api.OK && !bytes.Equal(sum.Seal(got), b) || e != api.OK && got != nil {
			t.Error("Open:", got, e)
		}
		if (e == api.ErrShort) != (len(b) < 4) || e != api.OK && e != api.ErrShort && e != api.ErrSum {
			t.Error("Open's error:", e)
		}
		if !bytes.Equal(b, keep) {
			t.Error("what was handed in is changed")
		}
	})
}
