package wire_test

import (
	"bytes"
	"math"
	"testing"

	"heronry/api"
	"heronry/wire"
)

// pattern is n bytes of which neighbours, and those 256 apart, are unlike.
func pattern(n int) []byte {
	b := make([]byte, n)
	for i := range b {
		b[i] = byte(i*7 + i>>8 + 1)
	}
	return b
}

// roomy is b with room behind it that holds marks: who appends in place writes over them.
func roomy(b []byte) []byte {
	l := append(append(make([]byte, 0, len(b)+32), b...), bytes.Repeat([]byte{0xEE}, 32)...)
	return l[:len(b)]
}

// untouched tells whether the marks of roomy are still there.
func untouched(b []byte) bool {
	return bytes.Equal(b[len(b):cap(b)][:32], bytes.Repeat([]byte{0xEE}, 32))
}

// P1.1

func TestPutLaysLowBytes(t *testing.T) {
	const v = 0x8877665544332211
	all := []byte{0x11, 0x22, 0x33, 0x44, 0x55, 0x66, 0x77, 0x88}
	for n := 0; n <= 8; n++ {
		for _, b := range [][]byte{nil, {}, {9}, {9, 8, 7}} {
			want := append(append([]byte{}, b...), all[:n]...)
			if got := wire.Put(b, v, n); !bytes.Equal(got, want) {
				t.Errorf("Put(%v, v, %d) = %v, want %v", b, n, got, want)
			}
		}
	}
	if got := wire.Put(nil, 258, 2); !bytes.Equal(got, []byte{2, 1}) {
		t.Errorf("Put(nil, 258, 2) = %v", got)
	}
	if got := wire.Put(nil, math.MaxUint64, 8); !bytes.Equal(got, bytes.Repeat([]byte{255}, 8)) {
		t.Errorf("Put of the greatest number = %v", got)
	}
}

func TestPutBringsSizeIntoRange(t *testing.T) {
	all := []byte{5, 1, 2, 3, 4, 0, 0, 0, 9}
	for _, n := range []int{-1, -8, math.MinInt} {
		if got := wire.Put([]byte{5}, 0x0900000004030201, n); !bytes.Equal(got, all[:1]) {
			t.Errorf("Put of %d bytes = %v", n, got)
		}
	}
	for _, n := range []int{9, 16, 1 << 40, math.MaxInt} {
		if got := wire.Put([]byte{5}, 0x0900000004030201, n); !bytes.Equal(got, all) {
			t.Errorf("Put of %d bytes = %v", n, got)
		}
	}
}

func TestSignedLaysEightBytes(t *testing.T) {
	for _, x := range []struct {
		v    int
		want []byte
	}{
		{0, []byte{0, 0, 0, 0, 0, 0, 0, 0}},
		{1, []byte{1, 0, 0, 0, 0, 0, 0, 0}},
		{258, []byte{2, 1, 0, 0, 0, 0, 0, 0}},
		{-1, []byte{255, 255, 255, 255, 255, 255, 255, 255}},
		{-2, []byte{254, 255, 255, 255, 255, 255, 255, 255}},
		{math.MaxInt, []byte{255, 255, 255, 255, 255, 255, 255, 127}},
		{math.MinInt, []byte{0, 0, 0, 0, 0, 0, 0, 128}},
	} {
		if got := wire.Signed([]byte{7}, x.v); !bytes.Equal(got, append([]byte{7}, x.want...)) {
			t.Errorf("Signed(7, %d) = %v", x.v, got)
		}
		if got := wire.Signed(nil, x.v); !bytes.Equal(got, x.want) {
			t.Errorf("Signed(nil, %d) = %v", x.v, got)
		}
	}
}

func TestListLaysCountAndBytes(t *testing.T) {
	for _, n := range []int{0, 1, 2, 255, 256, 257, 65534, 65535} {
		v := pattern(n)
		for _, b := range [][]byte{nil, {9}, {9, 8, 7}} {
			want := append(append(append([]byte{}, b...), byte(n%256), byte(n/256)), v...)
			if got := wire.List(b, v); !bytes.Equal(got, want) {
				t.Errorf("List(%v, %d bytes) is another one", b, n)
			}
		}
	}
	if got := wire.List([]byte{9}, nil); !bytes.Equal(got, []byte{9, 0, 0}) {
		t.Errorf("List of nil = %v", got)
	}
}

func TestListOfTooManyLaysNothing(t *testing.T) {
	for _, n := range []int{65536, 65537, 1 << 17} {
		for _, b := range [][]byte{nil, {9}, {9, 8, 7}} {
			if got := wire.List(b, pattern(n)); !bytes.Equal(got, b) {
				t.Errorf("List(%v, %d bytes) has %d bytes", b, n, len(got))
			}
		}
	}
}

// R3: what is handed in is not changed, and what is answered shares no memory with it.

func TestLayingIsNewMemory(t *testing.T) {
	v := []byte{4, 5}
	for name, lay := range map[string]func(b []byte) []byte{
		"Put":              func(b []byte) []byte { return wire.Put(b, 0x0102, 2) },
		"Put of none":      func(b []byte) []byte { return wire.Put(b, 1, 0) },
		"Signed":           func(b []byte) []byte { return wire.Signed(b, -3) },
		"List":             func(b []byte) []byte { return wire.List(b, v) },
		"List of too many": func(b []byte) []byte { return wire.List(b, make([]byte, 65536)) },
	} {
		b := roomy([]byte{1, 2, 3})
		got := lay(b)
		if !untouched(b) {
			t.Errorf("%s writes behind what is handed in", name)
		}
		for i := range got {
			got[i] = 77
		}
		if !bytes.Equal(b, []byte{1, 2, 3}) || !bytes.Equal(v, []byte{4, 5}) {
			t.Errorf("%s answers the memory that was handed in", name)
		}
	}
}

func TestLayingTwiceOnOneBeginning(t *testing.T) {
	b := wire.Put(nil, 1, 1)
	one := wire.Put(b, 2, 1)
	two := wire.Put(b, 3, 1)
	if !bytes.Equal(one, []byte{1, 2}) || !bytes.Equal(two, []byte{1, 3}) {
		t.Error(one, two)
	}
}

// P1.2

func TestGetOfEachSize(t *testing.T) {
	b := []byte{0x11, 0x22, 0x33, 0x44, 0x55, 0x66, 0x77, 0x88, 0x99}
	wants := []uint64{0x11, 0x2211, 0x332211, 0x44332211, 0x5544332211, 0x665544332211, 0x77665544332211, 0x8877665544332211}
	for i, want := range wants {
		n := i + 1
		r := wire.New(b)
		if v, e := r.Get(n); v != want || e != api.OK {
			t.Errorf("Get(%d) = %x, %v", n, v, e)
		}
		if r.Left() != len(b)-n {
			t.Errorf("behind Get(%d) %d bytes are left", n, r.Left())
		}
		if v, e := r.Get(1); v != uint64(b[n]) || e != api.OK {
			t.Errorf("the byte behind Get(%d) = %x, %v", n, v, e)
		}
	}
}

func TestGetErrors(t *testing.T) {
	for _, x := range []struct {
		bytes, n int
		want     api.Errno
	}{
		{9, 0, api.ErrArg}, {9, -1, api.ErrArg}, {9, 9, api.ErrArg}, {9, math.MinInt, api.ErrArg}, {9, math.MaxInt, api.ErrArg},
		{0, 0, api.ErrArg}, {0, 9, api.ErrArg}, {3, 9, api.ErrArg}, // ahead of ErrShort
		{0, 1, api.ErrShort}, {1, 2, api.ErrShort}, {3, 8, api.ErrShort}, {7, 8, api.ErrShort},
		{1, 1, api.OK}, {8, 8, api.OK},
	} {
		r := wire.New(pattern(x.bytes))
		v, e := r.Get(x.n)
		if e != x.want {
			t.Errorf("Get(%d) of %d bytes: %v, want %v", x.n, x.bytes, e, x.want)
		}
		if e != api.OK && (v != 0 || r.Left() != x.bytes) {
			t.Errorf("Get(%d) of %d bytes: beside the error %d, left %d", x.n, x.bytes, v, r.Left())
		}
	}
}

func TestPlaceStaysBesideGetErrors(t *testing.T) {
	r := wire.New([]byte{1, 2, 3, 4})
	if v, e := r.Get(1); v != 1 || e != api.OK {
		t.Fatal(v, e)
	}
	for _, n := range []int{4, 0, 8, -1, 9} {
		if _, e := r.Get(n); e == api.OK || r.Left() != 3 {
			t.Errorf("Get(%d): %v, left %d", n, e, r.Left())
		}
	}
	if _, e := r.Signed(); e != api.ErrShort || r.Left() != 3 {
		t.Errorf("Signed: %v, left %d", e, r.Left())
	}
	if v, e := r.Get(3); v != 0x040302 || e != api.OK {
		t.Error(v, e)
	}
}

func TestSignedReads(t *testing.T) {
	for _, x := range []struct {
		b    []byte
		want int
	}{
		{[]byte{0, 0, 0, 0, 0, 0, 0, 0}, 0},
		{[]byte{2, 1, 0, 0, 0, 0, 0, 0}, 258},
		{[]byte{255, 255, 255, 255, 255, 255, 255, 255}, -1},
		{[]byte{254, 255, 255, 255, 255, 255, 255, 255}, -2},
		{[]byte{255, 255, 255, 255, 255, 255, 255, 127}, math.MaxInt},
		{[]byte{0, 0, 0, 0, 0, 0, 0, 128}, math.MinInt},
	} {
		r := wire.New(append(x.b, 9))
		if v, e := r.Signed(); v != x.want || e != api.OK || r.Left() != 1 {
			t.Errorf("Signed of %v = %d, %v, left %d", x.b, v, e, r.Left())
		}
	}
	for n := range 8 {
		r := wire.New(bytes.Repeat([]byte{255}, n))
		if v, e := r.Signed(); v != 0 || e != api.ErrShort || r.Left() != n {
			t.Errorf("Signed of %d bytes = %d, %v, left %d", n, v, e, r.Left())
		}
	}
}

// P1.3

func TestListReads(t *testing.T) {
	for _, n := range []int{0, 1, 2, 255, 256, 257, 65535} {
		v := pattern(n)
		for _, most := range []int{n, n + 1, math.MaxInt} {
			r := wire.New(append(append([]byte{byte(n % 256), byte(n / 256)}, v...), 3))
			if b, e := r.List(most); !bytes.Equal(b, v) || e != api.OK || r.Left() != 1 {
				t.Errorf("List(%d) of %d bytes: %d bytes, %v, left %d", most, n, len(b), e, r.Left())
			}
			if v, e := r.Get(1); v != 3 || e != api.OK {
				t.Errorf("the byte behind List(%d): %d, %v", most, v, e)
			}
		}
	}
}

func TestListErrors(t *testing.T) {
	for _, x := range []struct {
		b    []byte
		most int
		want api.Errno
	}{
		{nil, 5, api.ErrShort},
		{[]byte{1}, 5, api.ErrShort},
		{[]byte{1}, 0, api.ErrShort}, // the count itself is not there
		{[]byte{255}, math.MinInt, api.ErrShort},
		{[]byte{1, 0}, 5, api.ErrShort},
		{[]byte{2, 0, 'a'}, 2, api.ErrShort},
		{[]byte{0, 1, 'a'}, 256, api.ErrShort},
		{[]byte{2, 0, 'a', 'b'}, 1, api.ErrForm},
		{[]byte{2, 0, 'a', 'b'}, 0, api.ErrForm},
		{[]byte{0, 0}, -1, api.ErrForm},
		{[]byte{0, 0}, math.MinInt, api.ErrForm},
		{[]byte{0, 1, 'a'}, 255, api.ErrForm},
		{[]byte{5, 0}, 4, api.ErrForm}, // ahead of what follows, which is not there
		{[]byte{255, 255}, 65534, api.ErrForm},
		{[]byte{255, 255}, 65535, api.ErrShort},
		{[]byte{0, 0}, 0, api.OK},
	} {
		r := wire.New(x.b)
		b, e := r.List(x.most)
		if e != x.want {
			t.Errorf("List(%d) of %v: %v, want %v", x.most, x.b, e, x.want)
		}
		if e != api.OK && (b != nil || r.Left() != len(x.b)) {
			t.Errorf("List(%d) of %v: beside the error %v, left %d", x.most, x.b, b, r.Left())
		}
	}
}

func TestPlaceStaysBesideListErrors(t *testing.T) {
	r := wire.New([]byte{7, 3, 0, 'a', 'b', 'c', 9, 0, 'd'})
	if v, e := r.Get(1); v != 7 || e != api.OK {
		t.Fatal(v, e)
	}
	for range 3 {
		if b, e := r.List(2); b != nil || e != api.ErrForm || r.Left() != 8 {
			t.Fatal(b, e, r.Left())
		}
	}
	if b, e := r.List(3); string(b) != "abc" || e != api.OK {
		t.Fatal(b, e)
	}
	for range 3 {
		if b, e := r.List(9); b != nil || e != api.ErrShort || r.Left() != 3 {
			t.Fatal(b, e, r.Left())
		}
	}
	if v, e := r.Get(3); v != 9+'d'<<16 || e != api.OK {
		t.Error(v, e)
	}
}

func TestListIsNewMemory(t *testing.T) {
	b := []byte{2, 0, 'a', 'b', 1, 0, 'c'}
	r := wire.New(b)
	one, e := r.List(2)
	if e != api.OK {
		t.Fatal(e)
	}
	one[0] = 'x'
	_ = append(one, 'y', 'z', 'z')
	if !bytes.Equal(b, []byte{2, 0, 'a', 'b', 1, 0, 'c'}) {
		t.Error("the reader's bytes are changed through its answer:", b)
	}
	if two, e := r.List(1); string(two) != "c" || e != api.OK {
		t.Error(two, e)
	}
	again, e := wire.New(b).List(2)
	if string(again) != "ab" || e != api.OK {
		t.Error(again, e)
	}
}

func TestLeftAndEnd(t *testing.T) {
	r := wire.New(pattern(3))
	for left := 3; left > 0; left-- {
		if r.Left() != left || r.End() != api.ErrForm {
			t.Errorf("with %d bytes left: %d, %v", left, r.Left(), r.End())
		}
		if _, e := r.Get(1); e != api.OK {
			t.Fatal(e)
		}
	}
	if r.Left() != 0 || r.End() != api.OK {
		t.Errorf("at the end: %d, %v", r.Left(), r.End())
	}
	for _, b := range [][]byte{nil, {}} {
		if r := wire.New(b); r.Left() != 0 || r.End() != api.OK {
			t.Errorf("of no bytes: %d, %v", r.Left(), r.End())
		}
	}
}

// R4: what bytes are asked for does not hang on what lies behind them in memory.
func TestReaderKeepsToItsBytes(t *testing.T) {
	r := wire.New(roomy([]byte{1, 4, 0}))
	if _, e := r.Get(4); e != api.ErrShort {
		t.Error("Get:", e)
	}
	if _, e := r.Get(1); e != api.OK {
		t.Error("Get:", e)
	}
	if b, e := r.List(9); b != nil || e != api.ErrShort || r.Left() != 2 {
		t.Error("List:", b, e, r.Left())
	}
}

// P1.4

func TestReadersOfNoBytes(t *testing.T) {
	var none *wire.Reader
	for name, r := range map[string]*wire.Reader{"nil": none, "zero": {}, "of nil": wire.New(nil), "of none": wire.New([]byte{})} {
		for _, n := range []int{math.MinInt, -1, 0, 9, math.MaxInt} {
			if v, e := r.Get(n); v != 0 || e != api.ErrArg {
				t.Errorf("%s: Get(%d) = %d, %v", name, n, v, e)
			}
		}
		for n := 1; n <= 8; n++ {
			if v, e := r.Get(n); v != 0 || e != api.ErrShort {
				t.Errorf("%s: Get(%d) = %d, %v", name, n, v, e)
			}
		}
		if v, e := r.Signed(); v != 0 || e != api.ErrShort {
			t.Errorf("%s: Signed = %d, %v", name, v, e)
		}
		for _, most := range []int{math.MinInt, -1, 0, 1, math.MaxInt} {
			if b, e := r.List(most); b != nil || e != api.ErrShort {
				t.Errorf("%s: List(%d) = %v, %v", name, most, b, e)
			}
		}
		if r.Left() != 0 || r.End() != api.OK {
			t.Errorf("%s: left %d, End %v", name, r.Left(), r.End())
		}
	}
}

// P1.5

func TestWhatIsPutIsGot(t *testing.T) {
	numbers := []uint64{0, 1, 127, 128, 255, 256, 65535, 65536, 1<<31 - 1, 1 << 31, 1<<63 - 1, 1 << 63, math.MaxUint64, 0x0123456789ABCDEF}
	for _, v := range numbers {
		for n := 1; n <= 8; n++ {
			low := v
			if n < 8 {
				low = v % (1 << (8 * n))
			}
			r := wire.New(wire.Put(nil, v, n))
			if got, e := r.Get(n); got != low || e != api.OK || r.End() != api.OK {
				t.Errorf("%x by %d is got as %x, %v", v, n, got, e)
			}
		}
		r := wire.New(wire.Signed(nil, int(v)))
		if got, e := r.Signed(); got != int(v) || e != api.OK || r.End() != api.OK {
			t.Errorf("%d is got as %d, %v", int(v), got, e)
		}
	}
}

func TestWhatIsPutInARowIsGot(t *testing.T) {
	var b []byte
	for i := range 300 {
		b = wire.Put(b, uint64(i)*0x9E3779B97F4A7C15, 1+i%8)
		b = wire.Signed(b, (i-150)*1234567890123)
		b = wire.List(b, pattern(i))
	}
	b = wire.List(b, pattern(65535))
	r := wire.New(b)
	for i := range 300 {
		n := 1 + i%8
		want := uint64(i) * 0x9E3779B97F4A7C15 << (64 - 8*n) >> (64 - 8*n)
		if v, e := r.Get(n); v != want || e != api.OK {
			t.Fatalf("number %d: %x, %v", i, v, e)
		}
		if v, e := r.Signed(); v != (i-150)*1234567890123 || e != api.OK {
			t.Fatalf("signed number %d: %d, %v", i, v, e)
		}
		if l, e := r.List(i); !bytes.Equal(l, pattern(i)) || e != api.OK {
			t.Fatalf("list %d: %v", i, e)
		}
	}
	if l, e := r.List(65535); !bytes.Equal(l, pattern(65535)) || e != api.OK || r.End() != api.OK {
		t.Error(len(l), e, r.Left())
	}
}

// FuzzReader (P1): whatever bytes are read, and however, no call panics, an error leaves the place, and what is got is laid again as it was.
func FuzzReader(f *testing.F) {
	f.Add([]byte(nil), []byte{0, 1, 2, 20})
	f.Add([]byte{2, 1, 3, 0, 'a', 'b', 'c', 255}, []byte{2, 15, 13, 1, 9})
	f.Add(bytes.Repeat([]byte{255}, 40), []byte{8, 12, 11, 3, 14, 10, 7, 255})
	f.Add(pattern(200), []byte{1, 15, 12, 4, 12, 8, 200, 16, 6})
	f.Fuzz(func(t *testing.T, b, calls []byte) {
		keep := bytes.Clone(b)
		r := wire.New(b)
		var again []byte
		for _, c := range calls {
			left := r.Left()
			var e api.Errno
			laid := again
			switch {
			case c < 11:
				n := int(c) - 1
				var v uint64
				v, e = r.Get(n)
				laid = wire.Put(again, v, n)
			case c == 12:
				var v int
				v, e = r.Signed()
				laid = wire.Signed(again, v)
			default:
				var v []byte
				v, e = r.List(int(c) - 13)
				laid = wire.List(again, v)
			}
			if e != api.OK && r.Left() != left {
				t.Fatalf("call %d: beside %v the place went from %d left to %d", c, e, left, r.Left())
			}
			if e == api.OK {
				again = laid
			}
			if !bytes.Equal(again, b[:len(b)-r.Left()]) {
				t.Fatalf("call %d: what was got is laid as %v", c, again)
			}
		}
		if (r.End() == api.OK) != (r.Left() == 0) || !bytes.Equal(b, keep) {
			t.Fatal("End, or the bytes that were handed in")
		}
	})
}
