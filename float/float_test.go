package float_test

import (
	"math"
	"math/big"
	"testing"

	"heronry/float"
)

const (
	sign  = uint64(1) << 63
	quiet = uint64(1) << 51
)

// rising is numbers with sign 0 in the order of their keys, with what class each is of: the edges, and ordinary ones.
var rising = []struct {
	b     uint64
	class int
}{
	{0, float.Zero},
	{1, float.Small}, // the least
	{2, float.Small},
	{3, float.Small},
	{0x0000000080000000, float.Small},
	{0x0007FFFFFFFFFFFF, float.Small},
	{0x0008000000000000, float.Small},
	{0x000FFFFFFFFFFFFE, float.Small},
	{0x000FFFFFFFFFFFFF, float.Small},  // the greatest
	{0x0010000000000000, float.Normal}, // the least
	{0x0010000000000001, float.Normal},
	{0x001FFFFFFFFFFFFF, float.Normal},
	{0x0020000000000000, float.Normal},
	{0x3CA0000000000000, float.Normal}, // 2^-53
	{0x3FDFFFFFFFFFFFFF, float.Normal},
	{0x3FE0000000000000, float.Normal}, // 1/2
	{0x3FEFFFFFFFFFFFFF, float.Normal},
	{0x3FF0000000000000, float.Normal}, // 1
	{0x3FF0000000000001, float.Normal},
	{0x3FF8000000000000, float.Normal}, // 3/2
	{0x4000000000000000, float.Normal}, // 2
	{0x4004000000000000, float.Normal}, // 5/2
	{0x400921FB54442D18, float.Normal},
	{0x4059000000000000, float.Normal}, // 100
	{0x41DFFFFFFFC00000, float.Normal}, // 2^31 - 1
	{0x41E0000000000000, float.Normal}, // 2^31
	{0x432FFFFFFFFFFFFF, float.Normal}, // 2^52 - 1/2
	{0x4330000000000000, float.Normal}, // 2^52
	{0x4330000000000001, float.Normal}, // 2^52 + 1
	{0x433FFFFFFFFFFFFF, float.Normal}, // 2^53 - 1
	{0x4340000000000000, float.Normal}, // 2^53
	{0x4340000000000001, float.Normal}, // 2^53 + 2
	{0x43D0000000000000, float.Normal}, // 2^62
	{0x43DFFFFFFFFFFFFF, float.Normal}, // 2^63 - 1024
	{0x43E0000000000000, float.Normal}, // 2^63
	{0x43E0000000000001, float.Normal}, // 2^63 + 2048
	{0x43EFFFFFFFFFFFFF, float.Normal}, // 2^64 - 2048
	{0x43F0000000000000, float.Normal}, // 2^64
	{0x4690000000000000, float.Normal},
	{0x7FDFFFFFFFFFFFFF, float.Normal},
	{0x7FE0000000000000, float.Normal},
	{0x7FEFFFFFFFFFFFFE, float.Normal},
	{0x7FEFFFFFFFFFFFFF, float.Normal}, // the greatest
	{0x7FF0000000000000, float.Inf},
	{0x7FF0000000000001, float.NaN},
	{0x7FF0000000000002, float.NaN},
	{0x7FF4000000000000, float.NaN},
	{0x7FF7FFFFFFFFFFFF, float.NaN},
	{0x7FF8000000000000, float.NaN}, // from here on the fraction's highest bit is 1
	{0x7FF8000000000001, float.NaN},
	{0x7FFC000000000005, float.NaN},
	{0x7FFFFFFFFFFFFFFF, float.NaN},
}

// edges is those of rising, with either sign, from the least key on.
func edges() []uint64 {
	var l []uint64
	for i := range rising {
		l = append(l, rising[len(rising)-1-i].b|sign)
	}
	for _, x := range rising {
		l = append(l, x.b)
	}
	return l
}

// spread is numbers of each exponent, and some of any bits.
func spread() []uint64 {
	var l []uint64
	for exponent := range uint64(2048) {
		for _, fraction := range []uint64{0, 1, 2, quiet - 1, quiet, quiet + 1, 0x000A5F3C96B10E77, 1<<52 - 2, 1<<52 - 1} {
			b := exponent<<52 | fraction
			l = append(l, b, b|sign)
		}
	}
	for i := range uint64(4000) {
		l = append(l, mixed(i))
	}
	return l
}

// mixed is bits in which nothing of i is to be seen.
func mixed(i uint64) uint64 {
	i = (i + 1) * 0x9E3779B97F4A7C15
	i = (i ^ i>>30) * 0xBF58476D1CE4E5B9
	i = (i ^ i>>27) * 0x94D049BB133111EB
	return i ^ i>>31
}

func all() []uint64 { return append(edges(), spread()...) }

// classOf is what the document's words say of the bits.
func classOf(b uint64) int {
	exponent, fraction := b>>52&2047, b&(1<<52-1)
	switch {
	case exponent == 0 && fraction == 0:
		return float.Zero
	case exponent == 0:
		return float.Small
	case exponent == 2047 && fraction == 0:
		return float.Inf
	case exponent == 2047:
		return float.NaN
	}
	return float.Normal
}

// exact is the number that the document's words say, without any of the machine's floats; nil of a NaN.
func exact(b uint64) *big.Float {
	exponent, fraction := int(b>>52&2047), b&(1<<52-1)
	v := new(big.Float)
	switch classOf(b) {
	case float.NaN:
		return nil
	case float.Inf:
		return v.SetInf(b&sign != 0)
	case float.Small:
		v.SetMantExp(v.SetUint64(fraction), -1074)
	case float.Normal:
		v.SetMantExp(v.SetUint64(1<<52+fraction), exponent-1075)
	}
	if b&sign != 0 {
		v.Neg(v)
	}
	return v
}

func isNaN(b uint64) bool { return classOf(b) == float.NaN }

// P2.1

func TestClasses(t *testing.T) {
	if float.Zero != 0 || float.Small != 1 || float.Normal != 2 || float.Inf != 3 || float.NaN != 4 {
		t.Error("the classes' numbers")
	}
	for _, x := range rising {
		for _, b := range []uint64{x.b, x.b | sign} {
			if got := float.Class(b); got != x.class {
				t.Errorf("Class(%#x) = %d, want %d", b, got, x.class)
			}
		}
	}
	for _, b := range spread() {
		if got := float.Class(b); got != classOf(b) {
			t.Errorf("Class(%#x) = %d, want %d", b, got, classOf(b))
		}
	}
}

func TestLessAndEqualOfSome(t *testing.T) {
	const (
		one   = 0x3FF0000000000000
		two   = 0x4000000000000000
		inf   = 0x7FF0000000000000
		loud  = 0x7FF0000000000001
		quiet = 0x7FF8000000000000
	)
	for _, x := range []struct {
		a, b        uint64
		less, equal bool
	}{
		{sign, 0, false, true},
		{0, sign, false, true},
		{0, 0, false, true},
		{sign, sign, false, true},
		{one, two, true, false},
		{two, one, false, false},
		{one, one, false, true},
		{one | sign, one, true, false},
		{two | sign, one | sign, true, false},
		{one | sign, two | sign, false, false},
		{0, 1, true, false},
		{sign, 1, true, false},
		{1 | sign, sign, true, false},
		{1 | sign, 0, true, false},
		{inf, inf, false, true},
		{inf | sign, inf, true, false},
		{inf, inf | sign, false, false},
		{0x7FEFFFFFFFFFFFFF, inf, true, false},
		{loud, loud, false, false},
		{quiet, quiet, false, false},
		{quiet | sign, 0, false, false},
		{0, quiet, false, false},
		{loud | sign, inf | sign, false, false},
		{inf, loud, false, false},
	} {
		if got := float.Less(x.a, x.b); got != x.less {
			t.Errorf("Less(%#x, %#x) = %v", x.a, x.b, got)
		}
		if got := float.Equal(x.a, x.b); got != x.equal {
			t.Errorf("Equal(%#x, %#x) = %v", x.a, x.b, got)
		}
	}
}

// holdsPair holds what is told of two numbers against their exact values.
func holdsPair(t *testing.T, a, b uint64) {
	t.Helper()
	x, y := exact(a), exact(b)
	less := x != nil && y != nil && x.Cmp(y) < 0
	equal := x != nil && y != nil && x.Cmp(y) == 0
	if got := float.Less(a, b); got != less {
		t.Errorf("Less(%#x, %#x) = %v", a, b, got)
	}
	if got := float.Equal(a, b); got != equal {
		t.Errorf("Equal(%#x, %#x) = %v", a, b, got)
	}
	least, greatest := a, b
	switch {
	case isNaN(a):
		least, greatest = a|quiet, a|quiet
	case isNaN(b):
		least, greatest = b|quiet, b|quiet
	case y.Cmp(x) < 0, equal && b == sign:
		least, greatest = b, a
	}
	if got := float.Min(a, b); got != least {
		t.Errorf("Min(%#x, %#x) = %#x, want %#x", a, b, got, least)
	}
	if got := float.Max(a, b); got != greatest {
		t.Errorf("Max(%#x, %#x) = %#x, want %#x", a, b, got, greatest)
	}
}

func TestPairsOfEdges(t *testing.T) { // P2.1, P2.3
	l := edges()
	for _, a := range l {
		for _, b := range l {
			holdsPair(t, a, b)
		}
	}
}

func TestPairsOfAny(t *testing.T) { // P2.1, P2.3
	l := spread()
	for i, a := range l {
		holdsPair(t, a, a)
		holdsPair(t, a, a^sign)
		holdsPair(t, a, a+1)
		holdsPair(t, a+1, a)
		holdsPair(t, a, l[mixed(uint64(i))%uint64(len(l))])
	}
}

// P2.2

func TestKeyOfSome(t *testing.T) {
	for _, x := range []struct{ b, key uint64 }{
		{0xFFFFFFFFFFFFFFFF, 0},
		{0xFFF8000000000000, 0x0007FFFFFFFFFFFF},
		{0xFFF0000000000001, 0x000FFFFFFFFFFFFE},
		{0xFFF0000000000000, 0x000FFFFFFFFFFFFF},
		{0xBFF0000000000000, 0x400FFFFFFFFFFFFF},
		{0x8000000000000001, 0x7FFFFFFFFFFFFFFE},
		{0x8000000000000000, 0x7FFFFFFFFFFFFFFF},
		{0, 0x8000000000000000},
		{1, 0x8000000000000001},
		{0x3FF0000000000000, 0xBFF0000000000000},
		{0x7FF0000000000000, 0xFFF0000000000000},
		{0x7FF0000000000001, 0xFFF0000000000001},
		{0x7FFFFFFFFFFFFFFF, 0xFFFFFFFFFFFFFFFF},
	} {
		if got := float.Key(x.b); got != x.key {
			t.Errorf("Key(%#x) = %#x, want %#x", x.b, got, x.key)
		}
		if got := float.FromKey(x.key); got != x.b {
			t.Errorf("FromKey(%#x) = %#x, want %#x", x.key, got, x.b)
		}
	}
}

func TestKeysRise(t *testing.T) {
	l := edges()
	for i := 1; i < len(l); i++ {
		if float.Key(l[i-1]) >= float.Key(l[i]) {
			t.Errorf("Key(%#x) = %#x is not below Key(%#x) = %#x", l[i-1], float.Key(l[i-1]), l[i], float.Key(l[i]))
		}
	}
}

func TestKeyAndBack(t *testing.T) {
	for _, b := range all() {
		want := b + sign
		if b >= sign {
			want = math.MaxUint64 - b
		}
		if got := float.Key(b); got != want {
			t.Errorf("Key(%#x) = %#x, want %#x", b, got, want)
		}
		if got := float.FromKey(float.Key(b)); got != b {
			t.Errorf("FromKey of Key(%#x) = %#x", b, got)
		}
		if got := float.Key(float.FromKey(b)); got != b {
			t.Errorf("Key of FromKey(%#x) = %#x", b, got)
		}
	}
}

// P2.3

func TestMinAndMaxOfSome(t *testing.T) {
	for _, x := range []struct{ a, b, least, greatest uint64 }{
		{0, sign, sign, 0},
		{sign, 0, sign, 0},
		{0, 0, 0, 0},
		{sign, sign, sign, sign},
		{0x3FF0000000000000, 0x4000000000000000, 0x3FF0000000000000, 0x4000000000000000},
		{0xC000000000000000, 0xBFF0000000000000, 0xC000000000000000, 0xBFF0000000000000},
		{1, 0, 0, 1},
		{0x8000000000000001, sign, 0x8000000000000001, sign},
		{0x7FF0000000000000, 0xFFF0000000000000, 0xFFF0000000000000, 0x7FF0000000000000},
		{0x7FF0000000000000, 0x7FEFFFFFFFFFFFFF, 0x7FEFFFFFFFFFFFFF, 0x7FF0000000000000},
		// the first NaN, whatever the other one is
		{0x7FF0000000000001, 0, 0x7FF8000000000001, 0x7FF8000000000001},
		{0, 0x7FF0000000000001, 0x7FF8000000000001, 0x7FF8000000000001},
		{0xFFF0000000000005, 0x7FF0000000000000, 0xFFF8000000000005, 0xFFF8000000000005},
		{0xFFF0000000000000, 0xFFF7FFFFFFFFFFFF, 0xFFFFFFFFFFFFFFFF, 0xFFFFFFFFFFFFFFFF},
		{0x7FF8000000000009, 0x3FF0000000000000, 0x7FF8000000000009, 0x7FF8000000000009},
		{0x7FF0000000000001, 0x7FF0000000000002, 0x7FF8000000000001, 0x7FF8000000000001},
		{0x7FF0000000000002, 0xFFF8000000000001, 0x7FF8000000000002, 0x7FF8000000000002},
		{0xFFF8000000000001, 0x7FF0000000000002, 0xFFF8000000000001, 0xFFF8000000000001},
	} {
		if got := float.Min(x.a, x.b); got != x.least {
			t.Errorf("Min(%#x, %#x) = %#x, want %#x", x.a, x.b, got, x.least)
		}
		if got := float.Max(x.a, x.b); got != x.greatest {
			t.Errorf("Max(%#x, %#x) = %#x, want %#x", x.a, x.b, got, x.greatest)
		}
	}
}

// P2.4

func TestNegAndAbs(t *testing.T) {
	for _, x := range []struct{ b, neg, abs uint64 }{
		{0, sign, 0},
		{sign, 0, 0},
		{0x3FF0000000000000, 0xBFF0000000000000, 0x3FF0000000000000},
		{0xBFF0000000000000, 0x3FF0000000000000, 0x3FF0000000000000},
		{0xFFF0000000000000, 0x7FF0000000000000, 0x7FF0000000000000},
		{0x7FF0000000000001, 0xFFF0000000000001, 0x7FF0000000000001},
		{0xFFF0000000000001, 0x7FF0000000000001, 0x7FF0000000000001},
		{0x7FF8000000000000, 0xFFF8000000000000, 0x7FF8000000000000},
		{0xFFFFFFFFFFFFFFFF, 0x7FFFFFFFFFFFFFFF, 0x7FFFFFFFFFFFFFFF},
	} {
		if got := float.Neg(x.b); got != x.neg {
			t.Errorf("Neg(%#x) = %#x, want %#x", x.b, got, x.neg)
		}
		if got := float.Abs(x.b); got != x.abs {
			t.Errorf("Abs(%#x) = %#x, want %#x", x.b, got, x.abs)
		}
	}
	for _, b := range all() {
		if got := float.Neg(b); got != b+sign {
			t.Errorf("Neg(%#x) = %#x", b, got)
		}
		if got := float.Abs(b); got != b%sign {
			t.Errorf("Abs(%#x) = %#x", b, got)
		}
	}
}

// P2.5

func TestOfSome(t *testing.T) {
	for _, x := range []struct {
		n    int
		want uint64
	}{
		{0, 0},
		{1, 0x3FF0000000000000},
		{-1, 0xBFF0000000000000},
		{2, 0x4000000000000000},
		{3, 0x4008000000000000},
		{-100, 0xC059000000000000},
		{1<<53 - 1, 0x433FFFFFFFFFFFFF}, // 53 digits of two
		{1 << 53, 0x4340000000000000},
		{1<<53 + 1, 0x4340000000000000}, // two as near: down
		{1<<53 + 2, 0x4340000000000001},
		{1<<53 + 3, 0x4340000000000002}, // two as near: up
		{-1<<53 - 1, 0xC340000000000000},
		{-1<<53 - 3, 0xC340000000000002},
		{1<<54 - 1, 0x4350000000000000}, // two as near: up, and a digit more
		{1<<54 + 1, 0x4350000000000000},
		{1<<54 + 2, 0x4350000000000000}, // two as near: down
		{1<<54 + 3, 0x4350000000000001},
		{1<<54 + 5, 0x4350000000000001},
		{1<<54 + 6, 0x4350000000000002}, // two as near: up
		{1<<62 + 511, 0x43D0000000000000},
		{1<<62 + 256, 0x43D0000000000000},
		{1<<62 + 512, 0x43D0000000000000}, // two as near: down
		{1<<62 + 513, 0x43D0000000000001},
		{1<<62 + 1536, 0x43D0000000000002}, // two as near: up
		{math.MaxInt - 1023, 0x43DFFFFFFFFFFFFF},
		{math.MaxInt - 512, 0x43DFFFFFFFFFFFFF},
		{math.MaxInt - 511, 0x43E0000000000000}, // two as near: up, to 2^63
		{math.MaxInt - 1, 0x43E0000000000000},
		{math.MaxInt, 0x43E0000000000000},
		{math.MinInt, 0xC3E0000000000000},
		{math.MinInt + 1, 0xC3E0000000000000},
		{math.MinInt + 512, 0xC3E0000000000000}, // two as near: down, to -2^63
		{math.MinInt + 513, 0xC3DFFFFFFFFFFFFF},
		{math.MinInt + 1024, 0xC3DFFFFFFFFFFFFF},
	} {
		if got := float.Of(x.n); got != x.want {
			t.Errorf("Of(%d) = %#x, want %#x", x.n, got, x.want)
		}
	}
}

// wholes is numbers about each power of two, about the middles between two floats, and some of any digits of two.
func wholes() []int {
	var l []int
	for s := range 63 {
		for d := -3; d <= 3; d++ {
			l = append(l, 1<<s+d, -1<<s+d)
		}
	}
	for s := 53; s < 63; s++ {
		half := 1 << (s - 53)
		for _, odd := range []int{1, 3, 5, 7, 1<<53 - 3, 1<<53 - 1} {
			for d := -1; d <= 1; d++ {
				n := 1<<s + odd*half + d
				l = append(l, n, -n)
			}
		}
	}
	for d := range 3000 {
		l = append(l, math.MaxInt-d, math.MinInt+d)
	}
	for i := range 20000 {
		l = append(l, int(mixed(uint64(i)))>>(i%64))
	}
	return l
}

// nearest is the bits of a whole number by its digits of two alone: those that are too many are cut off, and go up into the last one by what they were.
func nearest(n int) uint64 {
	if n == 0 {
		return 0
	}
	top, v := uint64(0), uint64(n)
	if n < 0 {
		top, v = sign, -uint64(n)
	}
	exponent := uint64(1075)
	for v < 1<<52 {
		v, exponent = v*2, exponent-1
	}
	cut, size := uint64(0), uint64(1)
	for v >= 1<<53 {
		cut, size = cut+v%2*size, size*2
		v, exponent = v/2, exponent+1
	}
	if 2*cut > size || 2*cut == size && v%2 == 1 {
		v++
	}
	return top + exponent<<52 + v - 1<<52
}

func TestOfAny(t *testing.T) {
	for _, n := range wholes() {
		if got := float.Of(n); got != nearest(n) {
			t.Errorf("Of(%d) = %#x, want %#x", n, got, nearest(n))
		}
	}
}

func TestIntOfSome(t *testing.T) {
	for _, x := range []struct {
		b    uint64
		want int
		ok   bool
	}{
		{0, 0, true},
		{sign, 0, true},
		{0x3FF0000000000000, 1, true},
		{0xBFF0000000000000, -1, true},
		{0xC059000000000000, -100, true},
		{1, 0, false},
		{1 | sign, 0, false},
		{0x000FFFFFFFFFFFFF, 0, false},
		{0x0010000000000000, 0, false},
		{0x3FE0000000000000, 0, false}, // 1/2
		{0x3FEFFFFFFFFFFFFF, 0, false},
		{0x3FF0000000000001, 0, false},
		{0x3FF8000000000000, 0, false}, // 3/2
		{0xC004000000000000, 0, false}, // -5/2
		{0x432FFFFFFFFFFFFF, 0, false}, // 2^52 - 1/2
		{0x4330000000000001, 1<<52 + 1, true},
		{0x433FFFFFFFFFFFFF, 1<<53 - 1, true},
		{0x4340000000000001, 1<<53 + 2, true},
		{0x43DFFFFFFFFFFFFF, math.MaxInt - 1023, true},
		{0x43E0000000000000, 0, false}, // 2^63
		{0x43E0000000000001, 0, false},
		{0x43F0000000000000, 0, false},
		{0xC3DFFFFFFFFFFFFF, math.MinInt + 1024, true},
		{0xC3E0000000000000, math.MinInt, true}, // -2^63
		{0xC3E0000000000001, 0, false},
		{0xC3F0000000000000, 0, false},
		{0x7FEFFFFFFFFFFFFF, 0, false},
		{0xFFEFFFFFFFFFFFFF, 0, false},
		{0x7FF0000000000000, 0, false},
		{0xFFF0000000000000, 0, false},
		{0x7FF0000000000001, 0, false},
		{0xFFF0000000000001, 0, false},
		{0x7FF8000000000000, 0, false},
		{0xFFF8000000000000, 0, false},
		{0xFFFFFFFFFFFFFFFF, 0, false},
	} {
		if got, ok := float.Int(x.b); got != x.want || ok != x.ok {
			t.Errorf("Int(%#x) = %d, %v, want %d, %v", x.b, got, ok, x.want, x.ok)
		}
	}
}

// holdsInt holds Int against the exact value.
func holdsInt(t *testing.T, b uint64) {
	t.Helper()
	want, ok := 0, false
	if v := exact(b); v != nil && v.IsInt() {
		n, how := v.Int64()
		if how == big.Exact {
			want, ok = int(n), true
		}
	}
	if got, is := float.Int(b); got != want || is != ok {
		t.Errorf("Int(%#x) = %d, %v, want %d, %v", b, got, is, want, ok)
	}
}

func TestIntOfAny(t *testing.T) {
	for _, b := range all() {
		holdsInt(t, b)
	}
	for i, n := range wholes() {
		b := float.Of(n)
		holdsInt(t, b)
		holdsInt(t, b+1)
		holdsInt(t, b-1)
		holdsInt(t, b^1<<(i%52))
	}
}

// P2.6

func TestNextOfSome(t *testing.T) {
	for _, x := range []struct{ b, want uint64 }{
		{0, 1},
		{sign, 1},
		{1, 2},
		{0x8000000000000001, sign}, // the greatest below 0
		{0x8000000000000002, 0x8000000000000001},
		{0x000FFFFFFFFFFFFF, 0x0010000000000000},
		{0x8010000000000000, 0x800FFFFFFFFFFFFF},
		{0x3FF0000000000000, 0x3FF0000000000001},
		{0xBFF0000000000000, 0xBFEFFFFFFFFFFFFF},
		{0x3FFFFFFFFFFFFFFF, 0x4000000000000000},
		{0x7FEFFFFFFFFFFFFF, 0x7FF0000000000000}, // the greatest Normal
		{0x7FF0000000000000, 0x7FF0000000000000},
		{0xFFF0000000000000, 0xFFEFFFFFFFFFFFFF},
		{0xFFEFFFFFFFFFFFFF, 0xFFEFFFFFFFFFFFFE},
		{0x7FF0000000000001, 0x7FF0000000000001},
		{0x7FF7FFFFFFFFFFFF, 0x7FF7FFFFFFFFFFFF},
		{0x7FF8000000000000, 0x7FF8000000000000},
		{0x7FFFFFFFFFFFFFFF, 0x7FFFFFFFFFFFFFFF},
		{0xFFF0000000000001, 0xFFF0000000000001},
		{0xFFF8000000000000, 0xFFF8000000000000},
		{0xFFFFFFFFFFFFFFFF, 0xFFFFFFFFFFFFFFFF},
	} {
		if got := float.Next(x.b); got != x.want {
			t.Errorf("Next(%#x) = %#x, want %#x", x.b, got, x.want)
		}
	}
}

// above is what Next promises: the bits' own count up of a sign 0, down of a sign 1.
func above(b uint64) uint64 {
	switch {
	case isNaN(b), b == 0x7FF0000000000000:
		return b
	case b == 0, b == sign:
		return 1
	case b > sign:
		return b - 1
	}
	return b + 1
}

func TestNextOfAny(t *testing.T) {
	for _, b := range all() {
		if got := float.Next(b); got != above(b) {
			t.Errorf("Next(%#x) = %#x, want %#x", b, got, above(b))
		}
	}
}

// P2.7

func TestLessIsTheOrderOfKeys(t *testing.T) {
	l := all()
	for i, a := range l {
		for _, b := range []uint64{a, a + 1, a ^ sign, l[(i+1)%len(l)], l[mixed(uint64(i))%uint64(len(l))]} {
			if isNaN(a) || isNaN(b) || a%sign == 0 && b%sign == 0 {
				continue
			}
			if float.Less(a, b) != (float.Key(a) < float.Key(b)) || float.Equal(a, b) != (float.Key(a) == float.Key(b)) {
				t.Errorf("Less, Equal of %#x and %#x are not the order of their keys", a, b)
			}
		}
	}
}

func TestLessThanNext(t *testing.T) {
	for _, b := range all() {
		want := !isNaN(b) && b != 0x7FF0000000000000
		next := float.Next(b)
		if float.Less(b, next) != want || want && exact(b).Cmp(exact(next)) >= 0 {
			t.Errorf("is %#x less than Next of it, %#x? want %v", b, next, want)
		}
	}
}

func TestIntOfOf(t *testing.T) {
	for _, n := range wholes() {
		v, ok := float.Int(float.Of(n))
		if n >= -1<<53 && n <= 1<<53 && (v != n || !ok) {
			t.Errorf("Int of Of(%d) = %d, %v", n, v, ok)
		}
		for short := n; short != 0; short <<= 1 {
			if digits := short >> trailing(short); digits >= 1<<53 || digits <= -1<<53 {
				continue
			}
			if v, ok := float.Int(float.Of(short)); v != short || !ok {
				t.Errorf("Int of Of(%d) = %d, %v", short, v, ok)
			}
		}
	}
}

// trailing is how many digits of 0 a number that is not 0 ends in.
func trailing(n int) int {
	k := 0
	for n%2 == 0 {
		n, k = n/2, k+1
	}
	return k
}

// The example of the chapter.
func TestExample(t *testing.T) {
	if got := float.Of(1); got != 0x3FF0000000000000 {
		t.Errorf("Of(1) = %#x", got)
	}
	if float.Less(0x8000000000000000, 0) {
		t.Error("-0 is less than 0")
	}
}

// FuzzFloat (P1): whatever the bits, no call panics, each tells the same again, and what is told of them is so.
func FuzzFloat(f *testing.F) {
	l := edges()
	for i, b := range l {
		f.Add(b, l[(i*7+3)%len(l)], int(b))
	}
	f.Fuzz(func(t *testing.T, a, b uint64, n int) {
		for range 2 {
			holdsPair(t, a, b)
			holdsPair(t, b, a)
			holdsInt(t, a)
			if float.Class(a) != classOf(a) || float.Next(a) != above(a) || float.Of(n) != nearest(n) {
				t.Errorf("Class, Next of %#x, or Of(%d)", a, n)
			}
			if float.FromKey(float.Key(a)) != a || float.Key(float.FromKey(a)) != a {
				t.Errorf("Key, or FromKey, of %#x", a)
			}
			if float.Neg(a) != a^sign || float.Abs(a) != a&^sign {
				t.Errorf("Neg, or Abs, of %#x", a)
			}
		}
	})
}
