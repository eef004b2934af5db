package device_test

import (
	"bytes"
	"math"
	"slices"
	"testing"

	"heronry/api"
	"heronry/device"
)

// noAts are numbers that are a sector's of no device of n sectors.
func noAts(n int) []int {
	return []int{-1, -2, -64, math.MinInt, math.MinInt + 1, n, n + 1, 2 * n, 64 * n, math.MaxInt, math.MaxInt - 1, 1 << 32, -(1 << 32)}
}

// pattern is n bytes that are unlike another seed's, none of which is 0.
func pattern(seed, n int) []byte {
	b := make([]byte, n)
	for i := range b {
		b[i] = byte((i*7+seed*29)%255 + 1)
	}
	return b
}

// full is what a sector holds when b was written.
func full(b []byte) []byte { return append(bytes.Clone(b), make([]byte, api.Sector-len(b))...) }

// made is a device of n sectors.
func made(t *testing.T, n int) *device.Device {
	t.Helper()
	d, e := device.New(n)
	if d == nil || e != api.OK {
		t.Fatalf("New(%d) = %v, %v", n, d, e)
	}
	return d
}

// write writes what must be taken.
func write(t *testing.T, d *device.Device, at int, b []byte) {
	t.Helper()
	if e := d.Write(at, b); e != api.OK {
		t.Fatalf("Write(%d, %v) = %v", at, b, e)
	}
}

// flush flushes what must be flushed.
func flush(t *testing.T, d *device.Device) {
	t.Helper()
	if e := d.Flush(); e != api.OK {
		t.Fatalf("Flush = %v", e)
	}
}

// holds checks that a sector is what was written.
func holds(t *testing.T, d *device.Device, at int, want []byte) {
	t.Helper()
	if got, e := d.Read(at); e != api.OK || !bytes.Equal(got, full(want)) {
		t.Errorf("Read(%d) = %v, %v, want %v", at, got, e, full(want))
	}
}

// caches checks which sectors are cached.
func caches(t *testing.T, d *device.Device, want ...int) {
	t.Helper()
	if got := d.Cached(); !slices.Equal(got, want) {
		t.Errorf("Cached = %v, want %v", got, want)
	}
}

// P4.1

func TestNewOfSome(t *testing.T) {
	for _, n := range []int{1, 2, 3, 64, 4095, 4096, api.MaxSectors} {
		d := made(t, n)
		if d.Size() != n || d.Spent() != 0 || d.Gone() {
			t.Errorf("New(%d): Size %d, Spent %d, Gone %v", n, d.Size(), d.Spent(), d.Gone())
		}
		caches(t, d)
		for _, at := range []int{0, n / 2, n - 1} {
			holds(t, d, at, nil)
		}
	}
}

func TestNewOfNone(t *testing.T) {
	for _, n := range []int{0, -1, -2, -4096, math.MinInt, math.MinInt + 1, 4097, 4098, 8192, 1 << 32, 1<<32 + 1, math.MaxInt} {
		if d, e := device.New(n); d != nil || e != api.ErrArg {
			t.Errorf("New(%d) = %v, %v", n, d, e)
		}
	}
}

func TestTwoDevicesShareNothing(t *testing.T) {
	a, b := made(t, 3), made(t, 3)
	write(t, a, 1, []byte("a"))
	holds(t, b, 1, nil)
	caches(t, b)
	flush(t, a)
	holds(t, b, 1, nil)
	a.Budget(0)
	if a.Flush() != api.ErrCrash || !a.Gone() || b.Gone() || b.Spent() != 0 {
		t.Error("what is done to one is to be seen in another")
	}
	write(t, b, 1, []byte("b"))
	a.Crash(nil)
	holds(t, a, 1, []byte("a"))
	holds(t, b, 1, []byte("b"))
}

func TestSizeStays(t *testing.T) {
	d := made(t, 7)
	write(t, d, 6, []byte("a"))
	flush(t, d)
	d.Budget(0)
	d.Flush()
	if d.Size() != 7 {
		t.Error("gone:", d.Size())
	}
	d.Crash(nil)
	if d.Size() != 7 {
		t.Error("behind a crash:", d.Size())
	}
}

func TestCachedByRisingNumbers(t *testing.T) {
	d := made(t, 4096)
	for _, at := range []int{9, 4095, 2, 2, 700, 0, 9, 9, 64, 256, 255, 1} {
		write(t, d, at, []byte{byte(at)})
	}
	for range 20 {
		caches(t, d, 0, 1, 2, 9, 64, 255, 256, 700, 4095)
	}
	flush(t, d)
	caches(t, d)
	write(t, d, 5, nil)
	caches(t, d, 5)
}

func TestCachedOfAll(t *testing.T) {
	const n = 4096
	d := made(t, n)
	for i := range n {
		write(t, d, i*2731%n, pattern(i, 3)) // 2731 and 4096 have no divisor in common
	}
	l := d.Cached()
	for i, at := range l {
		if i != at {
			t.Fatalf("place %d is %d", i, at)
		}
	}
	if len(l) != n {
		t.Error(len(l))
	}
}

func TestCachedIsNewMemory(t *testing.T) {
	d := made(t, 10)
	for _, at := range []int{3, 1, 8} {
		write(t, d, at, []byte{1})
	}
	a, b := d.Cached(), d.Cached()
	clear(a)
	_ = append(a, 7, 7, 7)
	if !slices.Equal(b, []int{1, 3, 8}) {
		t.Error("two answers share memory:", b)
	}
	caches(t, d, 1, 3, 8)
	write(t, d, 2, []byte{1})
	if !slices.Equal(b, []int{1, 3, 8}) {
		t.Error("an answer changes behind the call:", b)
	}
}

// P4.2

func TestReadOfEachKind(t *testing.T) {
	d := made(t, 4)
	write(t, d, 1, []byte("laid down"))
	write(t, d, 2, []byte("once"))
	flush(t, d)
	write(t, d, 2, []byte("twice"))
	write(t, d, 3, []byte("cached"))
	holds(t, d, 0, nil)
	holds(t, d, 1, []byte("laid down"))
	holds(t, d, 2, []byte("twice"))
	holds(t, d, 3, []byte("cached"))
	caches(t, d, 2, 3)
}

func TestReadOfZerosThatAreCached(t *testing.T) {
	d := made(t, 1)
	write(t, d, 0, []byte("what was"))
	flush(t, d)
	write(t, d, 0, nil)
	holds(t, d, 0, nil)
	caches(t, d, 0)
	d.Crash(nil)
	holds(t, d, 0, []byte("what was"))
}

func TestReadOfNoSector(t *testing.T) {
	for _, n := range []int{1, 5, 4096} {
		d := made(t, n)
		write(t, d, n-1, []byte("a"))
		for _, at := range noAts(n) {
			if b, e := d.Read(at); b != nil || e != api.ErrArg {
				t.Errorf("Read(%d) of %d = %v, %v", at, n, b, e)
			}
		}
	}
}

func TestReadOfWhatIsGone(t *testing.T) {
	d := made(t, 3)
	write(t, d, 0, []byte("a"))
	flush(t, d)
	write(t, d, 1, []byte("b"))
	d.Budget(0)
	d.Flush()
	for _, at := range append(noAts(3), 0, 1, 2) {
		if b, e := d.Read(at); b != nil || e != api.ErrCrash {
			t.Errorf("Read(%d) of what is gone = %v, %v", at, b, e)
		}
	}
}

func TestReadIsNewMemory(t *testing.T) {
	d := made(t, 3)
	write(t, d, 0, []byte("laid"))
	flush(t, d)
	write(t, d, 1, []byte("cached"))
	wants := [][]byte{full([]byte("laid")), full([]byte("cached")), full(nil)}
	for at, want := range wants {
		a, _ := d.Read(at)
		b, _ := d.Read(at)
		for i := range a {
			a[i] ^= 0x55
		}
		_ = append(a, 1, 2, 3)
		if !bytes.Equal(b, want) {
			t.Errorf("two answers of sector %d share memory", at)
		}
		c, _ := d.Read(at)
		if !bytes.Equal(c, want) {
			t.Errorf("what is done to an answer of sector %d is done to the device", at)
		}
		write(t, d, at, []byte("anew"))
		flush(t, d)
		if !bytes.Equal(b, want) {
			t.Errorf("an answer of sector %d changes behind the call", at)
		}
	}
}

func TestReadSpendsNothing(t *testing.T) {
	d := made(t, 2)
	d.Budget(0)
	for range 5 {
		holds(t, d, 1, nil)
	}
	d.Budget(1)
	for range 5 {
		holds(t, d, 0, nil)
	}
	if d.Gone() || d.Spent() != 0 {
		t.Error(d.Gone(), d.Spent())
	}
	write(t, d, 0, nil)
}

// P4.3

func TestWriteOfEachLength(t *testing.T) {
	d := made(t, 2)
	for n := range api.Sector + 1 {
		write(t, d, 1, pattern(200, api.Sector))
		write(t, d, 1, pattern(n, n))
		holds(t, d, 1, pattern(n, n))
		flush(t, d)
		holds(t, d, 1, pattern(n, n))
		holds(t, d, 0, nil)
	}
	write(t, d, 0, []byte{})
	caches(t, d, 0)
	holds(t, d, 0, nil)
}

func TestWriteOfTooMany(t *testing.T) {
	d := made(t, 2)
	write(t, d, 1, []byte("a"))
	for _, n := range []int{65, 66, 128, 255, 256, 257, 320, 65536, 1 << 20} {
		if e := d.Write(0, make([]byte, n)); e != api.ErrArg {
			t.Errorf("Write of %d bytes = %v", n, e)
		}
		if e := d.Write(1, pattern(3, n)); e != api.ErrArg {
			t.Errorf("Write of %d bytes = %v", n, e)
		}
	}
	caches(t, d, 1)
	holds(t, d, 1, []byte("a"))
	if d.Spent() != 1 || d.Gone() {
		t.Error(d.Spent(), d.Gone())
	}
}

func TestWriteOfNoSector(t *testing.T) {
	for _, n := range []int{1, 5, 4096} {
		d := made(t, n)
		for _, at := range noAts(n) {
			for _, b := range [][]byte{nil, {1}, make([]byte, 64), make([]byte, 65)} {
				if e := d.Write(at, b); e != api.ErrArg {
					t.Errorf("Write(%d, %d bytes) of %d = %v", at, len(b), n, e)
				}
			}
		}
		caches(t, d)
		if d.Spent() != 0 || d.Gone() {
			t.Error(d.Spent(), d.Gone())
		}
	}
}

func TestWhatIsHandedInIsNotKept(t *testing.T) {
	for _, n := range []int{0, 1, 10, 63, 64} {
		d := made(t, 1)
		b := append(pattern(1, n), pattern(2, 80)...)
		was := bytes.Clone(b)
		write(t, d, 0, b[:n])
		holds(t, d, 0, pattern(1, n))
		if !bytes.Equal(b, was) {
			t.Errorf("Write of %d bytes changes what is handed in, or what lies behind it", n)
		}
		clear(b)
		holds(t, d, 0, pattern(1, n))
		flush(t, d)
		for i := range b {
			b[i] = 9
		}
		holds(t, d, 0, pattern(1, n))
	}
}

func TestOneSectorHandedInTwice(t *testing.T) {
	d := made(t, 3)
	b := pattern(5, 64)
	write(t, d, 0, b)
	write(t, d, 1, b)
	write(t, d, 0, []byte("other"))
	holds(t, d, 0, []byte("other"))
	holds(t, d, 1, b)
	l, _ := d.Read(1)
	write(t, d, 2, l)
	clear(l)
	holds(t, d, 1, b)
	holds(t, d, 2, b)
}

func TestFlushLaysDown(t *testing.T) {
	d := made(t, 5)
	flush(t, d)
	caches(t, d)
	write(t, d, 3, []byte("a"))
	write(t, d, 1, []byte("b"))
	write(t, d, 3, []byte("c"))
	flush(t, d)
	caches(t, d)
	d.Crash(nil)
	holds(t, d, 3, []byte("c"))
	holds(t, d, 1, []byte("b"))
	for _, at := range []int{0, 2, 4} {
		holds(t, d, at, nil)
	}
	flush(t, d)
	holds(t, d, 3, []byte("c"))
	if d.Spent() != 6 {
		t.Error(d.Spent())
	}
}

func TestTheOrderOfWritesErrors(t *testing.T) {
	d := made(t, 2)
	d.Budget(0)
	if e := d.Write(2, nil); e != api.ErrArg || d.Gone() {
		t.Error("at ahead of the budget:", e, d.Gone())
	}
	if e := d.Write(-1, nil); e != api.ErrArg || d.Gone() {
		t.Error("at ahead of the budget:", e, d.Gone())
	}
	if e := d.Write(1, make([]byte, 65)); e != api.ErrArg || d.Gone() {
		t.Error("b ahead of the budget:", e, d.Gone())
	}
	if e := d.Write(1, []byte("a")); e != api.ErrCrash || !d.Gone() {
		t.Error("the budget:", e, d.Gone())
	}
	for _, at := range append(noAts(2), 0) {
		if e := d.Write(at, make([]byte, 65)); e != api.ErrCrash {
			t.Error("gone ahead of all:", e)
		}
	}
	if d.Spent() != 0 {
		t.Error(d.Spent())
	}
}

func TestWhatIsNoneTakesNothingOfTheBudget(t *testing.T) {
	d := made(t, 2)
	d.Budget(2)
	for range 5 {
		d.Write(2, nil)
		d.Write(math.MinInt, []byte("a"))
		d.Write(0, make([]byte, 65))
		d.Read(9)
	}
	write(t, d, 0, []byte("a"))
	for range 5 {
		d.Write(2, nil)
	}
	flush(t, d)
	if e := d.Write(0, nil); e != api.ErrCrash || d.Spent() != 2 {
		t.Error(e, d.Spent())
	}
}

// P4.4

func TestABudgetOfSome(t *testing.T) {
	for k := range 6 {
		for flushed := range k + 1 { // that many of the budget go to Flushes
			d := made(t, 9)
			d.Budget(k)
			for range flushed {
				flush(t, d)
			}
			for i := range k - flushed {
				write(t, d, i, pattern(i, 2))
			}
			if d.Gone() || d.Spent() != k {
				t.Errorf("a budget of %d that is used up: Gone %v, Spent %d", k, d.Gone(), d.Spent())
			}
			holds(t, d, 8, nil)
			if e := d.Write(8, []byte("a")); e != api.ErrCrash || !d.Gone() || d.Spent() != k {
				t.Errorf("one Write more than %d: %v, Gone %v, Spent %d", k, e, d.Gone(), d.Spent())
			}
			if got := d.Cached(); len(got) != k-flushed {
				t.Errorf("what failed is cached, or what did not isn't: %v", got)
			}
			d.Crash([]bool{true, true, true, true, true, true, true, true, true})
			holds(t, d, 8, nil)
			for i := range k - flushed {
				holds(t, d, i, pattern(i, 2))
			}
		}
	}
}

func TestABudgetForFlushes(t *testing.T) {
	d := made(t, 3)
	write(t, d, 0, []byte("a"))
	d.Budget(0)
	if d.Gone() {
		t.Error("a budget of 0 alone makes nothing gone")
	}
	if e := d.Flush(); e != api.ErrCrash || !d.Gone() || d.Spent() != 1 {
		t.Errorf("%v, Gone %v, Spent %d", e, d.Gone(), d.Spent())
	}
	caches(t, d, 0)
	d.Crash(nil)
	holds(t, d, 0, nil)

	d.Budget(1)
	write(t, d, 2, []byte("b"))
	if e := d.Flush(); e != api.ErrCrash {
		t.Error(e)
	}
	d.Crash([]bool{true})
	holds(t, d, 2, []byte("b"))
}

func TestABudgetThatIsNone(t *testing.T) {
	for _, k := range []int{-1, -2, -100, math.MinInt, math.MinInt + 1} {
		d := made(t, 2)
		d.Budget(0)
		d.Budget(k)
		for i := range 300 {
			write(t, d, i%2, []byte{byte(i)})
			flush(t, d)
		}
		if d.Gone() || d.Spent() != 600 {
			t.Errorf("Budget(%d): Gone %v, Spent %d", k, d.Gone(), d.Spent())
		}
	}
}

func TestAtFirstThereIsNoBudget(t *testing.T) {
	d := made(t, 2)
	for i := range 5000 {
		write(t, d, i%2, []byte{byte(i)})
	}
	if d.Gone() || d.Spent() != 5000 {
		t.Error(d.Gone(), d.Spent())
	}
}

func TestABudgetGivenAnew(t *testing.T) {
	d := made(t, 2)
	d.Budget(5)
	write(t, d, 0, nil)
	d.Budget(1) // not one more
	write(t, d, 0, nil)
	d.Budget(2)
	write(t, d, 0, nil)
	write(t, d, 0, nil)
	d.Budget(math.MaxInt)
	write(t, d, 0, nil)
	d.Budget(0)
	if e := d.Write(0, nil); e != api.ErrCrash || d.Spent() != 5 {
		t.Error(e, d.Spent())
	}
}

func TestWhatIsGoneStaysSo(t *testing.T) {
	d := made(t, 2)
	write(t, d, 0, []byte("a"))
	d.Budget(0)
	d.Flush()
	for _, k := range []int{0, 1, 100, math.MaxInt, -1, math.MinInt} {
		d.Budget(k)
		if !d.Gone() {
			t.Fatalf("Budget(%d) brings it back", k)
		}
		if b, e := d.Read(0); b != nil || e != api.ErrCrash {
			t.Error("Read:", b, e)
		}
		if e := d.Write(0, []byte("b")); e != api.ErrCrash {
			t.Error("Write:", e)
		}
		if e := d.Flush(); e != api.ErrCrash {
			t.Error("Flush:", e)
		}
	}
	caches(t, d, 0)
	if d.Spent() != 1 {
		t.Error(d.Spent())
	}
	d.Crash([]bool{true})
	if d.Gone() {
		t.Error("it is gone behind a crash")
	}
	holds(t, d, 0, []byte("a"))
}

func TestCrashKeepsByRisingNumbers(t *testing.T) {
	ats := []int{7, 2, 9, 4} // cached: 2, 4, 7, 9
	sorted := []int{2, 4, 7, 9}
	for length := range 8 {
		for bits := range 1 << length {
			keep := make([]bool, length)
			for i := range keep {
				keep[i] = bits>>i&1 == 1
			}
			d := made(t, 10)
			for i := range 10 {
				write(t, d, i, pattern(i, 5))
			}
			flush(t, d)
			for _, at := range ats {
				write(t, d, at, pattern(at+50, 6))
			}
			was := slices.Clone(keep)
			d.Crash(keep)
			if !slices.Equal(keep, was) {
				t.Error("keep is changed")
			}
			caches(t, d)
			for at := range 10 {
				want := pattern(at, 5)
				if i := slices.Index(sorted, at); i >= 0 && i < length && keep[i] {
					want = pattern(at+50, 6)
				}
				holds(t, d, at, want)
			}
		}
	}
}

func TestCrashWithNil(t *testing.T) {
	d := made(t, 3)
	write(t, d, 1, []byte("a"))
	flush(t, d)
	write(t, d, 1, []byte("b"))
	write(t, d, 2, []byte("c"))
	d.Crash(nil)
	caches(t, d)
	holds(t, d, 1, []byte("a"))
	holds(t, d, 2, nil)
	d.Crash(nil)
	holds(t, d, 1, []byte("a"))
}

func TestCrashOfNothingCached(t *testing.T) {
	d := made(t, 2)
	write(t, d, 1, []byte("a"))
	flush(t, d)
	for _, keep := range [][]bool{nil, {}, {true}, {false}, {true, true, true}, make([]bool, 10000)} {
		d.Crash(keep)
		holds(t, d, 0, nil)
		holds(t, d, 1, []byte("a"))
		caches(t, d)
	}
	if d.Spent() != 2 {
		t.Error(d.Spent())
	}
}

func TestWhatIsKeptLiesThere(t *testing.T) {
	d := made(t, 3)
	write(t, d, 0, []byte("a"))
	write(t, d, 2, []byte("b"))
	d.Crash([]bool{false, true})
	d.Crash(nil)
	holds(t, d, 0, nil)
	holds(t, d, 2, []byte("b"))
}

func TestBehindACrashThereIsNoBudget(t *testing.T) {
	for _, k := range []int{0, 1, 3} {
		d := made(t, 2)
		d.Budget(k)
		d.Crash(nil)
		for i := range 10 {
			write(t, d, i%2, []byte{byte(i)})
			flush(t, d)
		}
		d.Budget(k)
		for d.Write(0, nil) == api.OK {
		}
		d.Crash(nil)
		if d.Gone() {
			t.Error("it is gone behind a crash")
		}
		write(t, d, 0, nil)
		flush(t, d)
		if d.Spent() != 22+k {
			t.Errorf("Spent = %d, want %d", d.Spent(), 22+k)
		}
	}
}

func TestABudgetForWhatIsGoneIsLostInTheCrash(t *testing.T) {
	d := made(t, 1)
	d.Budget(0)
	d.Flush()
	d.Budget(1)
	d.Crash(nil)
	for range 5 {
		flush(t, d)
	}
}

func TestSpentCountsWhatHadNoError(t *testing.T) {
	d := made(t, 2)
	want := 0
	check := func(what string) {
		t.Helper()
		if d.Spent() != want {
			t.Errorf("behind %s: Spent = %d, want %d", what, d.Spent(), want)
		}
	}
	check("New")
	write(t, d, 0, []byte("a"))
	want++
	check("a Write")
	write(t, d, 0, []byte("a"))
	want++
	check("the same Write")
	d.Write(5, nil)
	d.Write(0, make([]byte, 65))
	check("Writes of nothing")
	d.Read(0)
	d.Read(8)
	d.Cached()
	check("Reads")
	flush(t, d)
	want++
	check("a Flush")
	flush(t, d)
	want++
	check("a Flush of nothing")
	d.Budget(1)
	write(t, d, 1, nil)
	want++
	d.Write(1, nil)
	d.Flush()
	d.Write(1, nil)
	check("Writes and Flushes of what is gone")
	d.Crash([]bool{true})
	check("a Crash")
	flush(t, d)
	want++
	check("all that")
}

// P4.5

func TestWhatNewDidNotMake(t *testing.T) {
	failed, _ := device.New(0)
	for name, d := range map[string]*device.Device{"nil": nil, "new": new(device.Device), "literal": {}, "of an error": failed} {
		for range 2 { // the second time behind Budget and Crash
			if d.Size() != 0 || d.Spent() != 0 || len(d.Cached()) != 0 || !d.Gone() {
				t.Errorf("%s: Size %d, Spent %d, Cached %v, Gone %v", name, d.Size(), d.Spent(), d.Cached(), d.Gone())
			}
			for _, at := range append(noAts(0), 0, 1, 63) {
				if b, e := d.Read(at); b != nil || e != api.ErrCrash {
					t.Errorf("%s: Read(%d) = %v, %v", name, at, b, e)
				}
				for _, b := range [][]byte{nil, {}, {1}, make([]byte, 64), make([]byte, 65)} {
					if e := d.Write(at, b); e != api.ErrCrash {
						t.Errorf("%s: Write(%d, %d bytes) = %v", name, at, len(b), e)
					}
				}
			}
			if e := d.Flush(); e != api.ErrCrash {
				t.Errorf("%s: Flush = %v", name, e)
			}
			for _, k := range []int{5, 0, -1, math.MinInt, math.MaxInt} {
				d.Budget(k)
			}
			d.Crash(nil)
			d.Crash([]bool{true, false, true})
		}
		if d != nil && d.Size() != 0 {
			t.Error(name)
		}
	}
}

// The example of the chapter.

func TestWhatIsNotFlushedIsLost(t *testing.T) {
	d := made(t, 8)
	write(t, d, 3, []byte("heron"))
	holds(t, d, 3, []byte("heron"))
	d.Crash(nil)
	holds(t, d, 3, nil)

	write(t, d, 3, []byte("heron"))
	flush(t, d)
	d.Crash(nil)
	holds(t, d, 3, []byte("heron"))
}

// plain is a device of lists alone: each sector as it is laid down, and what is written behind it, if anything is.
type plain struct {
	laid, cached [][]byte
	budget       int
	gone         bool
	spent        int
}

// newPlain is one of n sectors.
func newPlain(n int) *plain {
	p := &plain{laid: make([][]byte, n), cached: make([][]byte, n), budget: -1}
	for i := range p.laid {
		p.laid[i] = make([]byte, 64)
	}
	return p
}

func (p *plain) read(at int) ([]byte, api.Errno) {
	switch {
	case p.gone:
		return nil, api.ErrCrash
	case at < 0 || at >= len(p.laid):
		return nil, api.ErrArg
	case p.cached[at] != nil:
		return p.cached[at], api.OK
	}
	return p.laid[at], api.OK
}

func (p *plain) write(at int, b []byte) api.Errno {
	switch {
	case p.gone:
		return api.ErrCrash
	case at < 0 || at >= len(p.laid) || len(b) > 64:
		return api.ErrArg
	case p.budget == 0:
		p.gone = true
		return api.ErrCrash
	}
	p.budget--
	p.spent++
	p.cached[at] = full(b)
	return api.OK
}

func (p *plain) flush() api.Errno {
	switch {
	case p.gone:
		return api.ErrCrash
	case p.budget == 0:
		p.gone = true
		return api.ErrCrash
	}
	p.budget--
	p.spent++
	for _, at := range p.all() {
		p.laid[at], p.cached[at] = p.cached[at], nil
	}
	return api.OK
}

func (p *plain) all() []int {
	var l []int
	for at, b := range p.cached {
		if b != nil {
			l = append(l, at)
		}
	}
	return l
}

func (p *plain) crash(keep []bool) {
	for i, at := range p.all() {
		if i < len(keep) && keep[i] {
			p.laid[at] = p.cached[at]
		}
		p.cached[at] = nil
	}
	p.gone, p.budget = false, -1
}

// steps does to a device and to a plain one what bytes tell, two or three a step, and holds each answer of one against the other's.
func steps(t *testing.T, script []byte) {
	if len(script) == 0 {
		return
	}
	n := int(script[0])%12 + 1
	d, p := made(t, n), newPlain(n)
	for i := 1; i+2 < len(script); i += 3 {
		at, x := int(script[i+1])%(n+2)-1, int(script[i+2])
		var got, want api.Errno
		switch script[i] % 8 {
		case 0, 1, 2:
			b := pattern(x, x%70)
			got, want = d.Write(at, b), p.write(at, b)
		case 3:
			got, want = d.Flush(), p.flush()
		case 4, 5:
			a, e := d.Read(at)
			b, f := p.read(at)
			if !bytes.Equal(a, b) {
				t.Fatalf("step %d: Read(%d) = %v, want %v", i/3, at, a, b)
			}
			got, want = e, f
		case 6:
			d.Budget(x%9 - 3)
			p.budget = x%9 - 3
		case 7:
			keep := make([]bool, at+1)
			for k := range keep {
				keep[k] = x>>(k%8)&1 == 1
			}
			d.Crash(keep)
			p.crash(keep)
		}
		if got != want {
			t.Fatalf("step %d, %v: %v, want %v", i/3, script[i:i+3], got, want)
		}
		if d.Size() != n || d.Spent() != p.spent || d.Gone() != p.gone || !slices.Equal(d.Cached(), p.all()) {
			t.Fatalf("step %d: Size %d, Spent %d, Gone %v, Cached %v, want %d, %d, %v, %v", i/3, d.Size(), d.Spent(), d.Gone(), d.Cached(), n, p.spent, p.gone, p.all())
		}
	}
	d.Crash(nil)
	p.crash(nil)
	for at := range n {
		holds(t, d, at, p.laid[at])
	}
}

// script is bytes of any kind, that a seed tells.
func script(seed uint32, n int) []byte {
	b := make([]byte, n)
	for i := range b {
		seed = seed*1664525 + 1013904223
		b[i] = byte(seed >> 24)
	}
	return b
}

func TestStepsOfAnyKind(t *testing.T) {
	for seed := range uint32(400) {
		steps(t, script(seed, 600))
	}
}

// P1

func FuzzDevice(f *testing.F) {
	for seed := range uint32(20) {
		f.Add(script(seed+1000, 90))
	}
	f.Fuzz(steps)
}
