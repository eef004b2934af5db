package pool_test

import (
	"bytes"
	"math"
	"slices"
	"testing"

	"heronry/api"
	"heronry/device"
	"heronry/pool"
)

// pattern is n bytes that are unlike another seed's, none of which is 0.
func pattern(seed, n int) []byte {
	b := make([]byte, n)
	for i := range b {
		b[i] = byte((i*7+seed*29)%255 + 1)
	}
	return b
}

// full is what a sector holds when b was written.
func full(b []byte) []byte { return append(bytes.Clone(b), make([]byte, 64-len(b))...) }

// upTo are the numbers 0 to n - 1.
func upTo(n int) []int {
	l := make([]int, n)
	for i := range l {
		l[i] = i
	}
	return l
}

// noAts are numbers that are a sector's of no device of n sectors.
func noAts(n int) []int {
	return []int{-1, -2, -64, math.MinInt, math.MinInt + 1, n, n + 1, 2 * n, 1 << 32, math.MaxInt - 1, math.MaxInt}
}

// made is a device of n sectors, all laid down: the sector i is pattern(i, 64).
func made(t *testing.T, n int) *device.Device {
	t.Helper()
	d, e := device.New(n)
	if d == nil || e != api.OK {
		t.Fatalf("New(%d) = %v, %v", n, d, e)
	}
	for at := range n {
		if e := d.Write(at, pattern(at, 64)); e != api.OK {
			t.Fatal(e)
		}
	}
	if e := d.Flush(); e != api.OK {
		t.Fatal(e)
	}
	return d
}

// end lets a device be gone.
func end(t *testing.T, d *device.Device) {
	t.Helper()
	d.Budget(0)
	if d.Flush() == api.OK || !d.Gone() {
		t.Fatal("the device is not gone")
	}
}

// gone is a device of n sectors that is gone.
func gone(t *testing.T, n int) *device.Device {
	t.Helper()
	d := made(t, n)
	end(t, d)
	return d
}

// news is a pool that must be there.
func news(t *testing.T, d *device.Device, room int) *pool.Pool {
	t.Helper()
	p, e := pool.New(d, room)
	if p == nil || e != api.OK {
		t.Fatalf("New of a room of %d = %v, %v", room, p, e)
	}
	return p
}

// newRefused checks that there is this error, and no pool beside it.
func newRefused(t *testing.T, d *device.Device, room int, want api.Errno) {
	t.Helper()
	if p, e := pool.New(d, room); p != nil || e != want {
		t.Errorf("New of a room of %d = %v, %v, want %v", room, p, e, want)
	}
}

// two are a device of n sectors, and a pool of it.
func two(t *testing.T, n, room int) (*device.Device, *pool.Pool) {
	t.Helper()
	d := made(t, n)
	return d, news(t, d, room)
}

// gets checks what a sector is.
func gets(t *testing.T, p *pool.Pool, at int, want []byte) {
	t.Helper()
	if b, e := p.Get(at); e != api.OK || !bytes.Equal(b, want) {
		t.Errorf("Get(%d) = %v, %v, want %v", at, b, e, want)
	}
}

// uses gets sectors that must be told.
func uses(t *testing.T, p *pool.Pool, ats ...int) {
	t.Helper()
	for _, at := range ats {
		if b, e := p.Get(at); e != api.OK || len(b) != 64 {
			t.Fatalf("Get(%d) = %v, %v", at, b, e)
		}
	}
}

// puts lays what must be laid.
func puts(t *testing.T, p *pool.Pool, at int, b []byte, lsn int) {
	t.Helper()
	if e := p.Put(at, b, lsn); e != api.OK {
		t.Fatalf("Put(%d, %v, %d) = %v", at, b, lsn, e)
	}
}

// pins pins what must be pinned.
func pins(t *testing.T, p *pool.Pool, ats ...int) {
	t.Helper()
	for _, at := range ats {
		if e := p.Pin(at); e != api.OK {
			t.Fatalf("Pin(%d) = %v", at, e)
		}
	}
}

// unpins lets go what must be let go.
func unpins(t *testing.T, p *pool.Pool, ats ...int) {
	t.Helper()
	for _, at := range ats {
		if e := p.Unpin(at); e != api.OK {
			t.Fatalf("Unpin(%d) = %v", at, e)
		}
	}
}

// unpinRefused checks that what is not pinned can't be let go.
func unpinRefused(t *testing.T, p *pool.Pool, ats ...int) {
	t.Helper()
	for _, at := range ats {
		if e := p.Unpin(at); e != api.ErrState {
			t.Errorf("Unpin(%d) = %v, want %v", at, e, api.ErrState)
		}
	}
}

// cleans writes all that may be.
func cleans(t *testing.T, p *pool.Pool) {
	t.Helper()
	if e := p.Clean(); e != api.OK {
		t.Fatalf("Clean = %v", e)
	}
}

// holds checks which sectors are held.
func holds(t *testing.T, p *pool.Pool, want ...int) {
	t.Helper()
	if l := p.Held(); !slices.Equal(l, want) {
		t.Errorf("Held = %v, want %v", l, want)
	}
}

// dirty checks which sectors are dirty.
func dirty(t *testing.T, p *pool.Pool, want ...int) {
	t.Helper()
	if l := p.Dirty(); !slices.Equal(l, want) {
		t.Errorf("Dirty = %v, want %v", l, want)
	}
}

// reads checks how often the device was read.
func reads(t *testing.T, p *pool.Pool, want int) {
	t.Helper()
	if n := p.Reads(); n != want {
		t.Errorf("Reads = %d, want %d", n, want)
	}
}

// spent checks how often the device was written.
func spent(t *testing.T, d *device.Device, want int) {
	t.Helper()
	if n := d.Spent(); n != want {
		t.Errorf("Spent = %d, want %d", n, want)
	}
}

// stands checks what a sector of the device is.
func stands(t *testing.T, d *device.Device, at int, want []byte) {
	t.Helper()
	if b, e := d.Read(at); e != api.OK || !bytes.Equal(b, want) {
		t.Errorf("in the sector %d there stands %v, %v, want %v", at, b, e, want)
	}
}

// contents are all of a device's sectors, as far as they can be read.
func contents(d *device.Device) [][]byte {
	var l [][]byte
	for at := range d.Size() {
		b, _ := d.Read(at)
		l = append(l, b)
	}
	return l
}

// still checks that a pool holds what it held, and its device has what it had, behind what is done.
func still(t *testing.T, d *device.Device, p *pool.Pool, do func()) {
	t.Helper()
	held, unclean, read, done, cached, was := p.Held(), p.Dirty(), p.Reads(), d.Spent(), d.Cached(), contents(d)
	do()
	holds(t, p, held...)
	dirty(t, p, unclean...)
	reads(t, p, read)
	spent(t, d, done)
	if !slices.Equal(d.Cached(), cached) || !slices.EqualFunc(contents(d), was, bytes.Equal) {
		t.Error("the device is not as it was")
	}
}

// refused checks that Get, Put and Pin have this error, no bytes beside it, and do nothing.
func refused(t *testing.T, d *device.Device, p *pool.Pool, at int, want api.Errno) {
	t.Helper()
	still(t, d, p, func() {
		if b, e := p.Get(at); b != nil || e != want {
			t.Errorf("Get(%d) = %v, %v, want %v", at, b, e, want)
		}
		if e := p.Put(at, pattern(99, 64), 0); e != want {
			t.Errorf("Put(%d) = %v, want %v", at, e, want)
		}
		if e := p.Pin(at); e != want {
			t.Errorf("Pin(%d) = %v, want %v", at, e, want)
		}
	})
}

// P17.1

func TestNewOfEachRoom(t *testing.T) {
	d := made(t, 70)
	done := d.Spent()
	for room := 1; room <= 64; room++ {
		p := news(t, d, room)
		holds(t, p)
		dirty(t, p)
		reads(t, p, 0)
		uses(t, p, upTo(room)...)
		holds(t, p, upTo(room)...)
		uses(t, p, room)
		if n := len(p.Held()); n != room {
			t.Errorf("of a room of %d, %d are held", room, n)
		}
	}
	spent(t, d, done)
}

func TestNewOfNoRoom(t *testing.T) {
	for _, room := range []int{math.MinInt, math.MinInt + 1, -64, -1, 0, 65, 66, 128, 1 << 32, 1<<32 + 1, math.MaxInt - 1, math.MaxInt} {
		newRefused(t, made(t, 3), room, api.ErrArg)
		newRefused(t, gone(t, 3), room, api.ErrArg)
		newRefused(t, nil, room, api.ErrArg)
		newRefused(t, new(device.Device), room, api.ErrArg)
	}
}

func TestNewOfADeviceThatIsGone(t *testing.T) {
	for _, room := range []int{1, 2, 63, 64} {
		newRefused(t, nil, room, api.ErrCrash)
		newRefused(t, new(device.Device), room, api.ErrCrash)
		d := gone(t, 3)
		newRefused(t, d, room, api.ErrCrash)
		d.Crash(nil)
		gets(t, news(t, d, room), 2, pattern(2, 64))
	}
}

func TestSafeRises(t *testing.T) {
	for _, x := range []struct {
		told []int
		safe int
	}{
		{nil, 0}, {[]int{0}, 0}, {[]int{-1}, 0}, {[]int{math.MinInt}, 0},
		{[]int{1}, 1}, {[]int{5}, 5}, {[]int{5, 5}, 5}, {[]int{5, 4}, 5}, {[]int{5, 6}, 6}, {[]int{3, 5}, 5}, {[]int{5, 3, 4}, 5},
		{[]int{5, 0}, 5}, {[]int{5, -1}, 5}, {[]int{5, math.MinInt}, 5}, {[]int{-1, 1}, 1},
		{[]int{math.MaxInt - 1}, math.MaxInt - 1}, {[]int{math.MaxInt - 1, math.MinInt, 7}, math.MaxInt - 1},
	} {
		d, p := two(t, 4, 4)
		puts(t, p, 0, nil, 0)
		puts(t, p, 1, nil, x.safe)
		puts(t, p, 2, nil, x.safe+1)
		puts(t, p, 3, nil, math.MaxInt)
		for _, lsn := range x.told {
			still(t, d, p, func() { p.Safe(lsn) })
		}
		cleans(t, p)
		dirty(t, p, 2, 3)
		p.Safe(math.MaxInt)
		p.Safe(x.safe)
		cleans(t, p)
		dirty(t, p)
	}
}

func TestSafeOfOnePoolIsNotAnothers(t *testing.T) {
	d, p := two(t, 4, 2)
	q := news(t, d, 2)
	puts(t, p, 1, nil, 5)
	puts(t, q, 2, nil, 5)
	p.Safe(5)
	cleans(t, q)
	dirty(t, q, 2)
	holds(t, q, 2)
	cleans(t, p)
	dirty(t, p)
	holds(t, p, 1)
}

// P17.2: what is told

func TestGetOfEachKind(t *testing.T) {
	d, p := two(t, 5, 4)
	if d.Write(1, []byte("cached")) != api.OK || d.Write(3, nil) != api.OK {
		t.Fatal("Write")
	}
	done := d.Spent()
	gets(t, p, 0, pattern(0, 64))
	gets(t, p, 1, full([]byte("cached")))
	gets(t, p, 3, make([]byte, 64))
	gets(t, p, 4, pattern(4, 64))
	reads(t, p, 4)
	holds(t, p, 0, 1, 3, 4)
	dirty(t, p)
	for range 3 {
		gets(t, p, 1, full([]byte("cached")))
		gets(t, p, 4, pattern(4, 64))
	}
	reads(t, p, 4)
	spent(t, d, done)
}

func TestGetOfWhatIsHeldIsNotRead(t *testing.T) {
	d, p := two(t, 3, 1)
	uses(t, p, 1)
	if d.Write(1, []byte("behind its back")) != api.OK {
		t.Fatal("Write")
	}
	gets(t, p, 1, pattern(1, 64))
	reads(t, p, 1)
	uses(t, p, 2)
	gets(t, p, 1, full([]byte("behind its back")))
	reads(t, p, 3)
}

func TestGetOfASectorThatIsNone(t *testing.T) {
	for _, n := range []int{1, 3, 64, 4096} {
		d, p := two(t, n, 64)
		for _, at := range noAts(n) {
			refused(t, d, p, at, api.ErrArg)
		}
		uses(t, p, 0, n-1)
		for _, at := range noAts(n) {
			refused(t, d, p, at, api.ErrArg)
		}
	}
}

func TestGetOfASectorThatIsNoneOfAFullPool(t *testing.T) {
	for _, room := range []int{1, 2, 64} {
		d, p := two(t, 80, room)
		for at := range room {
			puts(t, p, at, nil, at%3)
			if at%3 == 0 {
				pins(t, p, at)
			}
		}
		refused(t, d, p, 79, api.ErrFull)
		for _, at := range noAts(80) {
			refused(t, d, p, at, api.ErrArg)
		}
		p.Safe(9)
		for at := 0; at < room; at += 3 {
			unpins(t, p, at)
		}
		for _, at := range noAts(80) {
			refused(t, d, p, at, api.ErrArg)
		}
		uses(t, p, 79)
	}
}

// TestGetOfASectorThatIsNoneMovesNothing: neither does the hand go on, nor is anything not used lately any more.
func TestGetOfASectorThatIsNoneMovesNothing(t *testing.T) {
	d, p := two(t, 9, 4)
	turns(t, p, []turn{{0, -1}, {1, -1}, {2, -1}, {3, -1}, {4, 0}, {2, -1}})
	for _, at := range noAts(9) {
		refused(t, d, p, at, api.ErrArg)
	}
	turns(t, p, []turn{{5, 1}, {6, 3}, {7, 2}})
}

func TestGetOfADeviceThatIsGone(t *testing.T) {
	d, p := two(t, 9, 3)
	puts(t, p, 1, []byte("put"), 5)
	pins(t, p, 1)
	uses(t, p, 4)
	end(t, d)
	for _, at := range append(noAts(9), upTo(9)...) {
		refused(t, d, p, at, api.ErrCrash)
	}
	d.Crash(nil)
	gets(t, p, 1, full([]byte("put")))
	gets(t, p, 4, pattern(4, 64))
	reads(t, p, 2)
	gets(t, p, 7, pattern(7, 64))
	end(t, d)
	for _, at := range append(noAts(9), upTo(9)...) { // it is full by now
		refused(t, d, p, at, api.ErrCrash)
	}
	unpins(t, p, 1)
	unpinRefused(t, p, 1)
}

// P17.2: who goes

// turn is a Get of a sector, and who goes then: -1, if nobody does; full, if nobody may.
type turn struct{ at, goes int }

const fullUp = -2

// without is a list without what is in another one.
func without(l, other []int) []int {
	return slices.DeleteFunc(slices.Clone(l), func(at int) bool { return slices.Contains(other, at) })
}

// turns gets sectors, and checks who goes each time.
func turns(t *testing.T, p *pool.Pool, l []turn) {
	t.Helper()
	for i, x := range l {
		was, read := p.Held(), p.Reads()
		_, e := p.Get(x.at)
		went, came := without(was, p.Held()), without(p.Held(), was)
		want := []int{}
		if x.goes >= 0 {
			want = []int{x.goes}
		}
		if !slices.Equal(went, want) {
			t.Fatalf("%d: behind Get(%d) of %v, %v went, want %v", i, x.at, was, went, want)
		}
		switch {
		case x.goes == fullUp:
			if e != api.ErrFull || len(came) != 0 || p.Reads() != read {
				t.Fatalf("%d: Get(%d) of %v = %v, and %v came, %d were read", i, x.at, was, e, came, p.Reads()-read)
			}
		case e != api.OK || !slices.Contains(p.Held(), x.at) || p.Reads()-read != len(came):
			t.Fatalf("%d: Get(%d) of %v = %v, and %v came, %d were read", i, x.at, was, e, came, p.Reads()-read)
		}
	}
}

func TestWhoGoes(t *testing.T) {
	for name, x := range map[string]struct {
		room int
		l    []turn
	}{
		"of a room of 1": {1, []turn{{5, -1}, {5, -1}, {6, 5}, {6, -1}, {5, 6}, {0, 5}, {1, 0}}},
		"of a room of 2, in the order in which they came": {2, []turn{{7, -1}, {3, -1}, {1, 7}, {2, 3}, {4, 1}, {5, 2}, {6, 4}}},
		// Of two, the one that came last was always used lately, too.
		"of a room of 2, one that is used again": {2, []turn{{7, -1}, {3, -1}, {1, 7}, {3, -1}, {2, 3}, {1, -1}, {4, 1}, {5, 2}}},
		"not by their numbers":                   {4, []turn{{8, -1}, {2, -1}, {9, -1}, {1, -1}, {5, 8}, {6, 2}, {0, 9}, {7, 1}, {3, 5}}},
		// The first round finds that all were used lately, and so the first one goes in the second.
		"all were used lately": {3, []turn{{0, -1}, {1, -1}, {2, -1}, {3, 0}, {1, -1}, {2, -1}, {4, 1}, {5, 2}, {6, 3}, {7, 4}}},
		// 2 is passed but once: it is not used lately any more.
		"passed once":          {4, []turn{{0, -1}, {1, -1}, {2, -1}, {3, -1}, {4, 0}, {2, -1}, {5, 1}, {6, 3}, {7, 2}, {8, 4}, {9, 5}, {0, 6}, {1, 7}}},
		"used again and again": {4, []turn{{0, -1}, {1, -1}, {2, -1}, {3, -1}, {4, 0}, {2, -1}, {5, 1}, {6, 3}, {2, -1}, {7, 4}, {2, -1}, {8, 5}, {9, 6}, {2, -1}, {0, 7}, {1, 8}}},
		// What came in place of one that went is behind all the others, and was used lately.
		"what came is the last one": {3, []turn{{0, -1}, {1, -1}, {2, -1}, {3, 0}, {4, 1}, {5, 2}, {6, 3}, {7, 4}, {8, 5}, {9, 6}}},
		// One goes each time, and the hand asks nobody else.
		"the hand stays behind the one that went": {4, []turn{{0, -1}, {1, -1}, {2, -1}, {3, -1}, {4, 0}, {5, 1}, {1, 2}, {0, 3}, {9, 4}}},
		// The hand is at the first one, however often others are told while there is room.
		"the hand does not go on while there is room": {3, []turn{{4, -1}, {4, -1}, {5, -1}, {4, -1}, {5, -1}, {6, -1}, {4, -1}, {1, 4}, {2, 5}}},
		"who went comes again":                        {2, []turn{{0, -1}, {1, -1}, {2, 0}, {0, 1}, {1, 2}, {2, 0}, {2, -1}, {0, 1}}},
	} {
		t.Run(name, func(t *testing.T) {
			_, p := two(t, 10, x.room)
			turns(t, p, x.l)
		})
	}
}

func TestWhoGoesOfARoomOf64(t *testing.T) {
	_, p := two(t, 300, 64)
	var l []turn
	for at := range 64 {
		l = append(l, turn{at * 4, -1}) // not the sectors that come next
	}
	for at := range 64 {
		l = append(l, turn{at*4 + 1, at * 4})
	}
	for at := range 64 {
		l = append(l, turn{at*4 + 2, at*4 + 1})
	}
	l = append(l, turn{9*4 + 2, -1}, turn{3, 2}) // all were used lately, and are not any more
	for at := 1; at < 64; at++ {
		if at != 7 {
			l = append(l, turn{at*4 + 3, at*4 + 2})
		} else { // 8 is used again, so that 9 goes in its place, and so on
			l = append(l, turn{8*4 + 2, -1}, turn{7*4 + 3, 7*4 + 2}, turn{8*4 + 3, 9*4 + 2})
			break
		}
	}
	turns(t, p, l)
}

func TestWhatUsesASector(t *testing.T) {
	for name, x := range map[string]struct {
		use  func(d *device.Device, p *pool.Pool)
		used bool
	}{
		"nothing":               {func(d *device.Device, p *pool.Pool) {}, false},
		"Get":                   {func(d *device.Device, p *pool.Pool) { p.Get(1) }, true},
		"Put":                   {func(d *device.Device, p *pool.Pool) { p.Put(1, nil, 0) }, true},
		"Pin":                   {func(d *device.Device, p *pool.Pool) { p.Pin(1); p.Unpin(1) }, true},
		"Put that is refused":   {func(d *device.Device, p *pool.Pool) { p.Put(1, make([]byte, 65), 0); p.Put(1, nil, -1) }, false},
		"Unpin":                 {func(d *device.Device, p *pool.Pool) { p.Unpin(1) }, false},
		"Safe":                  {func(d *device.Device, p *pool.Pool) { p.Safe(1) }, false},
		"Clean":                 {func(d *device.Device, p *pool.Pool) { p.Clean() }, false},
		"what tells of it":      {func(d *device.Device, p *pool.Pool) { p.Held(); p.Dirty(); p.Reads() }, false},
		"Get that has an error": {func(d *device.Device, p *pool.Pool) { p.Get(-1) }, false},
		"Get of a device that is gone": {func(d *device.Device, p *pool.Pool) {
			d.Budget(0)
			d.Flush()
			p.Get(1)
			p.Put(1, nil, 0)
			p.Pin(1)
			d.Crash(nil)
		}, false},
	} {
		t.Run(name, func(t *testing.T) {
			d, p := two(t, 9, 4)
			turns(t, p, []turn{{0, -1}, {1, -1}, {2, -1}, {3, -1}, {4, 0}}) // the hand is at 1, and only 4 was used lately
			x.use(d, p)
			if x.used {
				turns(t, p, []turn{{5, 2}, {6, 3}, {7, 1}})
			} else {
				turns(t, p, []turn{{5, 1}, {6, 2}, {7, 3}})
			}
		})
	}
}

// TestUnpinAndCleanDoNotUse: what was pinned, or dirty, is as used as it was.
func TestUnpinAndCleanDoNotUse(t *testing.T) {
	_, p := two(t, 9, 3)
	turns(t, p, []turn{{0, -1}, {1, -1}, {2, -1}})
	puts(t, p, 1, nil, 0)
	turns(t, p, []turn{{3, 0}})
	cleans(t, p)
	turns(t, p, []turn{{4, 1}})
	pins(t, p, 4)
	turns(t, p, []turn{{5, 2}, {6, 3}})
	unpins(t, p, 4) // it was used lately as long as it was pinned
	turns(t, p, []turn{{7, 5}, {8, 4}})
}

func TestWhatIsPinnedDoesNotGo(t *testing.T) {
	_, p := two(t, 9, 3)
	pins(t, p, 0, 2)
	turns(t, p, []turn{{1, -1}, {3, 1}, {4, 3}, {5, 4}})
	pins(t, p, 5)
	turns(t, p, []turn{{6, fullUp}, {6, fullUp}, {0, -1}})
	unpins(t, p, 2)
	turns(t, p, []turn{{6, 2}, {7, 6}})
	unpins(t, p, 5)
	unpins(t, p, 0)
	holds(t, p, 0, 5, 7)
}

func TestWhatIsDirtyAndNotSafeDoesNotGo(t *testing.T) {
	d, p := two(t, 9, 3)
	done := d.Spent()
	puts(t, p, 0, []byte("a"), 5)
	puts(t, p, 2, []byte("b"), 6)
	turns(t, p, []turn{{1, -1}, {3, 1}, {4, 3}})
	puts(t, p, 4, []byte("c"), 7)
	turns(t, p, []turn{{6, fullUp}})
	p.Safe(4)
	turns(t, p, []turn{{6, fullUp}})
	spent(t, d, done)
	p.Safe(5)
	turns(t, p, []turn{{6, 0}, {7, 6}})
	spent(t, d, done+1)
	p.Safe(7)
	turns(t, p, []turn{{8, 2}, {6, 4}})
	spent(t, d, done+3)
	stands(t, d, 0, full([]byte("a")))
	stands(t, d, 2, full([]byte("b")))
	stands(t, d, 4, full([]byte("c")))
}

func TestWhatIsPinnedAndDirtyGoesBehindBoth(t *testing.T) {
	for _, safeFirst := range []bool{false, true} {
		d, p := two(t, 3, 1)
		puts(t, p, 0, []byte("a"), 5)
		pins(t, p, 0)
		turns(t, p, []turn{{1, fullUp}})
		if safeFirst {
			p.Safe(5)
		} else {
			unpins(t, p, 0)
		}
		turns(t, p, []turn{{1, fullUp}})
		if safeFirst {
			unpins(t, p, 0)
		} else {
			p.Safe(5)
		}
		stands(t, d, 0, pattern(0, 64))
		turns(t, p, []turn{{1, 0}})
		stands(t, d, 0, full([]byte("a")))
	}
}

func TestNobodyMayGo(t *testing.T) {
	for _, room := range []int{1, 2, 3, 64} {
		d, p := two(t, 66, room)
		for at := range room {
			if at%2 == 0 {
				pins(t, p, at)
			} else {
				puts(t, p, at, pattern(at+7, 9), at)
			}
		}
		for range 3 {
			refused(t, d, p, 65, api.ErrFull)
			refused(t, d, p, room, api.ErrFull)
		}
		for at := range room { // what is held is told all the same
			want := pattern(at, 64)
			if at%2 == 1 {
				want = full(pattern(at+7, 9))
			}
			gets(t, p, at, want)
		}
		last := (room - 1) / 2 * 2
		unpins(t, p, last)
		turns(t, p, []turn{{65, last}})
	}
}

// TestTheHandBehindARoundThatFoundNone: twice round it is where it was.
func TestTheHandBehindARoundThatFoundNone(t *testing.T) {
	for at := range 4 {
		_, p := two(t, 12, 4)
		turns(t, p, []turn{{0, -1}, {1, -1}, {2, -1}, {3, -1}})
		for i := range at {
			turns(t, p, []turn{{4 + i, i}}) // the hand goes on to at
		}
		held := p.Held()
		pins(t, p, held...)
		turns(t, p, []turn{{10, fullUp}, {11, fullUp}, {10, fullUp}})
		unpins(t, p, held...)
		for i, sector := range slices.Concat(upTo(4)[at:], upTo(8)[4:4+at]) { // from at on, and round
			turns(t, p, []turn{{8 + i, sector}})
		}
	}
}

// TestWhatMayNotGoIsAsUsedAsItWas holds P17.2 by its words: the hand takes it only from one that may go.
func TestWhatMayNotGoIsAsUsedAsItWas(t *testing.T) {
	_, p := two(t, 9, 2)
	pins(t, p, 0, 1)
	turns(t, p, []turn{{2, fullUp}})
	unpins(t, p, 0, 1)
	turns(t, p, []turn{{0, -1}, {2, 0}}) // not 1, which was used lately, too
	_, p = two(t, 9, 2)
	puts(t, p, 0, nil, 1)
	puts(t, p, 1, nil, 1)
	turns(t, p, []turn{{2, fullUp}})
	p.Safe(1)
	turns(t, p, []turn{{0, -1}, {2, 0}})
	_, p = two(t, 9, 3)
	pins(t, p, 0)
	turns(t, p, []turn{{1, -1}, {2, -1}, {3, 1}, {4, 2}})
	unpins(t, p, 0)
	turns(t, p, []turn{{5, 0}, {3, -1}, {6, 4}}) // all were used lately, as 0 still was: so 4 is not any more
}

// P17.2: what goes is written

func TestWhatGoesAndIsDirtyIsWritten(t *testing.T) {
	d, p := two(t, 9, 2)
	done := d.Spent()
	puts(t, p, 3, []byte("three"), 0)
	uses(t, p, 4)
	stands(t, d, 3, pattern(3, 64))
	turns(t, p, []turn{{5, 3}})
	stands(t, d, 3, full([]byte("three")))
	if l := d.Cached(); !slices.Equal(l, []int{3}) {
		t.Error("cached:", l)
	}
	spent(t, d, done+1)
	dirty(t, p)
	turns(t, p, []turn{{6, 4}}) // which is not dirty
	spent(t, d, done+1)
	gets(t, p, 3, full([]byte("three")))
	dirty(t, p)
	reads(t, p, 5)
}

// TestOnlyWhatGoesIsWritten: none of those that are passed is.
func TestOnlyWhatGoesIsWritten(t *testing.T) {
	d, p := two(t, 9, 3)
	done := d.Spent()
	for at := range 3 {
		puts(t, p, at, pattern(at+7, 64), 0)
	}
	turns(t, p, []turn{{3, 0}})
	spent(t, d, done+1)
	dirty(t, p, 1, 2)
	turns(t, p, []turn{{1, -1}, {4, 2}})
	spent(t, d, done+2)
	dirty(t, p, 1)
	stands(t, d, 0, pattern(7, 64))
	stands(t, d, 1, pattern(1, 64))
	stands(t, d, 2, pattern(9, 64))
}

func TestWhatGoesAndCannotBeWritten(t *testing.T) {
	for name, ask := range map[string]func(p *pool.Pool) api.Errno{
		"Get": func(p *pool.Pool) api.Errno { b, e := p.Get(5); return max(e, api.Errno(len(b)*100)) },
		"Put": func(p *pool.Pool) api.Errno { return p.Put(5, []byte("five"), 0) },
		"Pin": func(p *pool.Pool) api.Errno { return p.Pin(5) },
	} {
		t.Run(name, func(t *testing.T) {
			d, p := two(t, 9, 2)
			puts(t, p, 3, []byte("three"), 2)
			puts(t, p, 4, []byte("four"), 3)
			p.Safe(2)
			done := d.Spent()
			d.Budget(0)
			if e := ask(p); e != api.ErrCrash || !d.Gone() {
				t.Errorf("it is %v, Gone %v", e, d.Gone())
			}
			holds(t, p, 3, 4)
			dirty(t, p, 3, 4)
			reads(t, p, 2)
			spent(t, d, done)
			d.Crash(nil)
			stands(t, d, 3, pattern(3, 64))
			gets(t, p, 3, full([]byte("three")))
			unpinRefused(t, p, 3, 4, 5)
			cleans(t, p)
			dirty(t, p, 4) // its Lsn is what it was
			stands(t, d, 3, full([]byte("three")))
			turns(t, p, []turn{{5, 3}})
			gets(t, p, 5, pattern(5, 64))
		})
	}
}

// TestTheHandBehindOneThatCannotBeWritten holds P17.2 by its words: it has gone on then.
func TestTheHandBehindOneThatCannotBeWritten(t *testing.T) {
	d, p := two(t, 9, 3)
	puts(t, p, 0, []byte("a"), 0)
	turns(t, p, []turn{{1, -1}, {2, -1}})
	d.Budget(0)
	if _, e := p.Get(3); e != api.ErrCrash {
		t.Fatal(e)
	}
	d.Crash(nil)
	turns(t, p, []turn{{3, 1}, {4, 2}, {5, 0}})
	stands(t, d, 0, full([]byte("a")))
}

func TestABudgetThatIsJustEnough(t *testing.T) {
	d, p := two(t, 9, 2)
	puts(t, p, 3, []byte("three"), 0)
	puts(t, p, 4, []byte("four"), 0)
	d.Budget(1)
	turns(t, p, []turn{{5, 3}})
	gets(t, p, 5, pattern(5, 64))
	if d.Gone() {
		t.Error("it is gone")
	}
	if b, e := p.Get(6); b != nil || e != api.ErrCrash || !d.Gone() {
		t.Errorf("%v, %v, Gone %v", b, e, d.Gone())
	}
	holds(t, p, 4, 5)
	dirty(t, p, 4)
}

// TestABudgetOfNoneWhereNothingIsWritten: a read takes nothing of it.
func TestABudgetOfNoneWhereNothingIsWritten(t *testing.T) {
	d, p := two(t, 9, 2)
	d.Budget(0)
	turns(t, p, []turn{{3, -1}, {4, -1}, {5, 3}, {6, 4}, {5, -1}})
	if d.Gone() {
		t.Error("it is gone")
	}
}

// P17.3

func TestPutOfEachLength(t *testing.T) {
	for _, n := range []int{0, 1, 2, 63, 64} {
		d, p := two(t, 3, 2)
		done := d.Spent()
		puts(t, p, 1, pattern(50, n), 0)
		gets(t, p, 1, full(pattern(50, n)))
		holds(t, p, 1)
		dirty(t, p, 1)
		reads(t, p, 1)
		spent(t, d, done)
		stands(t, d, 1, pattern(1, 64))
		cleans(t, p)
		stands(t, d, 1, full(pattern(50, n)))
	}
	_, p := two(t, 3, 2)
	puts(t, p, 2, nil, 0)
	gets(t, p, 2, make([]byte, 64))
	dirty(t, p, 2)
}

func TestPutOfShorterBytesBehindLongerOnes(t *testing.T) {
	for _, long := range []int{64, 63, 20, 1} {
		for _, short := range []int{0, 1, 19, 63} {
			d, p := two(t, 3, 1)
			puts(t, p, 0, pattern(40, long), 0)
			puts(t, p, 0, pattern(41, short), 0)
			gets(t, p, 0, full(pattern(41, short)))
			cleans(t, p)
			puts(t, p, 0, pattern(42, short), 0)
			gets(t, p, 0, full(pattern(42, short)))
			uses(t, p, 1)
			stands(t, d, 0, full(pattern(42, short)))
			gets(t, p, 0, full(pattern(42, short)))
		}
	}
}

// putRefused checks that there is this error, and that nothing is done.
func putRefused(t *testing.T, d *device.Device, p *pool.Pool, at, n, lsn int, want api.Errno) {
	t.Helper()
	still(t, d, p, func() {
		if e := p.Put(at, pattern(60, n), lsn); e != want {
			t.Errorf("Put(%d) of %d bytes with %d = %v, want %v", at, n, lsn, e, want)
		}
	})
}

func TestPutOfWhatMayNotBe(t *testing.T) {
	wrong := []struct{ n, lsn int }{{65, 0}, {66, 0}, {128, 5}, {1 << 16, 0}, {0, -1}, {64, -1}, {64, math.MinInt}, {65, -1}, {1000, math.MinInt}, {65, math.MaxInt}}
	d, p := two(t, 9, 2)
	puts(t, p, 1, []byte("one"), 3)
	for _, x := range wrong {
		for _, at := range append(noAts(9), upTo(9)...) {
			putRefused(t, d, p, at, x.n, x.lsn, api.ErrArg)
		}
	}
	gets(t, p, 1, full([]byte("one")))
	pins(t, p, 2)
	refused(t, d, p, 3, api.ErrFull)
	for _, x := range wrong { // of a pool that is full
		for _, at := range append(noAts(9), upTo(9)...) {
			putRefused(t, d, p, at, x.n, x.lsn, api.ErrArg)
		}
	}
	end(t, d)
	for _, at := range append(noAts(9), upTo(9)...) { // of a device that is gone
		for _, x := range wrong {
			putRefused(t, d, p, at, x.n, x.lsn, api.ErrArg)
		}
		putRefused(t, d, p, at, 64, 0, api.ErrCrash)
		putRefused(t, d, p, at, 0, math.MaxInt, api.ErrCrash)
	}
	d.Crash(nil)
	gets(t, p, 1, full([]byte("one")))
	p.Safe(3)
	cleans(t, p)
	dirty(t, p)
}

func TestPutOfEachLsn(t *testing.T) {
	for _, lsn := range []int{0, 1, 2, 1 << 41, math.MaxInt - 1, math.MaxInt} {
		d, p := two(t, 3, 1)
		puts(t, p, 1, []byte("one"), lsn)
		if lsn > 0 {
			p.Safe(lsn - 1)
			cleans(t, p)
			dirty(t, p, 1)
			refused(t, d, p, 2, api.ErrFull)
			p.Safe(lsn)
		}
		cleans(t, p)
		dirty(t, p)
		stands(t, d, 1, full([]byte("one")))
	}
}

func TestPutOfALsnBehindAnother(t *testing.T) {
	for _, x := range []struct{ first, then, counts int }{
		{5, 5, 5}, {5, 4, 5}, {5, 6, 6}, {5, 0, 5}, {0, 5, 5}, {0, 1, 1}, {1, 0, 1},
		{math.MaxInt, 0, math.MaxInt}, {math.MaxInt, math.MaxInt - 1, math.MaxInt}, {math.MaxInt - 1, math.MaxInt, math.MaxInt},
	} {
		d, p := two(t, 3, 1)
		puts(t, p, 1, []byte("first"), x.first)
		puts(t, p, 1, []byte("then"), x.then)
		gets(t, p, 1, full([]byte("then")))
		p.Safe(x.counts - 1)
		cleans(t, p)
		dirty(t, p, 1)
		turns(t, p, []turn{{2, fullUp}})
		stands(t, d, 1, pattern(1, 64))
		p.Safe(x.counts)
		turns(t, p, []turn{{2, 1}})
		stands(t, d, 1, full([]byte("then")))
	}
}

// TestPutOfALsnBehindClean: of one that is not dirty the new one counts, whichever is greater.
func TestPutOfALsnBehindClean(t *testing.T) {
	for _, x := range []struct{ first, safe, then int }{{5, 9, 10}, {9, 9, 10}, {9, 9, 12}, {9, 9, math.MaxInt}} {
		_, p := two(t, 3, 2)
		puts(t, p, 1, nil, x.first)
		p.Safe(x.safe)
		cleans(t, p)
		puts(t, p, 1, nil, x.then)
		cleans(t, p)
		dirty(t, p, 1)
		p.Safe(x.then - 1)
		cleans(t, p)
		dirty(t, p, 1)
		p.Safe(x.then)
		cleans(t, p)
		dirty(t, p)
	}
	for _, then := range []int{0, 1, 8, 9} { // what was greater once holds nothing fast
		_, p := two(t, 3, 1)
		puts(t, p, 1, nil, 9)
		p.Safe(9)
		cleans(t, p)
		puts(t, p, 1, []byte("then"), then)
		dirty(t, p, 1)
		turns(t, p, []turn{{2, 1}, {1, 2}})
		gets(t, p, 1, full([]byte("then")))
	}
}

// TestPutBehindOneThatWent: what comes again is as what was never there.
func TestPutBehindOneThatWent(t *testing.T) {
	d, p := two(t, 9, 1)
	puts(t, p, 1, pattern(70, 64), 7)
	pins(t, p, 1)
	unpins(t, p, 1)
	p.Safe(7)
	turns(t, p, []turn{{2, 1}})
	dirty(t, p)
	puts(t, p, 2, []byte("two"), 3)
	turns(t, p, []turn{{1, 2}})
	dirty(t, p)
	unpinRefused(t, p, 1)
	done := d.Spent()
	turns(t, p, []turn{{3, 1}})
	spent(t, d, done)
	stands(t, d, 1, pattern(70, 64))
}

func TestPutReadsWhatIsNotHeld(t *testing.T) {
	_, p := two(t, 9, 2)
	puts(t, p, 1, nil, 0)
	puts(t, p, 2, nil, 0)
	reads(t, p, 2)
	puts(t, p, 1, nil, 0)
	reads(t, p, 2)
	puts(t, p, 3, nil, 0)
	reads(t, p, 3)
	holds(t, p, 2, 3)
	dirty(t, p, 2, 3)
}

// P17.4

func TestPinSeveralTimes(t *testing.T) {
	for _, n := range []int{1, 2, 3, 100} {
		_, p := two(t, 3, 1)
		unpinRefused(t, p, 1)
		for range n {
			pins(t, p, 1)
		}
		reads(t, p, 1)
		for range n {
			turns(t, p, []turn{{2, fullUp}})
			unpins(t, p, 1)
		}
		unpinRefused(t, p, 1, 1)
		turns(t, p, []turn{{2, 1}})
		unpinRefused(t, p, 1, 2)
		turns(t, p, []turn{{1, 2}})
		unpinRefused(t, p, 1, 2)
	}
}

func TestPinOfEachIsItsOwn(t *testing.T) {
	_, p := two(t, 9, 3)
	pins(t, p, 4, 7, 4, 2, 7, 4)
	unpins(t, p, 7, 2)
	unpinRefused(t, p, 2)
	turns(t, p, []turn{{1, 2}, {3, 1}})
	unpins(t, p, 7)
	unpinRefused(t, p, 7, 2, 1, 3)
	unpins(t, p, 4, 4)
	turns(t, p, []turn{{1, 7}, {7, 3}})
	unpins(t, p, 4)
	unpinRefused(t, p, 4)
	turns(t, p, []turn{{8, 4}})
}

func TestPinOfWhatIsNotHeld(t *testing.T) {
	d, p := two(t, 9, 2)
	done := d.Spent()
	pins(t, p, 8)
	holds(t, p, 8)
	dirty(t, p)
	reads(t, p, 1)
	spent(t, d, done)
	gets(t, p, 8, pattern(8, 64))
	reads(t, p, 1)
}

func TestUnpinOfWhatIsNotPinned(t *testing.T) {
	d, p := two(t, 9, 2)
	uses(t, p, 3)
	puts(t, p, 4, nil, 2)
	still(t, d, p, func() {
		unpinRefused(t, p, upTo(9)...)
		unpinRefused(t, p, noAts(9)...)
	})
	pins(t, p, 4)
	still(t, d, p, func() {
		unpinRefused(t, p, 0, 3, 5, -4, -1, math.MinInt, math.MaxInt)
		unpins(t, p, 4)
		unpinRefused(t, p, 4)
	})
}

func TestPinsAndPuts(t *testing.T) {
	d, p := two(t, 9, 1)
	pins(t, p, 1)
	puts(t, p, 1, []byte("one"), 0)
	cleans(t, p)
	stands(t, d, 1, full([]byte("one")))
	turns(t, p, []turn{{2, fullUp}}) // what is clean is still pinned
	unpins(t, p, 1)
	unpinRefused(t, p, 1)
	turns(t, p, []turn{{2, 1}})
}

// P17.5

func TestCleanByRisingSectors(t *testing.T) {
	for _, order := range [][]int{{0, 1, 2, 3, 4}, {4, 3, 2, 1, 0}, {2, 4, 0, 3, 1}, {1, 0, 4, 2, 3}} {
		for budget := range 6 {
			d, p := two(t, 5, 5)
			for _, at := range order {
				puts(t, p, at, pattern(at+20, 64), 4-at)
			}
			p.Safe(4)
			d.Budget(budget)
			done := d.Spent()
			want := api.ErrCrash
			if budget == 5 {
				want = api.OK
			}
			if e := p.Clean(); e != want || d.Gone() != (want != api.OK) {
				t.Errorf("Clean with a budget of %d = %v, Gone %v", budget, e, d.Gone())
			}
			spent(t, d, done+budget)
			holds(t, p, 0, 1, 2, 3, 4)
			dirty(t, p, upTo(5)[budget:]...)
			if l := d.Cached(); !slices.Equal(l, upTo(budget)) {
				t.Errorf("with a budget of %d there was written %v", budget, l)
			}
			d.Crash([]bool{true, true, true, true, true})
			for at := range 5 {
				gets(t, p, at, pattern(at+20, 64))
			}
			cleans(t, p)
			spent(t, d, done+5)
			dirty(t, p)
			for at := range 5 {
				stands(t, d, at, pattern(at+20, 64))
			}
		}
	}
}

func TestCleanOfWhatIsSafe(t *testing.T) {
	d, p := two(t, 9, 6)
	done := d.Spent()
	uses(t, p, 7)
	for at, lsn := range []int{5, 0, 7, 6, math.MaxInt} {
		puts(t, p, at, pattern(at+20, 64), lsn)
	}
	for _, x := range []struct {
		safe   int
		unsafe []int
	}{{0, []int{0, 2, 3, 4}}, {4, []int{0, 2, 3, 4}}, {5, []int{2, 3, 4}}, {6, []int{2, 4}}, {7, []int{4}}, {math.MaxInt - 1, []int{4}}, {math.MaxInt, nil}} {
		p.Safe(x.safe)
		cleans(t, p)
		dirty(t, p, x.unsafe...)
		spent(t, d, done+5-len(x.unsafe))
		still(t, d, p, func() { cleans(t, p) })
		for at := range 5 {
			want := pattern(at+20, 64)
			gets(t, p, at, want)
			if slices.Contains(x.unsafe, at) {
				want = pattern(at, 64)
			}
			stands(t, d, at, want)
		}
	}
	holds(t, p, 0, 1, 2, 3, 4, 7)
}

// TestCleanPassesWhatIsNotSafe: what lies between is written.
func TestCleanPassesWhatIsNotSafe(t *testing.T) {
	d, p := two(t, 9, 6)
	for at := range 6 {
		puts(t, p, at, nil, at%2)
	}
	d.Budget(2)
	if e := p.Clean(); e != api.ErrCrash {
		t.Error(e)
	}
	dirty(t, p, 1, 3, 4, 5)
	d.Crash(nil)
	cleans(t, p)
	dirty(t, p, 1, 3, 5)
}

func TestCleanOfWhatIsPinned(t *testing.T) {
	d, p := two(t, 9, 2)
	pins(t, p, 1, 1)
	puts(t, p, 1, []byte("one"), 0)
	cleans(t, p)
	dirty(t, p)
	stands(t, d, 1, full([]byte("one")))
	unpins(t, p, 1, 1)
	unpinRefused(t, p, 1)
}

func TestCleanOfNoFrame(t *testing.T) {
	d, p := two(t, 9, 3)
	still(t, d, p, func() { cleans(t, p) })
	uses(t, p, 1, 2)
	still(t, d, p, func() { cleans(t, p) })
	puts(t, p, 2, nil, 1)
	d.Budget(0)
	still(t, d, p, func() { cleans(t, p) })
	if d.Gone() {
		t.Error("it is gone")
	}
}

// TestCleanLaysNothingDown: what it wrote is cached, and is lost in a crash.
func TestCleanLaysNothingDown(t *testing.T) {
	d, p := two(t, 9, 3)
	puts(t, p, 2, []byte("two"), 0)
	cleans(t, p)
	if l := d.Cached(); !slices.Equal(l, []int{2}) {
		t.Error("cached:", l)
	}
	d.Crash(nil)
	stands(t, d, 2, pattern(2, 64))
	gets(t, p, 2, full([]byte("two"))) // it is held
	still(t, d, p, func() { cleans(t, p) })
}

func TestCleanMovesNothing(t *testing.T) {
	_, p := two(t, 9, 4)
	for at := range 4 {
		puts(t, p, at, nil, 0)
	}
	turns(t, p, []turn{{4, 0}, {2, -1}}) // the hand is at 1, and 4 and 2 were used lately
	cleans(t, p)
	turns(t, p, []turn{{5, 1}, {6, 3}, {7, 2}})
}

func TestHeldAndDirtyRise(t *testing.T) {
	_, p := two(t, 4096, 64)
	held, unclean := []int{}, []int{}
	for i := range 64 {
		at := i * 2731 % 4096 // 2731 and 4096 have no divisor in common
		held = append(held, at)
		if i%3 == 0 {
			uses(t, p, at)
		} else {
			puts(t, p, at, nil, 1)
			unclean = append(unclean, at)
		}
		slices.Sort(held)
		slices.Sort(unclean)
		holds(t, p, held...)
		dirty(t, p, unclean...)
	}
	reads(t, p, 64)
}

func TestReadsCountsWhatWasRead(t *testing.T) {
	d, p := two(t, 9, 2)
	reads(t, p, 0)
	for i, at := range []int{1, 2, 3, 1} {
		uses(t, p, at, at)
		pins(t, p, at)
		puts(t, p, at, nil, 0)
		unpins(t, p, at)
		reads(t, p, i+1)
	}
	pins(t, p, 3, 1)
	refused(t, d, p, 5, api.ErrFull)
	refused(t, d, p, 9, api.ErrArg)
	end(t, d)
	refused(t, d, p, 5, api.ErrCrash)
	reads(t, p, 4)
	d.Crash(nil)
	unpins(t, p, 1)
	d.Budget(0)
	if _, e := p.Get(5); e != api.ErrCrash { // 1 can't be written
		t.Error(e)
	}
	reads(t, p, 4)
	d.Crash(nil)
	uses(t, p, 5)
	reads(t, p, 5)
	if q := news(t, d, 1); q.Reads() != 0 {
		t.Error("another pool's reads count")
	}
}

// P17.6

// asNothing checks that a pool holds nothing, whatever is asked of it.
func asNothing(t *testing.T, p *pool.Pool) {
	t.Helper()
	holds(t, p)
	dirty(t, p)
	reads(t, p, 0)
}

// numbers are some of any kind.
func numbers() []int {
	return []int{0, 1, 5, 63, 64, 65, 4095, 4096, -1, -64, math.MinInt, math.MinInt + 1, math.MaxInt, math.MaxInt - 1}
}

func TestANilPool(t *testing.T) {
	var p *pool.Pool
	for _, at := range numbers() {
		for _, lsn := range numbers() {
			for _, n := range []int{0, 1, 64, 65, 1000} {
				if e := p.Put(at, make([]byte, n), lsn); e != api.ErrCrash {
					t.Errorf("Put(%d) of %d bytes with %d = %v", at, n, lsn, e)
				}
			}
		}
		if b, e := p.Get(at); b != nil || e != api.ErrCrash {
			t.Errorf("Get(%d) = %v, %v", at, b, e)
		}
		if e := p.Pin(at); e != api.ErrCrash {
			t.Errorf("Pin(%d) = %v", at, e)
		}
		if e := p.Unpin(at); e != api.ErrCrash {
			t.Errorf("Unpin(%d) = %v", at, e)
		}
		p.Safe(at)
		if e := p.Clean(); e != api.ErrCrash {
			t.Errorf("Clean = %v", e)
		}
		asNothing(t, p)
	}
}

// TestAPoolThatNewDidNotMake: it has no device, which is as one that is gone.
func TestAPoolThatNewDidNotMake(t *testing.T) {
	p := new(pool.Pool)
	for _, at := range numbers() {
		refused(t, nil, p, at, api.ErrCrash)
		putRefused(t, nil, p, at, 65, 0, api.ErrArg)
		putRefused(t, nil, p, at, 0, -1, api.ErrArg)
		unpinRefused(t, p, at)
		p.Safe(at)
		cleans(t, p)
		asNothing(t, p)
	}
}

func TestADeviceThatIsGone(t *testing.T) {
	d, p := two(t, 9, 4)
	puts(t, p, 6, []byte("six"), 5)
	pins(t, p, 4, 6, 4)
	uses(t, p, 2)
	end(t, d)
	for _, at := range append(noAts(9), upTo(9)...) {
		refused(t, d, p, at, api.ErrCrash)
		putRefused(t, d, p, at, 65, 0, api.ErrArg)
		putRefused(t, d, p, at, 0, -1, api.ErrArg)
	}
	unpinRefused(t, p, noAts(9)...)
	unpinRefused(t, p, 0, 1, 2, 3, 5, 7, 8)
	still(t, d, p, func() { cleans(t, p) }) // of no frame
	unpins(t, p, 4, 6, 4)
	unpinRefused(t, p, 4, 6, 2)
	holds(t, p, 2, 4, 6)
	dirty(t, p, 6)
	reads(t, p, 3)
	still(t, d, p, func() { p.Safe(4) })
	still(t, d, p, func() { cleans(t, p) })
	still(t, d, p, func() { p.Safe(5) })
	still(t, d, p, func() {
		if e := p.Clean(); e != api.ErrCrash {
			t.Errorf("Clean = %v", e)
		}
	})
	d.Crash(nil)
	turns(t, p, []turn{{4, -1}, {6, -1}, {0, -1}}) // what it held is there
	cleans(t, p)
	dirty(t, p)
	stands(t, d, 6, full([]byte("six")))
	turns(t, p, []turn{{1, 6}}) // and nothing is pinned any more
}

// What is handed in, and what is answered.

func TestWhatIsHandedInIsAsItWas(t *testing.T) {
	for _, n := range []int{0, 1, 63, 64, 65, 200} {
		d, p := two(t, 9, 2)
		b := append(pattern(70, n), pattern(71, 80)...)
		was := bytes.Clone(b)
		e := p.Put(1, b[:n], 0)
		if (e == api.OK) != (n <= 64) || !bytes.Equal(b, was) {
			t.Errorf("Put of %d bytes: %v, or it changes what is handed in, or what lies behind it", n, e)
		}
		if n > 64 {
			continue
		}
		clear(b)
		gets(t, p, 1, full(was[:n]))
		cleans(t, p)
		clear(b)
		stands(t, d, 1, full(was[:n]))
		if !bytes.Equal(b, make([]byte, len(b))) {
			t.Error("what was handed in changes behind the call")
		}
	}
}

func TestGetIsNewMemory(t *testing.T) {
	d, p := two(t, 9, 2)
	puts(t, p, 1, pattern(70, 64), 0)
	for _, at := range []int{1, 2} {
		want := pattern(2, 64)
		if at == 1 {
			want = pattern(70, 64)
		}
		a, _ := p.Get(at)
		b, _ := p.Get(at)
		clear(a[:cap(a)])
		_ = append(a, 1, 2, 3)
		if !bytes.Equal(b, want) {
			t.Error("two answers share memory:", b)
		}
		gets(t, p, at, want)
	}
	b, _ := p.Get(1)
	puts(t, p, 1, []byte("other"), 0)
	cleans(t, p)
	uses(t, p, 3, 4)
	if !bytes.Equal(b, pattern(70, 64)) {
		t.Error("an answer changes behind the call:", b)
	}
	stands(t, d, 1, full([]byte("other")))
}

// TestWhatWasGotIsPut: what one call answers is handed to another one, and written over then.
func TestWhatWasGotIsPut(t *testing.T) {
	_, p := two(t, 9, 3)
	b, _ := p.Get(1)
	puts(t, p, 1, b, 0)
	puts(t, p, 2, b[10:20], 0)
	clear(b)
	gets(t, p, 1, pattern(1, 64))
	gets(t, p, 2, full(pattern(1, 64)[10:20]))
}

func TestHeldAndDirtyAreNewMemory(t *testing.T) {
	_, p := two(t, 9, 3)
	for _, at := range []int{5, 2, 7} {
		puts(t, p, at, nil, 0)
	}
	for _, list := range []func() []int{p.Held, p.Dirty} {
		a, b := list(), list()
		clear(a[:cap(a)])
		_ = append(a, 1, 1, 1)
		if !slices.Equal(b, []int{2, 5, 7}) {
			t.Error("two answers share memory:", b)
		}
	}
	a, b := p.Held(), p.Dirty()
	clear(a)
	clear(b)
	holds(t, p, 2, 5, 7)
	dirty(t, p, 2, 5, 7)
	a, b = p.Held(), p.Dirty()
	turns(t, p, []turn{{1, 5}})
	cleans(t, p)
	if !slices.Equal(a, []int{2, 5, 7}) || !slices.Equal(b, []int{2, 5, 7}) {
		t.Error("an answer changes behind the call:", a, b)
	}
}

func TestTwoPoolsOfADevice(t *testing.T) {
	d, p := two(t, 9, 2)
	q := news(t, d, 2)
	puts(t, p, 1, []byte("one"), 0)
	pins(t, p, 1)
	gets(t, q, 1, pattern(1, 64))
	unpinRefused(t, q, 1)
	dirty(t, q)
	cleans(t, q)
	dirty(t, p, 1)
	cleans(t, p)
	gets(t, q, 1, pattern(1, 64)) // it is held
	turns(t, q, []turn{{2, -1}, {3, 1}})
	gets(t, q, 1, full([]byte("one")))
	holds(t, p, 1)
	reads(t, p, 1)
	reads(t, q, 4)
}

// The example of the chapter.

func TestWhatIsNotSafeIsNotWritten(t *testing.T) {
	d, p := two(t, 9, 1)
	puts(t, p, 3, []byte("three"), 9)
	if b, e := p.Get(4); b != nil || e != api.ErrFull {
		t.Errorf("Get(4) = %v, %v", b, e)
	}
	stands(t, d, 3, pattern(3, 64))
	p.Safe(9)
	gets(t, p, 4, pattern(4, 64))
	stands(t, d, 3, full([]byte("three")))
}

// P17.7

// laid is what was put: which sector, with what Lsn, and what is got then.
type laid struct {
	at, lsn int
	b       []byte
}

// watch goes through calls of any kind, but for crashes, and holds what is got, and what stands on the device, against all that was put, without asking who goes.
func watch(t *testing.T, script []byte) {
	if len(script) < 2 {
		return
	}
	n := int(script[0])%12 + 1
	d, p := two(t, n, int(script[1])%6+1)
	last, safe := map[int][]byte{}, 0
	var all []laid
	for at := range n {
		last[at] = pattern(at, 64)
		all = append(all, laid{at, 0, last[at]})
	}
	for i := 2; i+2 < len(script); i += 3 {
		x, y := int(script[i+1]), int(script[i+2])
		at := x % n
		switch script[i] % 12 {
		case 0, 1, 2:
			if b, e := p.Get(at); e == api.OK && !bytes.Equal(b, last[at]) {
				t.Fatalf("step %d: Get(%d) = %v, want %v", i/3, at, b, last[at])
			}
		case 3, 4, 5, 6:
			b := append(pattern(y, y%61), byte(i), byte(i>>8), 1) // no two are the same
			if p.Put(at, b, safe+y%4-1) == api.OK {
				last[at] = full(b)
				all = append(all, laid{at, safe + y%4 - 1, last[at]})
			}
		case 7:
			p.Pin(at)
		case 8, 9:
			p.Unpin(at)
		case 10:
			safe = max(safe, safe+y%3-1)
			p.Safe(safe)
			p.Safe(safe - y)
		case 11:
			if e := p.Clean(); e != api.OK {
				t.Fatalf("step %d: Clean = %v", i/3, e)
			}
		}
		for at := range n {
			b, _ := d.Read(at)
			if !slices.ContainsFunc(all, func(l laid) bool { return l.at == at && l.lsn <= safe && bytes.Equal(l.b, b) }) {
				t.Fatalf("step %d, %v: in the sector %d there stands %v, safe is %d", i/3, script[i:i+3], at, b, safe)
			}
			if !slices.Contains(p.Dirty(), at) && !bytes.Equal(b, last[at]) {
				t.Fatalf("step %d, %v: in the sector %d, which is not dirty, there stands %v, want %v", i/3, script[i:i+3], at, b, last[at])
			}
		}
	}
}

func TestWhatIsGotIsWhatWasPut(t *testing.T) {
	for seed := range uint32(200) {
		watch(t, script(seed, 500))
	}
}

// cell is a plain frame.
type cell struct {
	at, lsn, pins int
	data          []byte
	dirty, used   bool
}

// plain is a pool that finds who goes by looking at all of them at once, on a device of its own. The hand is at the first one.
type plain struct {
	d                 *device.Device
	room, safe, reads int
	ring              []*cell
}

func (p *plain) mayGo(c *cell) bool { return c.pins == 0 && !(c.dirty && c.lsn > p.safe) }

// goes is the place of who goes: of the first one that may and was not used lately, or, if all that may were, of the first one that may; -1 if none may. Those that it passes are not used lately any more.
func (p *plain) goes() int {
	free := func(c *cell) bool { return p.mayGo(c) && !c.used }
	place, passed := slices.IndexFunc(p.ring, free), p.ring
	if place < 0 {
		place = slices.IndexFunc(p.ring, p.mayGo)
	} else {
		passed = p.ring[:place]
	}
	for _, c := range passed {
		if p.mayGo(c) {
			c.used = false
		}
	}
	return place
}

// get is a sector's cell.
func (p *plain) get(at int) (*cell, api.Errno) {
	if p.d.Gone() {
		return nil, api.ErrCrash
	}
	for _, c := range p.ring {
		if c.at == at {
			c.used = true
			return c, api.OK
		}
	}
	if at < 0 || at >= p.d.Size() {
		return nil, api.ErrArg
	}
	if len(p.ring) == p.room {
		place := p.goes()
		if place < 0 {
			return nil, api.ErrFull
		}
		who := p.ring[place]
		p.ring = slices.Concat(p.ring[place+1:], p.ring[:place+1])
		if who.dirty && p.d.Write(who.at, who.data) != api.OK {
			return nil, api.ErrCrash
		}
		p.ring = p.ring[:p.room-1]
	}
	b, _ := p.d.Read(at)
	p.reads++
	c := &cell{at: at, data: b, used: true}
	p.ring = append(p.ring, c)
	return c, api.OK
}

func (p *plain) put(at int, b []byte, lsn int) api.Errno {
	if len(b) > 64 || lsn < 0 {
		return api.ErrArg
	}
	c, e := p.get(at)
	if e != api.OK {
		return e
	}
	if c.dirty && c.lsn > lsn {
		lsn = c.lsn
	}
	c.data, c.lsn, c.dirty = full(b), lsn, true
	return api.OK
}

func (p *plain) pin(at int) api.Errno {
	c, e := p.get(at)
	if e == api.OK {
		c.pins++
	}
	return e
}

func (p *plain) unpin(at int) api.Errno {
	for _, c := range p.ring {
		if c.at == at && c.pins > 0 {
			c.pins--
			return api.OK
		}
	}
	return api.ErrState
}

func (p *plain) clean() api.Errno {
	for at := range p.d.Size() {
		for _, c := range p.ring {
			if c.at != at || !c.dirty || c.lsn > p.safe {
				continue
			}
			if p.d.Write(at, c.data) != api.OK {
				return api.ErrCrash
			}
			c.dirty = false
		}
	}
	return api.OK
}

// those are the sectors of some cells, rising.
func (p *plain) those(are func(c *cell) bool) []int {
	var l []int
	for _, c := range p.ring {
		if are(c) {
			l = append(l, c.at)
		}
	}
	slices.Sort(l)
	return l
}

// twins are a pool and a plain one, each on a device, to which the same is done.
type twins struct {
	d     *device.Device
	p     *pool.Pool
	plain *plain
}

// answer is what a call answers.
type answer struct {
	b string
	e api.Errno
}

// get asks both for a sector.
func (w *twins) get(at int) (got, want answer) {
	b, e := w.p.Get(at)
	c, f := w.plain.get(at)
	if f != api.OK {
		c = &cell{}
	}
	return answer{string(b), e}, answer{string(c.data), f}
}

// reopen makes both anew, on their devices.
func (w *twins) reopen(room int) (got, want answer) {
	p, e := pool.New(w.d, room)
	if e == api.OK {
		w.p = p
	}
	if w.plain.d.Gone() {
		return answer{"", e}, answer{"", api.ErrCrash}
	}
	w.plain = &plain{d: w.plain.d, room: room}
	return answer{"", e}, answer{}
}

// budget gives both devices one.
func (w *twins) budget(k int) {
	w.d.Budget(k)
	w.plain.d.Budget(k)
}

// crash crashes both devices.
func (w *twins) crash(bits int) {
	keep := make([]bool, 20)
	for i := range keep {
		keep[i] = bits>>(i%8)&1 == 1
	}
	w.d.Crash(keep)
	w.plain.d.Crash(keep)
}

// step does to both what three bytes tell, and answers what both answered.
func (w *twins) step(kind, x, y int) (got, want answer) {
	at, lsn := x%(w.d.Size()+2)-1, max(0, w.plain.safe+y%5-2)
	switch kind % 20 {
	case 0, 1, 2, 3, 4:
		return w.get(at)
	case 5, 6, 7, 8:
		b := pattern(x+y, y%65)
		return answer{"", w.p.Put(at, b, lsn)}, answer{"", w.plain.put(at, b, lsn)}
	case 9:
		b, lsn := make([]byte, y%3+63), y%4-1
		return answer{"", w.p.Put(at, b, lsn)}, answer{"", w.plain.put(at, b, lsn)}
	case 10:
		return answer{"", w.p.Pin(at)}, answer{"", w.plain.pin(at)}
	case 11, 12, 13:
		return answer{"", w.p.Unpin(at)}, answer{"", w.plain.unpin(at)}
	case 14, 15:
		w.p.Safe(lsn)
		w.plain.safe = max(w.plain.safe, lsn)
	case 16:
		return answer{"", w.p.Clean()}, answer{"", w.plain.clean()}
	case 17:
		if y%4 == 0 {
			w.budget(x%8 - 2)
		} else {
			return answer{"", w.d.Flush()}, answer{"", w.plain.d.Flush()}
		}
	case 18:
		if w.d.Gone() || y%8 == 0 {
			w.crash(x)
		}
	case 19:
		if y%16 == 0 {
			return w.reopen(x%8 + 1)
		}
	}
	return got, want
}

// steps does to a pool and to a plain one what bytes tell, and holds each answer of one against the other's.
func steps(t *testing.T, script []byte) {
	if len(script) < 2 {
		return
	}
	n, room := int(script[0])%16+1, int(script[1])%8+1
	if script[1] >= 240 {
		n, room = 90, 64
	}
	w := &twins{d: made(t, n), plain: &plain{d: made(t, n)}}
	w.reopen(room)
	for i := 2; i+2 < len(script); i += 3 {
		got, want := w.step(int(script[i]), int(script[i+1]), int(script[i+2]))
		if got != want {
			t.Fatalf("step %d, %v: %v, want %v", i/3, script[i:i+3], got, want)
		}
		p := w.plain
		holds(t, w.p, p.those(func(c *cell) bool { return true })...)
		dirty(t, w.p, p.those(func(c *cell) bool { return c.dirty })...)
		reads(t, w.p, p.reads)
		spent(t, w.d, p.d.Spent())
		if w.d.Gone() != p.d.Gone() || !slices.Equal(w.d.Cached(), p.d.Cached()) || !slices.EqualFunc(contents(w.d), contents(p.d), bytes.Equal) {
			t.Fatalf("step %d, %v: the devices are unlike", i/3, script[i:i+3])
		}
		if t.Failed() {
			t.Fatalf("behind step %d, %v", i/3, script[i:i+3])
		}
	}
}

// script is bytes of any kind, that a seed tells.
func script(seed uint32, n int) []byte {
	b := make([]byte, n)
	for i := range b {
		seed = seed*1664525 + 1013904223
		b[i] = byte(seed >> 24)
	}
	return b
}

func TestStepsOfAnyKind(t *testing.T) {
	for seed := range uint32(300) {
		steps(t, script(seed, 900))
	}
	for seed := range uint32(20) {
		steps(t, append([]byte{0, 255}, script(seed, 3000)...))
	}
}

// P1

func FuzzSteps(f *testing.F) {
	for seed := range uint32(20) {
		f.Add(script(seed+1000, 120))
	}
	f.Fuzz(func(t *testing.T, b []byte) {
		watch(t, b)
		steps(t, b)
	})
}

func FuzzNumbers(f *testing.F) {
	for _, x := range numbers() {
		f.Add(x, 3, 0, pattern(x, 64))
		f.Add(2, x, 5, pattern(x, 3))
		f.Add(1, 1, x, pattern(x, 65))
	}
	f.Fuzz(func(t *testing.T, room, at, lsn int, b []byte) {
		d := made(t, 4)
		if room < 1 || room > 64 {
			newRefused(t, d, room, api.ErrArg)
			return
		}
		p := news(t, d, room)
		switch {
		case len(b) > 64 || lsn < 0:
			putRefused(t, d, p, at, len(b), lsn, api.ErrArg)
		case at < 0 || at > 3:
			refused(t, d, p, at, api.ErrArg)
			unpinRefused(t, p, at)
		default:
			puts(t, p, at, b, lsn)
			pins(t, p, at)
			p.Safe(lsn)
			cleans(t, p)
			stands(t, d, at, full(b))
			gets(t, p, at, full(b))
			unpins(t, p, at)
			unpinRefused(t, p, at)
		}
	})
}
