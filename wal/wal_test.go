package wal_test

import (
	"bytes"
	"encoding/binary"
	"hash/crc32"
	"math"
	"slices"
	"testing"

	"heronry/api"
	"heronry/device"
	"heronry/wal"
)

const (
	mostEpoch = 4_294_967_295     // 2^32 - 1
	mostPlace = 1_099_511_627_776 // 2^40
	mostBytes = 44 * 1024
)

// pattern is n bytes, none of them 0, of which neighbours, and those 44 apart, are unlike.
func pattern(seed, n int) []byte {
	b := make([]byte, n)
	for i := range b {
		b[i] = byte((seed*31+i*7+i/44*3)%255 + 1)
	}
	return b
}

// piece is a sector with a part of a record, made without the layers below.
func piece(epoch, at, index, count int, data []byte) []byte {
	b := make([]byte, 64)
	binary.LittleEndian.PutUint32(b[4:], uint32(epoch))
	binary.LittleEndian.PutUint32(b[8:], uint32(at))
	binary.LittleEndian.PutUint16(b[12:], uint16(at>>32))
	binary.LittleEndian.PutUint16(b[14:], uint16(index))
	binary.LittleEndian.PutUint16(b[16:], uint16(count))
	b[18] = byte(len(data))
	copy(b[20:], data)
	binary.LittleEndian.PutUint32(b, crc32.ChecksumIEEE(b[4:]))
	return b
}

// need is how many sectors n bytes are.
func need(n int) int { return max(1, (n+43)/44) }

// pieces are a record's sectors.
func pieces(epoch, at int, b []byte) [][]byte {
	count := need(len(b))
	var l [][]byte
	for i := range count {
		l = append(l, piece(epoch, at+i, i, count, b[i*44:min(i*44+44, len(b))]))
	}
	return l
}

// part is a part of a device that goes round, and the place from which on it counts.
type part struct{ from, size, head int }

// sectorOf is a place's sector, a step for each place from the last round's first one on.
func (p part) sectorOf(at int) int { return p.from + (at - at/p.size*p.size) }

// plainRecord is the record that stands at a place, its epoch and how many pieces it is; none of them, if there is none.
func plainRecord(d *device.Device, p part, at int) ([]byte, int, int) {
	data, epoch, count := []byte{}, 0, 1
	for i := 0; i < count; i++ {
		if at+i >= p.head+p.size {
			return nil, 0, 0
		}
		b, _ := d.Read(p.sectorOf(at + i))
		size := int(b[18])
		if i == 0 {
			epoch, count = int(binary.LittleEndian.Uint32(b[4:])), int(binary.LittleEndian.Uint16(b[16:]))
		}
		if count < 1 || count > 1024 || size > 44 || i < count-1 && size < 44 {
			return nil, 0, 0
		}
		if !bytes.Equal(b, piece(epoch, at+i, i, count, b[20:20+size])) {
			return nil, 0, 0
		}
		data = append(data, b[20:20+size]...)
	}
	return data, epoch, count
}

// plainFound are the records that Open answers, and the place behind them.
func plainFound(d *device.Device, p part, epoch int) ([]wal.Rec, int) {
	var l []wal.Rec
	at, newest := p.head, 0
	for {
		data, told, count := plainRecord(d, p, at)
		if count == 0 || told >= epoch || told < newest || at+count > mostPlace {
			return l, at
		}
		l = append(l, wal.Rec{At: at, Data: data})
		at, newest = at+count, told
	}
}

// sameRecords tells whether two lists are one.
func sameRecords(a, b []wal.Rec) bool {
	return slices.EqualFunc(a, b, func(a, b wal.Rec) bool { return a.At == b.At && bytes.Equal(a.Data, b.Data) })
}

// told is a list in few words: each record's place, and how many bytes it has.
func told(l []wal.Rec) [][2]int {
	var out [][2]int
	for _, r := range l {
		out = append(out, [2]int{r.At, len(r.Data)})
	}
	return out
}

// made is a device of n sectors.
func made(t *testing.T, n int) *device.Device {
	t.Helper()
	d, e := device.New(n)
	if d == nil || e != api.OK {
		t.Fatalf("New(%d) = %v, %v", n, d, e)
	}
	return d
}

// gone is a device of n sectors that is gone.
func gone(t *testing.T, n int) *device.Device {
	t.Helper()
	d := made(t, n)
	d.Budget(0)
	if d.Flush() == api.OK || !d.Gone() {
		t.Fatal("the device is not gone")
	}
	return d
}

// lay writes sectors for the places from at on, and flushes them.
func lay(t *testing.T, d *device.Device, p part, at int, l ...[]byte) {
	t.Helper()
	for i, b := range l {
		if e := d.Write(p.sectorOf(at+i), b); e != api.OK {
			t.Fatalf("Write for the place %d: %v", at+i, e)
		}
	}
	if e := d.Flush(); e != api.OK {
		t.Fatal(e)
	}
}

// open opens what must be opened, and checks its records against the plain ones, and where it stands behind Open.
func open(t *testing.T, d *device.Device, p part, epoch int) (*wal.Log, []wal.Rec) {
	t.Helper()
	want, tail := plainFound(d, p, epoch)
	l, records, e := wal.Open(d, p.from, p.size, p.head, epoch)
	if l == nil || e != api.OK {
		t.Fatalf("Open(%v, %d) = %v, %v", p, epoch, l, e)
	}
	if !sameRecords(records, want) {
		t.Fatalf("Open(%v, %d) has the records %v, want %v", p, epoch, told(records), told(want))
	}
	stands(t, l, p.head, tail, tail, p.size-(tail-p.head))
	return l, records
}

// opens opens, and checks which records there are.
func opens(t *testing.T, d *device.Device, p part, epoch int, want ...wal.Rec) *wal.Log {
	t.Helper()
	l, records := open(t, d, p, epoch)
	if !sameRecords(records, want) {
		t.Errorf("Open(%v, %d) has the records %v, want %v", p, epoch, told(records), told(want))
	}
	return l
}

// openRefused checks that there is this error, and nothing beside it.
func openRefused(t *testing.T, d *device.Device, from, size, head, epoch int, want api.Errno) {
	t.Helper()
	l, records, e := wal.Open(d, from, size, head, epoch)
	if l != nil || records != nil || e != want {
		t.Errorf("Open(%d, %d, %d, %d) = %v, %v, %v, want %v", from, size, head, epoch, l, told(records), e, want)
	}
}

// stands checks where a log stands.
func stands(t *testing.T, l *wal.Log, head, tail, safe, free int) {
	t.Helper()
	if l.Head() != head || l.Tail() != tail || l.Safe() != safe || l.Free() != free {
		t.Errorf("Head %d, Tail %d, Safe %d, Free %d, want %d, %d, %d, %d", l.Head(), l.Tail(), l.Safe(), l.Free(), head, tail, safe, free)
	}
}

// appends lays what must be laid, and checks its place.
func appends(t *testing.T, l *wal.Log, b []byte) wal.Rec {
	t.Helper()
	want := l.Tail()
	at, e := l.Append(b)
	if e != api.OK || at != want || l.Tail() != want+need(len(b)) {
		t.Fatalf("Append of %d bytes at %d = %d, %v, and Tail is %d", len(b), want, at, e, l.Tail())
	}
	return wal.Rec{At: at, Data: b}
}

// appendRefused checks that there is this error, no place beside it, and that all stands as it did.
func appendRefused(t *testing.T, l *wal.Log, b []byte, want api.Errno) {
	t.Helper()
	head, tail, safe, free := l.Head(), l.Tail(), l.Safe(), l.Free()
	if at, e := l.Append(b); at != 0 || e != want {
		t.Errorf("Append of %d bytes = %d, %v, want 0, %v", len(b), at, e, want)
	}
	stands(t, l, head, tail, safe, free)
}

// forces lets what there is be safe.
func forces(t *testing.T, l *wal.Log) {
	t.Helper()
	if e := l.Force(); e != api.OK || l.Safe() != l.Tail() {
		t.Fatalf("Force = %v, Safe %d, Tail %d", e, l.Safe(), l.Tail())
	}
}

// drops drops what must be dropped.
func drops(t *testing.T, l *wal.Log, to int) {
	t.Helper()
	if e := l.Drop(to); e != api.OK || l.Head() != to {
		t.Fatalf("Drop(%d) = %v, Head %d", to, e, l.Head())
	}
}

// dropRefused checks that there is this error, and that all stands as it did.
func dropRefused(t *testing.T, l *wal.Log, to int, want api.Errno) {
	t.Helper()
	head, tail, safe, free := l.Head(), l.Tail(), l.Safe(), l.Free()
	if e := l.Drop(to); e != want {
		t.Errorf("Drop(%d) = %v, want %v", to, e, want)
	}
	stands(t, l, head, tail, safe, free)
}

// isBroken checks that a log lays, forces and drops nothing, and stands where it stood.
func isBroken(t *testing.T, d *device.Device, l *wal.Log, head, tail, safe, free int) {
	t.Helper()
	was, spent := contents(d), d.Spent()
	for _, n := range []int{0, 1, 44, 45, 1000, mostBytes, mostBytes + 1} {
		appendRefused(t, l, pattern(n, n), api.ErrCrash)
	}
	appendRefused(t, l, nil, api.ErrCrash)
	if e := l.Force(); e != api.ErrCrash {
		t.Errorf("Force of a broken log = %v", e)
	}
	for _, to := range []int{head, tail, safe, head - 1, tail + 1, 0, math.MinInt, math.MaxInt} {
		dropRefused(t, l, to, api.ErrCrash)
	}
	stands(t, l, head, tail, safe, free)
	if !slices.EqualFunc(contents(d), was, bytes.Equal) || d.Spent() != spent {
		t.Error("a broken log writes")
	}
}

// contents are all of a device's sectors, as far as they can be read.
func contents(d *device.Device) [][]byte {
	var l [][]byte
	for at := range d.Size() {
		b, _ := d.Read(at)
		l = append(l, b)
	}
	return l
}

// holds checks what stands in the sectors of places from at on.
func holds(t *testing.T, d *device.Device, p part, at int, want ...[]byte) {
	t.Helper()
	for i, b := range want {
		if got, e := d.Read(p.sectorOf(at + i)); e != api.OK || !bytes.Equal(got, b) {
			t.Errorf("at the place %d, sector %d, there stands %v, %v, want %v", at+i, p.sectorOf(at+i), got, e, b)
		}
	}
}

// P7.1: errors

func TestOpenOfADeviceThatIsGone(t *testing.T) {
	for name, d := range map[string]*device.Device{"nil": nil, "not made by New": new(device.Device), "gone": gone(t, 8)} {
		t.Run(name, func(t *testing.T) {
			for _, x := range [][4]int{
				{0, 8, 0, 1}, {0, 1, 0, 1}, {7, 1, mostPlace, mostEpoch},
				{-1, 8, 0, 1}, {0, 0, 0, 1}, {0, 9, 0, 1}, {0, 8, -1, 1}, {0, 8, mostPlace + 1, 1}, {0, 8, 0, 0}, {0, 8, 0, mostEpoch + 1},
				{math.MinInt, math.MinInt, math.MinInt, math.MinInt}, {math.MaxInt, math.MaxInt, math.MaxInt, math.MaxInt},
			} {
				openRefused(t, d, x[0], x[1], x[2], x[3], api.ErrCrash)
			}
		})
	}
}

func TestOpenBehindACrash(t *testing.T) {
	d := gone(t, 4)
	openRefused(t, d, 0, 4, 0, 1, api.ErrCrash)
	d.Crash(nil)
	opens(t, d, part{0, 4, 0}, 1)
}

func TestOpenAtEachBound(t *testing.T) {
	const n = 8
	for _, x := range [][4]int{
		{0, 1, 0, 1}, {0, n, 0, 1}, {1, n - 1, 0, 1}, {n - 1, 1, 0, 1}, {3, 2, 5, 7},
		{0, n, mostPlace, 1}, {0, n, mostPlace - 1, 1}, {0, 1, mostPlace, 1}, {n - 1, 1, mostPlace, mostEpoch},
		{0, n, 0, mostEpoch}, {0, n, 0, mostEpoch - 1}, {0, n, 1, 2},
	} {
		opens(t, made(t, n), part{x[0], x[1], x[2]}, x[3])
	}
	opens(t, made(t, 1), part{0, 1, 0}, 1)
	opens(t, made(t, 4096), part{0, 4096, mostPlace}, mostEpoch)
	opens(t, made(t, 4096), part{4095, 1, mostPlace}, mostEpoch)
}

func TestOpenBeyondEachBound(t *testing.T) {
	const n = 8
	d := made(t, n)
	for _, x := range [][4]int{
		{-1, 1, 0, 1}, {-1, n, 0, 1}, {-1, n + 1, 0, 1}, {math.MinInt, n, 0, 1}, {math.MinInt, 1, 0, 1},
		{0, 0, 0, 1}, {4, 0, 0, 1}, {n, 0, 0, 1}, {0, -1, 0, 1}, {4, -1, 0, 1}, {n + 1, -1, 0, 1}, {0, math.MinInt, 0, 1},
		{0, n + 1, 0, 1}, {1, n, 0, 1}, {n, 1, 0, 1}, {n - 1, 2, 0, 1}, {n + 1, 1, 0, 1}, {0, 4096, 0, 1}, {0, 4097, 0, 1}, {4096, 1, 0, 1}, {4097, 1, 0, 1},
		{0, n, -1, 1}, {0, n, math.MinInt, 1}, {0, n, mostPlace + 1, 1}, {0, n, 2 * mostPlace, 1}, {0, n, math.MaxInt, 1},
		{0, n, 0, 0}, {0, n, 0, -1}, {0, n, 0, math.MinInt}, {0, n, 0, mostEpoch + 1}, {0, n, 0, mostEpoch + 2}, {0, n, 0, math.MaxInt},
	} {
		openRefused(t, d, x[0], x[1], x[2], x[3], api.ErrArg)
	}
	openRefused(t, made(t, 4096), 0, 4097, 0, 1, api.ErrArg)
	openRefused(t, made(t, 4096), 1, 4096, 0, 1, api.ErrArg)
	openRefused(t, made(t, 4096), 4096, 1, 0, 1, api.ErrArg)
	if d.Gone() || d.Spent() != 0 {
		t.Error("an Open that has an error does something")
	}
}

func TestOpenWhereTheSumIsNoInt(t *testing.T) {
	d := made(t, 8)
	for _, x := range [][2]int{
		{math.MaxInt, 1}, {math.MaxInt, 2}, {math.MaxInt, 8}, {1, math.MaxInt}, {8, math.MaxInt}, {math.MaxInt, math.MaxInt},
		{math.MaxInt - 3, 4}, {4, math.MaxInt - 3}, {1 << 62, 1 << 62}, {1 << 62, 1<<62 + 4}, {math.MinInt, math.MinInt}, {math.MinInt, math.MaxInt},
	} {
		openRefused(t, d, x[0], x[1], 0, 1, api.ErrArg)
	}
}

func TestOpenWritesNothing(t *testing.T) {
	d, p := made(t, 8), part{2, 5, 3}
	lay(t, d, p, 3, pieces(1, 3, pattern(1, 50))...)
	was, spent := contents(d), d.Spent()
	d.Budget(0)
	opens(t, d, p, 2, wal.Rec{At: 3, Data: pattern(1, 50)})
	opens(t, d, p, 1)
	openRefused(t, d, 2, 7, 3, 2, api.ErrArg)
	if d.Gone() || d.Spent() != spent || len(d.Cached()) != 0 || !slices.EqualFunc(contents(d), was, bytes.Equal) {
		t.Error("Open writes")
	}
}

// P7.1: records

// layAll lays records one behind the other, and answers what they are.
func layAll(t *testing.T, d *device.Device, p part, epoch int, lens ...int) []wal.Rec {
	t.Helper()
	var l []wal.Rec
	at := p.head
	for i, n := range lens {
		b := pattern(at+i+n, n)
		lay(t, d, p, at, pieces(epoch, at, b)...)
		l = append(l, wal.Rec{At: at, Data: b})
		at += need(n)
	}
	return l
}

func TestRecordsOfEachKind(t *testing.T) {
	for _, x := range []struct {
		name string
		p    part
		lens []int
	}{
		{"none", part{0, 8, 0}, nil},
		{"one of one sector", part{0, 8, 0}, []int{10}},
		{"one without bytes", part{0, 8, 0}, []int{0}},
		{"one of several sectors", part{0, 8, 0}, []int{150}},
		{"several", part{0, 8, 0}, []int{44, 0, 45, 1, 88}},
		{"at a place", part{3, 8, 8}, []int{10, 45}},
		{"across the ring's end, in one", part{3, 5, 8}, []int{88, 132}},
		{"across the ring's end, between two", part{3, 5, 9}, []int{44, 44}},
		{"across the ring's end at first", part{3, 5, 14}, []int{45, 1}},
		{"as many as fill the ring", part{3, 5, 7}, []int{1, 2, 3, 4, 44}},
		{"one that fills the ring", part{3, 5, 7}, []int{220}},
		{"a ring of one sector", part{7, 1, 100}, []int{44}},
		{"far on", part{0, 16, mostPlace - 100}, []int{100, 3}},
		{"a whole device", part{0, 16, 5}, []int{300, 300, 0, 40}},
	} {
		for _, epoch := range []int{1, 2, 255, 65536, mostEpoch} {
			t.Run(x.name, func(t *testing.T) {
				d := made(t, 16)
				want := layAll(t, d, x.p, epoch-1, x.lens...)
				opens(t, d, x.p, epoch, want...)
				opens(t, d, x.p, mostEpoch, want...)
			})
		}
	}
}

func TestRecordsOfGreatOnes(t *testing.T) {
	for _, head := range []int{0, 1, 4000, 123456789, mostPlace - 4096} {
		d, p := made(t, 4096), part{0, 4096, head}
		want := layAll(t, d, p, 7, mostBytes, mostBytes-43, mostBytes, mostBytes-44, 1)
		opens(t, d, p, 8, want...)
		d, p = made(t, 4096), part{1, 4095, head}
		lens := make([]int, 4095)
		want = layAll(t, d, p, 7, lens...)
		opens(t, d, p, 8, want...)
	}
}

func TestRecordsThatAreCached(t *testing.T) {
	d, p := made(t, 4), part{0, 4, 0}
	for i, b := range pieces(1, 0, pattern(1, 60)) {
		d.Write(i, b)
	}
	l := opens(t, d, p, 2, wal.Rec{At: 0, Data: pattern(1, 60)})
	stands(t, l, 0, 2, 2, 2)
	d.Crash(nil)
	opens(t, d, p, 2)
}

func TestOnlyTheRecordsFromHeadOn(t *testing.T) {
	d, p := made(t, 10), part{1, 8, 4}
	all := layAll(t, d, p, 1, 10, 60, 44, 100) // at 4, 5, 7 and 8
	for i, r := range all {
		opens(t, d, part{1, 8, r.At}, 2, all[i:]...)
	}
	for _, head := range []int{0, 3, 6, 9, 10, 11, 12, 20, 1 << 20} { // where no record begins
		opens(t, d, part{1, 8, head}, 2)
	}
	opens(t, d, part{1, 7, 4}, 2, all[:2]...) // of a smaller ring the place 7 is the first sector's
	opens(t, d, part{2, 8, 4}, 2)
}

func TestARecordThatIsKnown(t *testing.T) {
	d := made(t, 4)
	d.Write(3, append([]byte{0xED, 0x34, 0xC4, 0x33, 4, 3, 2, 1, 2, 0, 0, 0, 0, 0, 0, 0, 1, 0, 1, 0}, 'a'))
	opens(t, d, part{1, 3, 2}, 0x01020305, wal.Rec{At: 2, Data: []byte("a")})
	opens(t, d, part{1, 3, 2}, 0x01020304)
}

// P7.1: where the records end

// threeEpochs lays three records of one, two and one sector, of these epochs.
func threeEpochs(t *testing.T, d *device.Device, p part, epochs [3]int) []wal.Rec {
	t.Helper()
	l := []wal.Rec{{At: p.head, Data: pattern(1, 9)}, {At: p.head + 1, Data: pattern(2, 70)}, {At: p.head + 3, Data: pattern(3, 44)}}
	for i, r := range l {
		lay(t, d, p, r.At, pieces(epochs[i], r.At, r.Data)...)
	}
	return l
}

func TestWhereEpochsEndTheRecords(t *testing.T) {
	for _, x := range []struct {
		epochs [3]int
		epoch  int
		want   int // how many records there are
	}{
		{[3]int{5, 5, 5}, 6, 3},
		{[3]int{5, 5, 5}, 5, 0},
		{[3]int{5, 5, 5}, 4, 0},
		{[3]int{0, 0, 0}, 1, 3},
		{[3]int{0, 0, 1}, 1, 2},
		{[3]int{0, 1, 1}, 1, 1},
		{[3]int{1, 1, 1}, 1, 0},
		{[3]int{1, 2, 3}, 4, 3},
		{[3]int{1, 2, 3}, 3, 2},
		{[3]int{1, 2, 3}, 2, 1},
		{[3]int{1, 2, 3}, 1, 0},
		{[3]int{1, 9, 3}, 4, 1},
		{[3]int{9, 1, 1}, 4, 0},
		{[3]int{2, 1, 1}, 4, 1},
		{[3]int{2, 1, 2}, 4, 1},
		{[3]int{2, 3, 2}, 4, 2},
		{[3]int{1, 3, 2}, 4, 2},
		{[3]int{1, 0, 0}, 4, 1},
		{[3]int{mostEpoch - 1, mostEpoch - 1, mostEpoch - 1}, mostEpoch, 3},
		{[3]int{mostEpoch - 1, mostEpoch, mostEpoch}, mostEpoch, 1},
		{[3]int{mostEpoch - 1, mostEpoch - 2, mostEpoch - 1}, mostEpoch, 1},
		{[3]int{mostEpoch, mostEpoch, mostEpoch}, mostEpoch, 0},
		{[3]int{1 << 31, 1 << 31, 1<<31 + 1}, 1<<31 + 1, 2},
		{[3]int{256, 257, 255}, 65536, 2},
	} {
		for _, p := range []part{{0, 8, 0}, {2, 6, 15}} {
			d := made(t, 8)
			all := threeEpochs(t, d, p, x.epochs)
			l := opens(t, d, p, x.epoch, all[:x.want]...)
			tail := p.head + []int{0, 1, 3, 4}[x.want]
			stands(t, l, p.head, tail, tail, p.size-(tail-p.head))
		}
	}
}

func TestRecordsEndAtOneThatIsTorn(t *testing.T) {
	p := part{1, 9, 25}
	for lost := range 6 { // which sector of those laid is not there, or half there
		for _, how := range []string{"zeros", "left from elsewhere", "half of it", "the other half", "of the next place"} {
			d := made(t, 10)
			all := layAll(t, d, p, 3, 20, 88, 132)
			at := p.head + lost
			b, _ := d.Read(p.sectorOf(at))
			switch how {
			case "zeros":
				b = nil
			case "left from elsewhere":
				b = pattern(5, 64)
			case "half of it":
				b = b[:32]
			case "the other half":
				b = append(make([]byte, 32), b[32:]...)
			case "of the next place":
				b, _ = d.Read(p.sectorOf(at + 1))
			}
			lay(t, d, p, at, b)
			want := []int{0, 1, 1, 2, 2, 2}[lost]
			opens(t, d, p, 4, all[:want]...)
		}
	}
}

func TestRecordsEndAtABitThatIsTurned(t *testing.T) {
	p := part{1, 9, 25}
	d := made(t, 10)
	all := layAll(t, d, p, 3, 20, 88, 132)
	for lost := range 6 {
		was, _ := d.Read(p.sectorOf(p.head + lost))
		for bit := range 512 {
			b := bytes.Clone(was)
			b[bit/8] ^= 1 << (bit % 8)
			lay(t, d, p, p.head+lost, b)
			opens(t, d, p, 4, all[:[]int{0, 1, 1, 2, 2, 2}[lost]]...)
		}
		lay(t, d, p, p.head+lost, was)
	}
	opens(t, d, p, 4, all...)
}

func TestRecordsEndAtAPieceOfAnother(t *testing.T) {
	p := part{0, 8, 8}
	for name, b := range map[string][]byte{
		"of another epoch":       piece(2, 10, 1, 2, pattern(1, 4)),
		"of a greater one":       piece(4, 10, 1, 2, pattern(1, 4)),
		"of another place":       piece(3, 18, 1, 2, pattern(1, 4)),
		"of the place ahead":     piece(3, 9, 1, 2, pattern(1, 4)),
		"of another index":       piece(3, 10, 0, 2, pattern(1, 44)),
		"of another count":       piece(3, 10, 1, 3, pattern(1, 44)),
		"a record of its own":    piece(3, 10, 0, 1, pattern(1, 4)),
		"with too much data":     piece(3, 10, 1, 2, pattern(1, 45)),
		"with room in its count": piece(3, 10, 1, 1, pattern(1, 4)),
	} {
		t.Run(name, func(t *testing.T) {
			d := made(t, 8)
			all := layAll(t, d, p, 3, 5, 48, 5)
			lay(t, d, p, 10, b)
			opens(t, d, p, 5, all[0])
			lay(t, d, p, 10, piece(3, 10, 1, 2, all[1].Data[44:]))
			opens(t, d, p, 5, all...)
		})
	}
}

func TestRecordsEndAtOneOfAnElderRound(t *testing.T) {
	d, p := made(t, 8), part{1, 6, 12}
	old := layAll(t, d, part{1, 6, 6}, 1, 4, 50, 4, 50) // the places 6 to 11
	opens(t, d, part{1, 6, 6}, 2, old...)
	opens(t, d, p, 2)
	first := layAll(t, d, p, 1, 10) // over the place 6
	opens(t, d, p, 2, first...)
	two := layAll(t, d, p, 1, 10, 20) // over half of the record at 7
	opens(t, d, p, 2, two...)
	opens(t, d, part{1, 6, 9}, 2, append(old[2:4:4], two...)...)
	opens(t, d, part{1, 6, 8}, 2)
}

func TestRecordsEndAtTheLastPlace(t *testing.T) {
	for back := range 7 {
		for _, n := range []int{1, 2, 3, 6} { // how many sectors the last record has
			d, p := made(t, 8), part{0, 8, mostPlace - back}
			all := layAll(t, d, p, 1, 44, 44*n)
			want := 0
			if back >= 1 {
				want = 1
			}
			if back >= 1+n {
				want = 2
			}
			opens(t, d, p, 2, all[:want]...)
		}
	}
}

func TestRecordsEndWhereTheRingHasNoMore(t *testing.T) {
	p := part{2, 5, 11}
	for lead := 1; lead <= 5; lead++ { // so many sectors stand ahead of it
		for n := 1; n <= 8; n++ {
			d := made(t, 12)
			all := layAll(t, d, p, 3, 44*lead)
			at := p.head + lead
			data := pattern(n, 44*n)
			for i, b := range pieces(3, at, data) {
				if lead+i < p.size {
					lay(t, d, p, at+i, b)
				} else {
					d.Write(p.from+lead+i, b) // behind the ring, and not over its first sectors
				}
			}
			if lead+n <= p.size {
				all = append(all, wal.Rec{At: at, Data: data})
			}
			opens(t, d, p, 4, all...)
		}
	}
}

func TestARecordThatGoesOverItsOwnBeginning(t *testing.T) {
	p := part{0, 4, 4}
	d := made(t, 4)
	lay(t, d, p, 4, pieces(1, 4, pattern(1, 5*44))...)
	opens(t, d, p, 2)
	d = made(t, 4)
	lay(t, d, p, 4, pieces(1, 4, pattern(1, 5*44))[:4]...)
	opens(t, d, p, 2)
	d = made(t, 1)
	lay(t, d, part{0, 1, 0}, 0, pieces(1, 0, pattern(1, 45))[0])
	opens(t, d, part{0, 1, 0}, 2)
}

func TestALastPieceWithoutData(t *testing.T) {
	d, p := made(t, 4), part{0, 4, 0}
	lay(t, d, p, 0, piece(1, 0, 0, 2, pattern(1, 44)), piece(1, 1, 1, 2, nil), piece(1, 2, 0, 1, nil))
	opens(t, d, p, 2, wal.Rec{At: 0, Data: pattern(1, 44)}, wal.Rec{At: 2})
}

func TestTwoLogsOnOneDevice(t *testing.T) {
	d := made(t, 12)
	a, b := opens(t, d, part{1, 4, 9}, 3), opens(t, d, part{6, 5, 2}, 8)
	x, y := appends(t, a, pattern(1, 100)), appends(t, b, pattern(2, 200))
	z := appends(t, a, pattern(3, 1))
	appendRefused(t, a, nil, api.ErrFull)
	stands(t, a, 9, 13, 9, 0)
	stands(t, b, 2, 7, 2, 0)
	forces(t, b)
	stands(t, a, 9, 13, 9, 0)
	d.Crash(nil)
	opens(t, d, part{1, 4, 9}, 4, x, z)
	opens(t, d, part{6, 5, 2}, 9, y)
	for _, at := range []int{0, 5, 11} {
		if got, _ := d.Read(at); !bytes.Equal(got, make([]byte, 64)) {
			t.Errorf("the sector %d, of no log, is written", at)
		}
	}
}

// P7.2

func TestAppendOfEachLength(t *testing.T) {
	for _, n := range []int{0, 1, 43, 44, 45, 87, 88, 89, 132, 500, 1000, mostBytes - 44, mostBytes - 43, mostBytes - 1, mostBytes} {
		for _, p := range []part{{0, 1100, 0}, {5, 1060, 999}, {100, need(n), 7}, {0, 2000, mostPlace - 1024}} {
			d := made(t, 2000)
			l := opens(t, d, p, 9)
			r := appends(t, l, pattern(n, n))
			if r.At != p.head {
				t.Errorf("the first record's place is %d, want %d", r.At, p.head)
			}
			stands(t, l, p.head, p.head+need(n), p.head, p.size-need(n))
			holds(t, d, p, p.head, pieces(9, p.head, pattern(n, n))...)
			if d.Spent() != need(n) || len(d.Cached()) != need(n) {
				t.Errorf("Append of %d bytes spends %d, and %d are cached", n, d.Spent(), len(d.Cached()))
			}
		}
	}
}

func TestAppendOfNil(t *testing.T) {
	d, p := made(t, 3), part{1, 2, 5}
	l := opens(t, d, p, 4)
	appends(t, l, nil)
	appends(t, l, []byte{})
	holds(t, d, p, 5, piece(4, 5, 0, 1, nil), piece(4, 6, 0, 1, nil))
	opens(t, d, p, 5, wal.Rec{At: 5}, wal.Rec{At: 6})
}

func TestAppendsOneBehindTheOther(t *testing.T) {
	d, p := made(t, 20), part{3, 12, 29}
	l := opens(t, d, p, 6)
	var all []wal.Rec
	for i, n := range []int{44, 45, 0, 132, 1, 88, 10, 44} { // twelve sectors, across the ring's end
		all = append(all, appends(t, l, pattern(i, n)))
	}
	stands(t, l, 29, 41, 29, 0)
	for _, r := range all {
		holds(t, d, p, r.At, pieces(6, r.At, r.Data)...)
	}
	for _, at := range []int{0, 1, 2, 15, 16, 17, 18, 19} {
		if b, _ := d.Read(at); !bytes.Equal(b, make([]byte, 64)) {
			t.Errorf("the sector %d, outside the log, is written", at)
		}
	}
	opens(t, d, p, 7, all...)
	opens(t, d, p, 6)
}

func TestAppendBehindWhatWasFound(t *testing.T) {
	d, p := made(t, 9), part{0, 9, 4}
	all := layAll(t, d, p, 1, 50, 7)
	lay(t, d, p, 7, piece(9, 7, 0, 1, pattern(4, 4))) // of an epoch that is not below the log's
	l := opens(t, d, p, 5, all...)
	all = append(all, appends(t, l, pattern(8, 100)))
	if all[2].At != 7 {
		t.Error(all[2].At)
	}
	opens(t, d, p, 6, all...)
	opens(t, d, p, 5, all[:2]...)
}

func TestAppendOfTooMany(t *testing.T) {
	for _, p := range []part{{0, 4096, 0}, {0, 1024, 0}, {0, 1, 0}, {0, 4096, mostPlace}} {
		d := made(t, 4096)
		l := opens(t, d, p, 1)
		for _, n := range []int{mostBytes + 1, mostBytes + 44, mostBytes + 45, 1 << 17, 65536*44 + 1, 65537 * 44} {
			appendRefused(t, l, make([]byte, n), api.ErrLimit)
		}
		if d.Spent() != 0 {
			t.Error("something is written")
		}
	}
}

func TestAppendOfMoreThanIsFree(t *testing.T) {
	const size = 7
	for used := range size + 1 {
		for n := 1; n <= size+2; n++ {
			for _, bytes := range []int{44*n - 43, 44 * n} {
				d, p := made(t, size+3), part{1, size, 4}
				l := opens(t, d, p, 2)
				for range used {
					appends(t, l, nil)
				}
				if used+n <= size {
					appends(t, l, pattern(n, bytes))
					stands(t, l, 4, 4+used+n, 4, size-used-n)
				} else {
					appendRefused(t, l, pattern(n, bytes), api.ErrFull)
				}
				if want := min(used+n, size); used+n <= size && d.Spent() != want || used+n > size && d.Spent() != used {
					t.Errorf("used %d, n %d: Spent %d", used, n, d.Spent())
				}
			}
		}
	}
}

func TestAppendBehindOneThatWasRefused(t *testing.T) {
	d, p := made(t, 3), part{0, 3, 0}
	l := opens(t, d, p, 1)
	a := appends(t, l, pattern(1, 60))
	appendRefused(t, l, pattern(2, 45), api.ErrFull)
	appendRefused(t, l, make([]byte, mostBytes+1), api.ErrLimit)
	b := appends(t, l, pattern(3, 44))
	appendRefused(t, l, nil, api.ErrFull)
	forces(t, l)
	opens(t, d, p, 2, a, b)
}

func TestAppendAtTheLastPlaces(t *testing.T) {
	for back := range 6 {
		for n := 1; n <= 7; n++ {
			d := made(t, 8)
			l := opens(t, d, part{0, 8, mostPlace - back}, 1)
			if n <= back {
				appends(t, l, pattern(n, 44*n))
				stands(t, l, mostPlace-back, mostPlace-back+n, mostPlace-back, 8-n)
				opens(t, d, part{0, 8, mostPlace - back}, 2, wal.Rec{At: mostPlace - back, Data: pattern(n, 44*n)})
				continue
			}
			appendRefused(t, l, pattern(n, 44*n), api.ErrFull)
			if d.Spent() != 0 {
				t.Error("something is written")
			}
		}
	}
}

func TestTheOrderOfAppendsErrors(t *testing.T) {
	long := make([]byte, mostBytes+1)
	d := made(t, 2)
	l := opens(t, d, part{0, 2, 0}, 1)
	d.Budget(0)
	appendRefused(t, l, long, api.ErrLimit) // ahead of ErrFull, and of the device
	appendRefused(t, l, make([]byte, 100), api.ErrFull)
	if d.Gone() {
		t.Error("the device is asked ahead of the room")
	}
	d.Budget(2)
	r := appends(t, l, make([]byte, 88))
	appendRefused(t, l, long, api.ErrLimit)
	appendRefused(t, l, nil, api.ErrFull)
	if e := l.Force(); e != api.ErrCrash {
		t.Error(e)
	}
	appendRefused(t, l, long, api.ErrCrash)
	appendRefused(t, l, nil, api.ErrCrash)
	d.Crash([]bool{true, true})
	opens(t, d, part{0, 2, 0}, 2, r)
}

func TestAppendWhoseDeviceHasAnError(t *testing.T) {
	const n = 5
	for k := range n { // so many of the record's sectors are written
		d, p := made(t, 12), part{2, 9, 15}
		l := opens(t, d, p, 3)
		a := appends(t, l, pattern(1, 60))
		forces(t, l)
		b := appends(t, l, pattern(2, 6))
		spent := d.Spent()
		d.Budget(k)
		appendRefused(t, l, pattern(3, 44*n), api.ErrCrash)
		if d.Spent() != spent+k || !d.Gone() {
			t.Errorf("a budget of %d: Spent %d, Gone %v", k, d.Spent()-spent, d.Gone())
		}
		isBroken(t, d, l, 15, 18, 17, 6)
		d.Budget(100)
		isBroken(t, d, l, 15, 18, 17, 6)
		keep := make([]bool, 12)
		for i := range keep {
			keep[i] = true
		}
		d.Crash(keep)
		isBroken(t, d, l, 15, 18, 17, 6) // the device is back, the log is not
		opens(t, d, p, 4, a, b)
		holds(t, d, p, 18, pieces(3, 18, pattern(3, 44*n))[:k]...)
	}
}

func TestAppendOnADeviceThatIsGone(t *testing.T) {
	d := made(t, 8)
	l, other := opens(t, d, part{0, 4, 0}, 1), opens(t, d, part{4, 4, 0}, 1)
	appends(t, l, pattern(1, 130))
	d.Budget(0)
	appendRefused(t, other, nil, api.ErrCrash)
	isBroken(t, d, other, 0, 0, 0, 4)
	dropRefused(t, l, 4, api.ErrArg) // it knows of nothing yet
	drops(t, l, 1)
	appendRefused(t, l, make([]byte, 89), api.ErrFull)
	appendRefused(t, l, make([]byte, mostBytes+1), api.ErrLimit)
	drops(t, l, 2)
	appendRefused(t, l, nil, api.ErrCrash)
	isBroken(t, d, l, 2, 3, 0, 3)
}

// P7.3

func TestForceOfSomething(t *testing.T) {
	d, p := made(t, 8), part{0, 8, 3}
	l := opens(t, d, p, 1)
	a := appends(t, l, pattern(1, 60))
	stands(t, l, 3, 5, 3, 6)
	forces(t, l)
	stands(t, l, 3, 5, 5, 6)
	if len(d.Cached()) != 0 || d.Spent() != 3 {
		t.Errorf("behind Force: Cached %v, Spent %d", d.Cached(), d.Spent())
	}
	appends(t, l, pattern(2, 1))
	stands(t, l, 3, 6, 5, 5)
	d.Crash(nil)
	opens(t, d, p, 2, a)
}

func TestForceOfNothing(t *testing.T) {
	d := made(t, 8)
	l := opens(t, d, part{0, 8, 3}, 1)
	for i := range 4 {
		forces(t, l)
		stands(t, l, 3, 3, 3, 8)
		if d.Spent() != i+1 {
			t.Errorf("Force does not flush: Spent %d", d.Spent())
		}
	}
	appends(t, l, nil)
	forces(t, l)
	forces(t, l)
	stands(t, l, 3, 4, 4, 7)
	if d.Spent() != 7 {
		t.Error(d.Spent())
	}
}

func TestForceLaysDownWhatOthersWrote(t *testing.T) {
	d := made(t, 8)
	l := opens(t, d, part{0, 4, 0}, 1)
	d.Write(6, []byte("heron"))
	forces(t, l)
	if len(d.Cached()) != 0 {
		t.Error(d.Cached())
	}
}

func TestForceWhoseDeviceHasAnError(t *testing.T) {
	for _, some := range []bool{true, false} {
		d, p := made(t, 8), part{0, 8, 3}
		l := opens(t, d, p, 1)
		a := appends(t, l, pattern(1, 60))
		forces(t, l)
		tail := 5
		if some {
			appends(t, l, pattern(2, 5))
			tail = 6
		}
		d.Budget(0)
		if e := l.Force(); e != api.ErrCrash {
			t.Errorf("Force = %v", e)
		}
		isBroken(t, d, l, 3, tail, 5, 8-(tail-3))
		d.Crash(nil)
		isBroken(t, d, l, 3, tail, 5, 8-(tail-3))
		opens(t, d, p, 2, a)
	}
}

func TestAppendIsNotForced(t *testing.T) {
	d, p := made(t, 8), part{0, 8, 0}
	l := opens(t, d, p, 1)
	for range 8 {
		appends(t, l, []byte("a"))
	}
	stands(t, l, 0, 8, 0, 0)
	drops(t, l, 8)
	d.Crash(nil)
	opens(t, d, p, 2)
}

// P7.4

func TestDropOfEachPlace(t *testing.T) {
	const head, tail, size = 20, 26, 9
	for to := head - 2; to <= tail+2; to++ {
		d := made(t, 12)
		l := opens(t, d, part{1, size, head}, 1)
		appends(t, l, pattern(1, 100))
		forces(t, l)
		appends(t, l, pattern(2, 100))
		spent, was := d.Spent(), contents(d)
		if to < head || to > tail {
			dropRefused(t, l, to, api.ErrArg)
			stands(t, l, head, tail, head+3, size-(tail-head))
		} else {
			drops(t, l, to)
			stands(t, l, to, tail, head+3, size-(tail-to))
			dropRefused(t, l, to-1, api.ErrArg)
		}
		if d.Spent() != spent || !slices.EqualFunc(contents(d), was, bytes.Equal) {
			t.Error("Drop writes")
		}
	}
}

func TestDropOfWhatIsNone(t *testing.T) {
	l := opens(t, made(t, 8), part{0, 8, 5}, 1)
	appends(t, l, pattern(1, 100))
	for _, to := range []int{math.MinInt, math.MinInt + 1, -1, 0, 4, 9, 13, mostPlace, mostPlace + 1, math.MaxInt - 1, math.MaxInt} {
		dropRefused(t, l, to, api.ErrArg)
	}
	drops(t, l, 5)
	drops(t, l, 8)
	drops(t, l, 8)
	stands(t, l, 8, 8, 5, 8)
	for _, to := range []int{5, 7, 9} {
		dropRefused(t, l, to, api.ErrArg)
	}
}

func TestDropOfWhatWasFound(t *testing.T) {
	d, p := made(t, 8), part{0, 8, 5}
	all := layAll(t, d, p, 1, 50, 50, 50)
	l := opens(t, d, p, 2, all...)
	drops(t, l, all[1].At)
	stands(t, l, 7, 11, 11, 4)
	opens(t, d, part{0, 8, 7}, 3, all[1:]...)
	drops(t, l, 11)
	stands(t, l, 11, 11, 11, 8)
	opens(t, d, part{0, 8, 11}, 3)
}

func TestFurtherRounds(t *testing.T) {
	d, p := made(t, 9), part{2, 6, 0}
	l := opens(t, d, p, 1)
	var live []wal.Rec
	for i := range 200 {
		b := pattern(i, i*37%200)
		for l.Free() < need(len(b)) {
			appendRefused(t, l, b, api.ErrFull)
			next := l.Tail()
			if len(live) > 1 {
				next = live[1].At
			}
			drops(t, l, next)
			live = live[1:]
		}
		live = append(live, appends(t, l, b))
		forces(t, l)
		opens(t, d, part{2, 6, l.Head()}, 2, live...)
	}
	if l.Tail() < 400 {
		t.Error("there are too few rounds:", l.Tail())
	}
}

func TestDropOfAPartOfARecord(t *testing.T) {
	d := made(t, 6)
	l := opens(t, d, part{0, 6, 0}, 1)
	appends(t, l, pattern(1, 132))
	r := appends(t, l, pattern(2, 10))
	drops(t, l, 1) // the record's first sector is free, the others are not
	stands(t, l, 1, 4, 0, 3)
	appendRefused(t, l, make([]byte, 150), api.ErrFull)
	appends(t, l, make([]byte, 132))
	stands(t, l, 1, 7, 0, 0)
	opens(t, d, part{0, 6, 1}, 2)
	opens(t, d, part{0, 6, r.At}, 2, r, wal.Rec{At: 4, Data: make([]byte, 132)})
}

// P7.5

func TestWhatOpenDidNotMake(t *testing.T) {
	refused, _, _ := wal.Open(made(t, 4), 0, 5, 0, 1)
	var held struct{ wal.Log }
	for name, l := range map[string]*wal.Log{"nil": nil, "new": new(wal.Log), "literal": {}, "of an error": refused, "a part of another": &held.Log} {
		for range 2 {
			stands(t, l, 0, 0, 0, 0)
			for _, n := range []int{0, 1, 44, 45, mostBytes, mostBytes + 1} {
				if at, e := l.Append(make([]byte, n)); at != 0 || e != api.ErrCrash {
					t.Errorf("%s: Append of %d bytes = %d, %v", name, n, at, e)
				}
			}
			if at, e := l.Append(nil); at != 0 || e != api.ErrCrash {
				t.Errorf("%s: Append(nil) = %d, %v", name, at, e)
			}
			if e := l.Force(); e != api.ErrCrash {
				t.Errorf("%s: Force = %v", name, e)
			}
			for _, to := range []int{0, 1, -1, math.MinInt, math.MaxInt} {
				if e := l.Drop(to); e != api.ErrCrash {
					t.Errorf("%s: Drop(%d) = %v", name, to, e)
				}
			}
		}
	}
}

func TestWhatOpenDidNotMakeHasNoRing(t *testing.T) {
	var l wal.Log
	l.Size, l.From = 8, 2 // a ring that is sane
	l.Ring.Tail = 5
	stands(t, &l, 0, 0, 0, 0)
	if _, e := l.Append(nil); e != api.ErrCrash {
		t.Error(e)
	}
	if e := l.Drop(2); e != api.ErrCrash {
		t.Error(e)
	}
}

// P7.6

// step is what is done to a log: append so many bytes, force, drop the first record if there are others, or drop all.
type step int

const (
	force   step = -1
	drop    step = -2
	dropAll step = -3
)

// run is a log, and what is to be there behind a crash.
type run struct {
	d        *device.Device
	p        part
	l        *wal.Log
	appended []wal.Rec // from Head on
	forced   int       // so many of them were there at a Force that was OK, or at Open
}

// begin opens a log anew.
func begin(t *testing.T, d *device.Device, p part, epoch int) *run {
	t.Helper()
	l, records := open(t, d, p, epoch)
	return &run{d, p, l, slices.Clone(records), len(records)}
}

// do takes steps until one has an error, but for one that finds no room, or nothing to drop.
func (r *run) do(steps []step) {
	for i, s := range steps {
		var e api.Errno
		switch {
		case s == force:
			if e = r.l.Force(); e == api.OK {
				r.forced = len(r.appended)
			}
		case s == drop && len(r.appended) > 1:
			r.drop(r.appended[1].At, 1)
		case s == dropAll:
			r.drop(r.l.Tail(), len(r.appended))
		case s >= 0:
			var at int
			b := pattern(r.l.Tail()+i, int(s))
			if at, e = r.l.Append(b); e == api.OK {
				r.appended = append(r.appended, wal.Rec{At: at, Data: b})
			}
		}
		if e != api.OK && e != api.ErrFull {
			return
		}
	}
}

// drop drops the first n records.
func (r *run) drop(to, n int) {
	if r.l.Drop(to) == api.OK {
		r.appended, r.p.head = r.appended[n:], to
		r.forced = max(0, r.forced-n)
	}
}

// copyOf is a device that is like one of which nothing is cached.
func copyOf(t *testing.T, d *device.Device) *device.Device {
	t.Helper()
	out := made(t, d.Size())
	for at, b := range contents(d) {
		if e := out.Write(at, b); e != api.OK {
			t.Fatal(e)
		}
	}
	if e := out.Flush(); e != api.OK {
		t.Fatal(e)
	}
	return out
}

// keeps are ways in which n cached sectors are kept: all of them, or so many if there are more.
func keeps(n, most int) [][]bool {
	var l [][]bool
	for i := range min(1<<n, most) {
		bits := i * 0x9E37 // an odd factor: no two end on the same n bits
		keep := make([]bool, n)
		for k := range keep {
			keep[k] = bits>>k&1 == 1
		}
		l = append(l, keep)
	}
	return l
}

// crashes takes steps on a copy of a device, with each budget up to where all are taken, crashes it with each keep, and checks what is there then; and takes the next steps on each of them.
func crashes(t *testing.T, d *device.Device, p part, epoch, most int, plan ...[]step) {
	t.Helper()
	if len(plan) == 0 {
		return
	}
	for budget := 0; ; budget++ {
		first := tried(t, d, p, epoch, budget, plan[0])
		for _, keep := range keeps(len(first.d.Cached()), most) {
			r := tried(t, d, p, epoch, budget, plan[0])
			r.d.Crash(keep)
			again := begin(t, r.d, r.p, epoch+1)
			if n := len(again.appended); n < r.forced || n > len(r.appended) || !sameRecords(again.appended, r.appended[:n]) {
				t.Fatalf("%v of epoch %d, budget %d, keep %v: there is %v, appended %v, forced %d", r.p, epoch, budget, keep, told(again.appended), told(r.appended), r.forced)
			}
			crashes(t, r.d, r.p, epoch+1, most, plan[1:]...)
		}
		if !first.d.Gone() {
			return
		}
	}
}

// tried is a copy of a device behind steps with a budget.
func tried(t *testing.T, d *device.Device, p part, epoch, budget int, steps []step) *run {
	t.Helper()
	r := begin(t, copyOf(t, d), p, epoch)
	r.d.Budget(budget)
	r.do(steps)
	return r
}

func TestBehindACrashAtEachWrite(t *testing.T) {
	for name, steps := range map[string][]step{
		"nothing":             {},
		"a force alone":       {force},
		"nothing forced":      {10, 60, 0, 100, 44},
		"all forced":          {10, 60, 0, 100, force},
		"each forced":         {10, force, 60, force, 0, force, 132, force},
		"one of many sectors": {300},
		"forced and not":      {60, 10, force, 100, 5, 50},
		"forced two times":    {60, force, force, 100, force, force, 1},
		"dropped":             {60, 60, force, drop, 100, force, drop, 100, 20},
		"round and round":     {100, 100, force, drop, 150, force, dropAll, 300, 20, force, drop, 200, 44},
		"all dropped":         {100, 60, force, dropAll, 20, 200, force, dropAll, 88, 5, force, 10},
		"too long for it":     {100, 300, 10, force, 400, 200},
	} {
		t.Run(name, func(t *testing.T) {
			for _, p := range []part{{0, 8, 0}, {2, 8, 1013}, {1, 7, 20}} {
				crashes(t, made(t, 10), p, 1, 256, steps)
			}
		})
	}
}

func TestBehindCrashesOneBehindTheOther(t *testing.T) {
	for name, plan := range map[string][][]step{
		"appended anew":          {{10, 60, 10}, {10, 10}, {60, 10}},
		"of other lengths":       {{44, 88}, {88, 44}, {44, 44, 44}},
		"forced between":         {{60, force, 10}, {10, force}, {5, force, 60}},
		"dropped between":        {{60, 10, force}, {drop, 60, force}, {drop, 60}},
		"nothing between":        {{60, 10, 10}, {}, {10, 10}, {}},
		"four times":             {{10, 10}, {50}, {10}, {50, 10}},
		"over what was not kept": {{100, 10}, {10, 100}, {100, 10}},
	} {
		t.Run(name, func(t *testing.T) {
			for _, p := range []part{{0, 5, 0}, {1, 5, 13}} {
				crashes(t, made(t, 6), p, 1, 16, plan...)
			}
		})
	}
}

func TestBehindACrashAllThatWasKept(t *testing.T) {
	d, p := made(t, 8), part{0, 8, 0}
	r := begin(t, d, p, 1)
	r.do([]step{60, force, 10, 60, 44})
	d.Crash([]bool{true, true, true, true})
	opens(t, d, p, 2, r.appended...)
}

func TestBehindACrashNothingBehindAHole(t *testing.T) {
	d, p := made(t, 8), part{0, 8, 0}
	r := begin(t, d, p, 1)
	r.do([]step{60, force, 10, 60, 44})       // at the places 0, 2, 3 and 5
	d.Crash([]bool{true, true, false, true})  // the second half of the one at 3 is lost
	l := opens(t, d, p, 2, r.appended[:2]...) // so the one at 5 does not count
	x := appends(t, l, pattern(9, 60))        // now it stands just behind another one
	forces(t, l)
	d.Crash(nil)
	opens(t, d, p, 3, append(r.appended[:2:2], x)...) // but is of an elder epoch
	holds(t, d, p, 5, piece(1, 5, 0, 1, r.appended[3].Data))
}

// TestARecordOfAnElderEpochAtHead holds P7.1 by its words: Open knows nothing of what was ahead of head. So where all is dropped, what an elder log left behind Tail may count.
func TestARecordOfAnElderEpochAtHead(t *testing.T) {
	d, p := made(t, 8), part{0, 8, 0}
	r := begin(t, d, p, 1)
	r.do([]step{60, 10})
	d.Crash([]bool{false, false, true})
	l := opens(t, d, p, 2)
	a := appends(t, l, pattern(9, 60))
	forces(t, l)
	opens(t, d, p, 3, a)
	drops(t, l, 2)
	opens(t, d, part{0, 8, 2}, 3, r.appended[1])
}

// What is handed in, and what is answered.

func TestWhatIsHandedInIsAsItWas(t *testing.T) {
	d, p := made(t, 80), part{0, 70, 4}
	l := opens(t, d, p, 1)
	for _, n := range []int{0, 1, 43, 44, 45, 88, 500} {
		b := append(pattern(1, n), pattern(2, 80)...)
		was := bytes.Clone(b)
		at, e := l.Append(b[:n])
		if e != api.OK || !bytes.Equal(b, was) {
			t.Errorf("Append of %d bytes: %v, or it changes what is handed in, or what lies behind it", n, e)
		}
		clear(b)
		holds(t, d, p, at, pieces(1, at, pattern(1, n))...)
		forces(t, l)
		holds(t, d, p, at, pieces(1, at, pattern(1, n))...)
	}
}

func TestRecordsAreNewMemory(t *testing.T) {
	d, p := made(t, 12), part{0, 12, 4}
	all := layAll(t, d, p, 1, 60, 44, 100, 0, 7)
	l, a := open(t, d, p, 2)
	_, b := open(t, d, p, 2)
	for i := range a {
		data := a[i].Data
		for k := range data {
			data[k] ^= 0x55
		}
		_ = append(data, 1, 2, 3)
		a[i] = wal.Rec{At: -1}
	}
	_ = append(a, wal.Rec{}, wal.Rec{})
	if !sameRecords(b, all) {
		t.Error("two answers share memory:", told(b))
	}
	opens(t, d, p, 2, all...)
	drops(t, l, p.head+12-l.Free())
	appends(t, l, make([]byte, 500))
	forces(t, l)
	if !sameRecords(b, all) {
		t.Error("an answer changes behind the call:", told(b))
	}
}

func TestRecordsShareNoMemory(t *testing.T) {
	d, p := made(t, 12), part{0, 12, 4}
	all := layAll(t, d, p, 1, 60, 44, 100, 0, 7)
	for i := range all {
		_, l := open(t, d, p, 2)
		_ = append(l[i].Data, pattern(77, 200)...)
		clear(l[i].Data[:cap(l[i].Data)])
		for k, r := range l {
			if k != i && !bytes.Equal(r.Data, all[k].Data) {
				t.Errorf("the records %d and %d share memory", i, k)
			}
		}
	}
}

// The example of the chapter.

func TestWhatIsForcedIsThere(t *testing.T) {
	d, p := made(t, 8), part{0, 8, 0}
	l := opens(t, d, p, 1)
	a := appends(t, l, []byte("a"))
	forces(t, l)
	appends(t, l, []byte("b"))
	d.Crash(nil)
	opens(t, d, p, 2, a)
}

// plain is a log of plain numbers, on a device of its own.
type plain struct {
	d                 *device.Device
	p                 part
	tail, safe, epoch int
	broken            bool
}

func (p *plain) append(b []byte) (int, api.Errno) {
	n := need(len(b))
	switch {
	case p.broken:
		return 0, api.ErrCrash
	case n > 1024:
		return 0, api.ErrLimit
	case p.tail+n > p.p.head+p.p.size, p.tail+n > mostPlace:
		return 0, api.ErrFull
	}
	for i, sector := range pieces(p.epoch, p.tail, b) {
		if p.d.Write(p.p.sectorOf(p.tail+i), sector) != api.OK {
			p.broken = true
			return 0, api.ErrCrash
		}
	}
	p.tail += n
	return p.tail - n, api.OK
}

func (p *plain) force() api.Errno {
	if p.broken || p.d.Flush() != api.OK {
		p.broken = true
		return api.ErrCrash
	}
	p.safe = p.tail
	return api.OK
}

func (p *plain) drop(to int) api.Errno {
	switch {
	case p.broken:
		return api.ErrCrash
	case to < p.p.head || to > p.tail:
		return api.ErrArg
	}
	p.p.head = to
	return api.OK
}

// twins are a log and a plain one, each on a device, to which the same is done.
type twins struct {
	d     *device.Device
	l     *wal.Log
	plain *plain
}

// reopen opens both anew, with an epoch.
func (w *twins) reopen(t *testing.T, epoch int) {
	t.Helper()
	p := w.plain.p
	if w.plain.d.Gone() {
		openRefused(t, w.d, p.from, p.size, p.head, epoch, api.ErrCrash)
		return
	}
	records, tail := plainFound(w.plain.d, p, epoch)
	w.plain = &plain{d: w.plain.d, p: p, tail: tail, safe: tail, epoch: epoch}
	w.l = opens(t, w.d, p, epoch, records...)
}

// crash crashes both devices.
func (w *twins) crash(keep []bool) {
	w.d.Crash(keep)
	w.plain.d.Crash(keep)
}

// damage turns a bit on both devices.
func (w *twins) damage(at, bit int) {
	for _, d := range []*device.Device{w.d, w.plain.d} {
		if b, e := d.Read(at); e == api.OK {
			b[bit/8] ^= 1 << (bit % 8)
			d.Write(at, b)
		}
	}
}

// step does to both what three bytes tell, and answers what both answered.
func (w *twins) step(t *testing.T, kind, x, y int) (got, want [2]int) {
	t.Helper()
	switch kind % 16 {
	case 0, 1, 2, 3, 4, 5:
		b := pattern(y, x%(44*(kind%3*2+1)))
		a, e := w.l.Append(b)
		c, f := w.plain.append(b)
		return [2]int{a, int(e)}, [2]int{c, int(f)}
	case 6, 7:
		return [2]int{0, int(w.l.Force())}, [2]int{0, int(w.plain.force())}
	case 8, 9, 10:
		to := w.plain.p.head + x%(w.plain.tail-w.plain.p.head+3) - 1
		return [2]int{to, int(w.l.Drop(to))}, [2]int{to, int(w.plain.drop(to))}
	case 11:
		w.d.Budget(x%12 - 3)
		w.plain.d.Budget(x%12 - 3)
	case 12, 13:
		keep := make([]bool, x%12)
		for i := range keep {
			keep[i] = y>>(i%8)&1 == 1
		}
		w.crash(keep)
		w.reopen(t, min(w.plain.epoch+x%2+1, mostEpoch))
	case 14:
		w.reopen(t, max(1, min(w.plain.epoch+x%4-1, mostEpoch)))
	case 15:
		if y%4 == 0 {
			w.damage(w.plain.p.from+x%w.plain.p.size, y*2+x%2)
		}
	}
	return got, want
}

// steps does to a log and to a plain one what bytes tell, and holds each answer of one against the other's.
func steps(t *testing.T, script []byte) {
	if len(script) < 5 {
		return
	}
	from, size := int(script[0])%5, int(script[1])%12+1
	n := from + size + int(script[2])%3
	head := []int{0, int(script[3]), mostPlace - int(script[3])}[script[4]%3]
	epoch := []int{1, 1000, mostEpoch - 3}[script[4]/3%3]
	w := &twins{d: made(t, n), plain: &plain{d: made(t, n), p: part{from, size, head}}}
	w.reopen(t, epoch)
	for i := 5; i+2 < len(script); i += 3 {
		got, want := w.step(t, int(script[i]), int(script[i+1]), int(script[i+2]))
		if got != want {
			t.Fatalf("step %d, %v: %v, want %v", i/3, script[i:i+3], got, want)
		}
		p := w.plain
		stands(t, w.l, p.p.head, p.tail, p.safe, p.p.head+p.p.size-p.tail)
		if w.d.Spent() != p.d.Spent() || w.d.Gone() != p.d.Gone() || !slices.Equal(w.d.Cached(), p.d.Cached()) {
			t.Fatalf("step %d: Spent %d, Gone %v, Cached %v, want %d, %v, %v", i/3, w.d.Spent(), w.d.Gone(), w.d.Cached(), p.d.Spent(), p.d.Gone(), p.d.Cached())
		}
		if !slices.EqualFunc(contents(w.d), contents(p.d), bytes.Equal) {
			t.Fatalf("step %d, %v: the devices are unlike", i/3, script[i:i+3])
		}
	}
}

// script is bytes of any kind, that a seed tells.
func script(seed uint32, n int) []byte {
	b := make([]byte, n)
	for i := range b {
		seed = seed*1664525 + 1013904223
		b[i] = byte(seed >> 24)
	}
	return b
}

func TestStepsOfAnyKind(t *testing.T) {
	for seed := range uint32(300) {
		steps(t, script(seed, 600))
	}
}

// P1

func FuzzSteps(f *testing.F) {
	for seed := range uint32(20) {
		f.Add(script(seed+1000, 90))
	}
	f.Fuzz(steps)
}

func FuzzOpen(f *testing.F) {
	for _, p := range []part{{0, 8, 0}, {2, 6, 1000}, {-1, 9, math.MaxInt}, {math.MaxInt, 1, 0}} {
		f.Add(slices.Concat(pieces(1, 0, pattern(1, 60))...), p.from, p.size, p.head, 2)
	}
	f.Fuzz(func(t *testing.T, b []byte, from, size, head, epoch int) {
		d := made(t, 8)
		for i, sector := range slices.Collect(slices.Chunk(b[:min(len(b), 512)], 64)) {
			d.Write(i, sector)
		}
		if from < 0 || size < 1 || from > 8 || size > 8-from || head < 0 || head > mostPlace || epoch < 1 || epoch > mostEpoch {
			openRefused(t, d, from, size, head, epoch, api.ErrArg)
			return
		}
		open(t, d, part{from, size, head}, epoch)
	})
}
