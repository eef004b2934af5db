package super_test

import (
	"bytes"
	"encoding/binary"
	"fmt"
	"hash/crc32"
	"math"
	"slices"
	"testing"

	"heronry/api"
	"heronry/device"
	"heronry/super"
)

const (
	lastVersion = 281_474_976_710_656 // 2^48
	lastEpoch   = 4_294_967_295       // 2^32 - 1
	lastPlace   = 1_099_511_627_776   // 2^40
)

// Where each thing stands in a sector.
const (
	versionAt  = 8
	epochAt    = 16
	blocksAt   = 20
	countersAt = 22
	logAt      = 24
	headAt     = 26
	appliedAt  = 34
	noneAt     = 42
	sumAt      = 60
)

// least, some and most are supers that may be.
var (
	least = super.Super{Log: 1}
	some  = super.Super{Version: 0x10203040506, Epoch: 0xA0B0C0D0, Blocks: 200, Counters: 61, Log: 0xE0F, Head: 0x9182736455, Applied: 0x8877665544}
	most  = super.Super{Version: lastVersion, Epoch: lastEpoch, Blocks: 256, Counters: 64, Log: 4096, Head: lastPlace, Applied: lastPlace}
)

// part is a field of a super: its bounds, and where it stands in a sector, in how many bytes.
type part struct {
	name        string
	least, most int
	at, size    int
	set         func(*super.Super, int)
}

func parts() []part {
	return []part{
		{"Version", 0, lastVersion, versionAt, 8, func(s *super.Super, v int) { s.Version = v }},
		{"Epoch", 0, lastEpoch, epochAt, 4, func(s *super.Super, v int) { s.Epoch = v }},
		{"Blocks", 0, 256, blocksAt, 2, func(s *super.Super, v int) { s.Blocks = v }},
		{"Counters", 0, 64, countersAt, 2, func(s *super.Super, v int) { s.Counters = v }},
		{"Log", 1, 4096, logAt, 2, func(s *super.Super, v int) { s.Log = v }},
		{"Head", 0, lastPlace, headAt, 8, func(s *super.Super, v int) { s.Head = v }},
		{"Applied", 0, lastPlace, appliedAt, 8, func(s *super.Super, v int) { s.Applied = v }},
	}
}

// with is a super whose field is v.
func (p part) with(s super.Super, v int) super.Super {
	p.set(&s, v)
	return s
}

// beyond are numbers that the field may not be.
func (p part) beyond() []int {
	return []int{p.least - 1, p.least - 2, p.most + 1, p.most + 2, -p.most, math.MinInt, math.MinInt + 1, math.MaxInt, math.MaxInt - 1, p.least - 1<<16, p.least - 1<<32, p.least - 1<<48, p.most + 1<<16, p.most + 1<<32, p.most + 1<<48, p.most + 1<<62}
}

// insane are supers that may not be for one field's sake.
func insane() []super.Super {
	l := []super.Super{{}}
	for _, p := range parts() {
		for _, s := range []super.Super{least, some, most} {
			for _, v := range p.beyond() {
				l = append(l, p.with(s, v))
			}
		}
	}
	return l
}

// sane are supers that may be: each field at its bounds, and near them.
func sane() []super.Super {
	l := []super.Super{least, some, most}
	for _, p := range parts() {
		for _, s := range []super.Super{least, some, most} {
			for _, v := range []int{p.least, p.least + 1, p.least + 2, p.most / 2, p.most/2 + 1, p.most - 2, p.most - 1, p.most} {
				l = append(l, p.with(s, v))
			}
		}
	}
	return l
}

// plainSane tells whether a super may be, bound by bound.
func plainSane(s super.Super) bool {
	switch {
	case s.Version < 0, s.Version > lastVersion, s.Epoch < 0, s.Epoch > lastEpoch, s.Blocks < 0, s.Blocks > 256, s.Counters < 0, s.Counters > 64:
		return false
	}
	return s.Log >= 1 && s.Log <= 4096 && s.Head >= 0 && s.Head <= lastPlace && s.Applied >= 0 && s.Applied <= lastPlace
}

// sealed is a sector's first 60 bytes and their right sum.
func sealed(body []byte) []byte {
	return binary.LittleEndian.AppendUint32(bytes.Clone(body), crc32.ChecksumIEEE(body))
}

// laid is a super's sector under a right sum, whether it may be or not, made without the layers below.
func laid(s super.Super) []byte {
	b := make([]byte, sumAt)
	copy(b, "HERON1")
	binary.LittleEndian.PutUint64(b[versionAt:], uint64(s.Version))
	binary.LittleEndian.PutUint32(b[epochAt:], uint32(s.Epoch))
	binary.LittleEndian.PutUint16(b[blocksAt:], uint16(s.Blocks))
	binary.LittleEndian.PutUint16(b[countersAt:], uint16(s.Counters))
	binary.LittleEndian.PutUint16(b[logAt:], uint16(s.Log))
	binary.LittleEndian.PutUint64(b[headAt:], uint64(s.Head))
	binary.LittleEndian.PutUint64(b[appliedAt:], uint64(s.Applied))
	return sealed(b)
}

// plainDecode is Decode, byte by byte.
func plainDecode(b []byte) (super.Super, api.Errno) {
	switch {
	case len(b) < 64:
		return super.Super{}, api.ErrShort
	case len(b) > 64:
		return super.Super{}, api.ErrForm
	case binary.LittleEndian.Uint32(b[sumAt:]) != crc32.ChecksumIEEE(b[:sumAt]):
		return super.Super{}, api.ErrSum
	case string(b[:8]) != "HERON1\x00\x00", !bytes.Equal(b[noneAt:sumAt], make([]byte, 18)):
		return super.Super{}, api.ErrForm
	}
	s := super.Super{
		Version:  int(binary.LittleEndian.Uint64(b[versionAt:])),
		Epoch:    int(binary.LittleEndian.Uint32(b[epochAt:])),
		Blocks:   int(binary.LittleEndian.Uint16(b[blocksAt:])),
		Counters: int(binary.LittleEndian.Uint16(b[countersAt:])),
		Log:      int(binary.LittleEndian.Uint16(b[logAt:])),
		Head:     int(binary.LittleEndian.Uint64(b[headAt:])),
		Applied:  int(binary.LittleEndian.Uint64(b[appliedAt:])),
	}
	if !plainSane(s) {
		return super.Super{}, api.ErrForm
	}
	return s, api.OK
}

// made is a device of n sectors.
func made(t *testing.T, n int) *device.Device {
	t.Helper()
	d, e := device.New(n)
	if e != api.OK {
		t.Fatalf("New(%d) = %v", n, e)
	}
	return d
}

// gone is a device of n sectors that is gone, and of which two copies were told ahead of that.
func gone(t *testing.T, n int) *device.Device {
	t.Helper()
	d := made(t, n)
	lay(t, d, laid(some), laid(most))
	d.Budget(0)
	if d.Flush() != api.ErrCrash || !d.Gone() {
		t.Fatal("the device is not gone")
	}
	return d
}

// lay lays sectors down from 0 on.
func lay(t *testing.T, d *device.Device, l ...[]byte) {
	t.Helper()
	for at, b := range l {
		if e := d.Write(at, b); e != api.OK {
			t.Fatalf("Write(%d) = %v", at, e)
		}
	}
	if e := d.Flush(); e != api.OK {
		t.Fatalf("Flush = %v", e)
	}
}

// contents are a device's sectors.
func contents(t *testing.T, d *device.Device) [][]byte {
	t.Helper()
	l := make([][]byte, d.Size())
	for at := range l {
		b, e := d.Read(at)
		if e != api.OK {
			t.Fatalf("Read(%d) = %v", at, e)
		}
		l[at] = b
	}
	return l
}

// holds checks what all of a device's sectors are.
func holds(t *testing.T, d *device.Device, want ...[]byte) {
	t.Helper()
	for at, b := range contents(t, d) {
		x := make([]byte, 64)
		if at < len(want) {
			copy(x, want[at])
		}
		if !bytes.Equal(b, x) {
			t.Errorf("sector %d is %v, want %v", at, b, x)
		}
	}
}

// loads checks what Load tells.
func loads(t *testing.T, d *device.Device, want super.Super) {
	t.Helper()
	if s, e := super.Load(d); s != want || e != api.OK {
		t.Errorf("Load = %+v, %v, want %+v", s, e, want)
	}
}

// loadRefused checks that Load tells nothing but an error.
func loadRefused(t *testing.T, d *device.Device, want api.Errno) {
	t.Helper()
	if s, e := super.Load(d); s != (super.Super{}) || e != want {
		t.Errorf("Load = %+v, %v, want %v", s, e, want)
	}
}

// saves saves what must be saved; what is there then.
func saves(t *testing.T, d *device.Device, s super.Super) super.Super {
	t.Helper()
	want := s
	want.Version++
	got, e := super.Save(d, s)
	if got != want || e != api.OK {
		t.Fatalf("Save(%+v) = %+v, %v", s, got, e)
	}
	return got
}

// saveRefused checks that Save tells nothing but an error.
func saveRefused(t *testing.T, d *device.Device, s super.Super, want api.Errno) {
	t.Helper()
	if got, e := super.Save(d, s); got != (super.Super{}) || e != want {
		t.Errorf("Save(%+v) = %+v, %v, want %v", s, got, e, want)
	}
}

// P8.1

func TestSaneAtEachBound(t *testing.T) {
	for _, s := range sane() {
		if !super.Sane(s) {
			t.Errorf("Sane(%+v) = false", s)
		}
	}
}

func TestSaneBeyondEachBound(t *testing.T) {
	for _, s := range insane() {
		if super.Sane(s) {
			t.Errorf("Sane(%+v) = true", s)
		}
	}
}

func TestSaneOfManyThatAreBeyond(t *testing.T) {
	all := least
	for _, p := range parts() {
		all = p.with(all, p.most+1)
		if super.Sane(all) {
			t.Errorf("Sane(%+v) = true", all)
		}
		if s := p.with(all, math.MinInt); super.Sane(s) {
			t.Errorf("Sane(%+v) = true", s)
		}
	}
}

func TestEncodeOfOneThatMayBe(t *testing.T) {
	for _, s := range sane() {
		if b, e := super.Encode(s); e != api.OK || !bytes.Equal(b, laid(s)) {
			t.Errorf("Encode(%+v) = %v, %v, want %v", s, b, e, laid(s))
		}
	}
}

// TestEncodeByteByByte has the bytes written out, in case what laid lays is wrong in the same way.
func TestEncodeByteByByte(t *testing.T) {
	want := []byte{
		'H', 'E', 'R', 'O', 'N', '1', 0, 0,
		6, 5, 4, 3, 2, 1, 0, 0,
		0xD0, 0xC0, 0xB0, 0xA0,
		200, 0,
		61, 0,
		0x0F, 0x0E,
		0x55, 0x64, 0x73, 0x82, 0x91, 0, 0, 0,
		0x44, 0x55, 0x66, 0x77, 0x88, 0, 0, 0,
		0, 0, 0, 0, 0, 0, 0, 0, 0, 0, 0, 0, 0, 0, 0, 0, 0, 0,
	}
	b, e := super.Encode(some)
	if e != api.OK || len(b) != 64 || !bytes.Equal(b[:sumAt], want) {
		t.Fatalf("Encode = %v, %v", b, e)
	}
	v := crc32.ChecksumIEEE(want)
	if !bytes.Equal(b[sumAt:], []byte{byte(v), byte(v >> 8), byte(v >> 16), byte(v >> 24)}) {
		t.Errorf("the sum is %v, want %#x", b[sumAt:], v)
	}
}

func TestEncodeOfTheMost(t *testing.T) {
	b, e := super.Encode(most)
	if e != api.OK {
		t.Fatal(e)
	}
	for _, x := range []struct {
		from int
		want []byte
	}{
		{versionAt, []byte{0, 0, 0, 0, 0, 0, 1, 0}},
		{epochAt, []byte{255, 255, 255, 255}},
		{blocksAt, []byte{0, 1}},
		{countersAt, []byte{64, 0}},
		{logAt, []byte{0, 16}},
		{headAt, []byte{0, 0, 0, 0, 0, 1, 0, 0}},
		{appliedAt, []byte{0, 0, 0, 0, 0, 1, 0, 0}},
		{noneAt, make([]byte, 18)},
	} {
		if got := b[x.from : x.from+len(x.want)]; !bytes.Equal(got, x.want) {
			t.Errorf("from %d on: %v, want %v", x.from, got, x.want)
		}
	}
}

func TestEncodeOfOneThatMayNotBe(t *testing.T) {
	for _, s := range insane() {
		if b, e := super.Encode(s); len(b) != 0 || e != api.ErrArg {
			t.Errorf("Encode(%+v) = %v, %v", s, b, e)
		}
	}
}

func TestEachFieldHasItsBytes(t *testing.T) {
	for _, p := range parts() {
		a, _ := super.Encode(p.with(least, p.least))
		for _, v := range []int{p.least + 1, p.most / 3, p.most - 1, p.most} {
			b, e := super.Encode(p.with(least, v))
			if e != api.OK {
				t.Fatal(e)
			}
			for at := range sumAt {
				if inside := at >= p.at && at < p.at+p.size; !inside && a[at] != b[at] {
					t.Errorf("%s of %d turns the byte %d", p.name, v, at)
				}
			}
			if bytes.Equal(a[p.at:p.at+p.size], b[p.at:p.at+p.size]) {
				t.Errorf("%s of %d is as %d", p.name, v, p.least)
			}
		}
	}
}

// P8.2

// decodes checks what Decode tells of bytes, also as plainDecode does.
func decodes(t *testing.T, b []byte, want super.Super, wantErr api.Errno) {
	t.Helper()
	if s, e := super.Decode(b); s != want || e != wantErr {
		t.Errorf("Decode(%v) = %+v, %v, want %+v, %v", b, s, e, want, wantErr)
	}
	if s, e := plainDecode(b); s != want || e != wantErr {
		t.Errorf("plainDecode(%v) = %+v, %v, want %+v, %v", b, s, e, want, wantErr)
	}
}

func TestDecodeOfOneThatMayBe(t *testing.T) {
	for _, s := range sane() {
		decodes(t, laid(s), s, api.OK)
		b, _ := super.Encode(s)
		decodes(t, b, s, api.OK)
	}
}

func TestDecodeOfEachLength(t *testing.T) {
	whole := laid(some)
	decodes(t, nil, super.Super{}, api.ErrShort)
	for n := range 64 {
		decodes(t, whole[:n], super.Super{}, api.ErrShort)
		decodes(t, make([]byte, n), super.Super{}, api.ErrShort)
	}
	for _, n := range []int{65, 66, 68, 100, 128, 1000, 65536} {
		decodes(t, append(bytes.Clone(whole), make([]byte, n-64)...), super.Super{}, api.ErrForm)
		decodes(t, make([]byte, n), super.Super{}, api.ErrForm)
	}
	decodes(t, whole, some, api.OK)
	decodes(t, append(bytes.Clone(whole), whole...), super.Super{}, api.ErrForm)
}

func TestDecodeOfOtherLengthsUnderARightSum(t *testing.T) {
	body := laid(some)[:sumAt]
	decodes(t, sealed(body[:sumAt-1]), super.Super{}, api.ErrShort)
	decodes(t, sealed(append(bytes.Clone(body), 0)), super.Super{}, api.ErrForm)
	decodes(t, sealed(nil), super.Super{}, api.ErrShort)
}

func TestDecodeOfEachByteTurned(t *testing.T) {
	for _, s := range []super.Super{least, some, most} {
		for at := range 64 {
			for turn := 1; turn < 256; turn++ {
				b := laid(s)
				b[at] ^= byte(turn)
				decodes(t, b, super.Super{}, api.ErrSum)
			}
		}
	}
}

func TestDecodeOfAWrongSum(t *testing.T) {
	for _, b := range [][]byte{make([]byte, 64), bytes.Repeat([]byte{255}, 64), bytes.Repeat([]byte("HERON1\x00\x00"), 8)} {
		decodes(t, b, super.Super{}, api.ErrSum)
	}
	for _, v := range []uint32{1, 1 << 8, 1 << 31, math.MaxUint32} {
		b := laid(some)
		binary.LittleEndian.PutUint32(b[sumAt:], binary.LittleEndian.Uint32(b[sumAt:])+v)
		decodes(t, b, super.Super{}, api.ErrSum)
	}
	b := laid(some)
	slices.Reverse(b[sumAt:]) // the high byte first
	decodes(t, b, super.Super{}, api.ErrSum)
}

func TestDecodeOfEachByteTurnedUnderARightSum(t *testing.T) {
	for _, s := range []super.Super{least, some, most} {
		for at := range sumAt {
			for turn := 1; turn < 256; turn++ {
				b := laid(s)[:sumAt]
				b[at] ^= byte(turn)
				b = sealed(b)
				want, wantErr := plainDecode(b)
				decodes(t, b, want, wantErr)
				if fixed := at < versionAt || at >= noneAt; fixed && wantErr != api.ErrForm {
					t.Errorf("the byte %d may be another one", at)
				}
			}
		}
	}
}

func TestDecodeOfAnotherName(t *testing.T) {
	for _, name := range []string{"", "HERON2\x00\x00", "heron1\x00\x00", "HERON1 \x00", "HERON1\x00\x01", "HERON\x001\x00", "\x00\x00HERON1", "1NOREH\x00\x00", "HERONRY1"} {
		b := laid(some)[:sumAt]
		clear(b[:versionAt])
		copy(b, name)
		decodes(t, sealed(b), super.Super{}, api.ErrForm)
	}
}

func TestDecodeOfOneThatMayNotBe(t *testing.T) {
	tried := 0
	for _, p := range parts() {
		for _, s := range []super.Super{least, some, most} {
			for _, v := range p.beyond() {
				if p.size < 8 && (v < 0 || v >= 1<<(8*p.size)) {
					continue // its bytes do not hold it
				}
				decodes(t, laid(p.with(s, v)), super.Super{}, api.ErrForm)
				tried++
			}
		}
	}
	if tried < 100 {
		t.Error("only", tried)
	}
}

func TestDecodeOfANumberThatNoIntHolds(t *testing.T) {
	for _, at := range []int{versionAt, headAt, appliedAt} {
		for _, v := range []uint64{1 << 63, 1<<63 + 1, 1<<63 + 1<<40, math.MaxUint64, math.MaxUint64 - 1, math.MaxUint64 - 1<<40} {
			b := laid(some)[:sumAt]
			binary.LittleEndian.PutUint64(b[at:], v)
			decodes(t, sealed(b), super.Super{}, api.ErrForm)
		}
	}
}

func TestTheOrderOfDecodesErrors(t *testing.T) {
	bad := laid(super.Super{})
	bad[0], bad[noneAt] = 'h', 1
	decodes(t, bad[:63], super.Super{}, api.ErrShort)                   // and no right sum, nor the form
	decodes(t, append(bytes.Clone(bad), 0), super.Super{}, api.ErrForm) // and no right sum: ErrForm comes first
	decodes(t, bad, super.Super{}, api.ErrSum)                          // and not the form
	decodes(t, sealed(bad[:sumAt]), super.Super{}, api.ErrForm)
}

func TestThereAndBack(t *testing.T) {
	for seed := range uint32(2000) {
		s := drawn(script(seed, 64))
		b, e := super.Encode(s)
		if e != api.OK {
			t.Fatalf("Encode(%+v) = %v", s, e)
		}
		decodes(t, b, s, api.OK)
	}
}

// drawn is a super that may be, by bytes of any kind.
func drawn(b []byte) super.Super {
	s := least
	for i, p := range parts() {
		v := int(binary.LittleEndian.Uint64(b[8*i:]) >> 1 >> (b[56+i%8] % 63))
		s = p.with(s, p.least+v%(p.most-p.least+1))
	}
	return s
}

// script is bytes of any kind, the same ones for a seed.
func script(seed uint32, n int) []byte {
	b := make([]byte, n)
	for i := range b {
		seed = seed*1664525 + 1013904223
		b[i] = byte(seed >> 24)
	}
	return b
}

// P8.3

func TestLoadOfADeviceThatIsNew(t *testing.T) {
	for _, n := range []int{2, 3, 10, 4096} {
		loadRefused(t, made(t, n), api.ErrName)
	}
}

func TestLoadOfNoDevice(t *testing.T) {
	loadRefused(t, nil, api.ErrCrash)
	loadRefused(t, &device.Device{}, api.ErrCrash)
}

func TestLoadOfADeviceThatIsGone(t *testing.T) {
	d := gone(t, 4)
	loadRefused(t, d, api.ErrCrash)
	d.Crash(nil)
	loads(t, d, most)
	loadRefused(t, gone(t, 2), api.ErrCrash)
}

func TestLoadOfADeviceOfOneSector(t *testing.T) {
	d := made(t, 1)
	loadRefused(t, d, api.ErrArg)
	lay(t, d, laid(some))
	loadRefused(t, d, api.ErrArg) // though the first one tells of a super
	d.Budget(0)
	d.Flush()
	loadRefused(t, d, api.ErrCrash) // the error of the first one
}

// of is a super that may be of some Version, unlike another one's seed.
func of(version, seed int) super.Super {
	return super.Super{Version: version, Epoch: seed + 1, Blocks: seed % 257, Counters: seed % 65, Log: seed%4096 + 1, Head: 3 * seed, Applied: 2 * seed}
}

func TestLoadOfEachSectorAlone(t *testing.T) {
	bad := laid(some)
	bad[20]++
	for _, version := range []int{0, 1, 2, 3, lastVersion - 1, lastVersion} {
		s := of(version, 7)
		for _, other := range [][]byte{nil, bad, laid(super.Super{}), bytes.Repeat([]byte{255}, 64), laid(of(lastVersion+1, 1)), laid(of(-1, 1))} {
			first, second := made(t, 4), made(t, 4)
			lay(t, first, laid(s), other)
			loads(t, first, s)
			lay(t, second, other, laid(s))
			loads(t, second, s)
		}
	}
}

func TestLoadOfUnlikeVersions(t *testing.T) {
	for _, x := range [][2]int{{0, 1}, {0, 2}, {1, 2}, {2, 3}, {5, 9}, {255, 256}, {65535, 65536}, {1<<32 - 1, 1 << 32}, {0, lastVersion}, {lastVersion - 1, lastVersion}} {
		elder, newer := of(x[0], 3), of(x[1], 4)
		a, b := made(t, 4), made(t, 4)
		lay(t, a, laid(elder), laid(newer))
		loads(t, a, newer)
		lay(t, b, laid(newer), laid(elder))
		loads(t, b, newer)
	}
}

func TestLoadGoesByTheVersionAlone(t *testing.T) {
	elder := most
	elder.Version = 4
	newer := least
	newer.Version = 5
	d := made(t, 3)
	lay(t, d, laid(elder), laid(newer))
	loads(t, d, newer)
	lay(t, d, laid(newer), laid(elder))
	loads(t, d, newer)
}

func TestLoadOfOneVersion(t *testing.T) {
	for _, version := range []int{0, 1, 2, 77, lastVersion} {
		for _, x := range [][2]int{{3, 4}, {4, 3}} {
			d := made(t, 3)
			lay(t, d, laid(of(version, x[0])), laid(of(version, x[1])))
			loads(t, d, of(version, x[0]))
		}
	}
}

func TestLoadOfOthersThanTheFirstTwo(t *testing.T) {
	d := made(t, 5)
	lay(t, d, nil, nil, laid(some), laid(most))
	loadRefused(t, d, api.ErrName)
}

func TestLoadOfBothThatAreDamaged(t *testing.T) {
	a, b := laid(some), laid(most)
	a[9]++
	b[63]++
	d := made(t, 2)
	lay(t, d, a, b)
	loadRefused(t, d, api.ErrName)
}

func TestLoadOfWhatIsCached(t *testing.T) {
	d := made(t, 2)
	if e := d.Write(1, laid(some)); e != api.OK {
		t.Fatal(e)
	}
	loads(t, d, some)
	d.Crash(nil)
	loadRefused(t, d, api.ErrName)
}

func TestLoadWritesNothing(t *testing.T) {
	d := made(t, 4)
	lay(t, d, laid(some), laid(most))
	if e := d.Write(3, []byte("cached")); e != api.OK {
		t.Fatal(e)
	}
	spent, before := d.Spent(), contents(t, d)
	loads(t, d, most)
	d.Budget(0)
	loads(t, d, most)
	if d.Spent() != spent || !slices.Equal(d.Cached(), []int{3}) || d.Gone() {
		t.Error("Load has spent something")
	}
	holds(t, d, before...)
}

// P8.4

func TestSaveOfEachVersion(t *testing.T) {
	for _, version := range []int{0, 1, 2, 3, 4, 255, 256, 65535, 1<<32 - 1, 1 << 32, lastVersion - 2, lastVersion - 1} {
		d := made(t, 4)
		saved := saves(t, d, of(version, 9))
		want := make([][]byte, 4)
		want[(version+1)%2] = laid(of(version+1, 9))
		holds(t, d, want...)
		if len(d.Cached()) != 0 || d.Spent() != 2 {
			t.Errorf("Version %d: cached %v, spent %d", version, d.Cached(), d.Spent())
		}
		d.Crash(nil)
		loads(t, d, saved)
	}
}

func TestSaveOfTheLastVersion(t *testing.T) {
	d := made(t, 4)
	for _, s := range []super.Super{of(lastVersion, 5), most} {
		saveRefused(t, d, s, api.ErrArg)
	}
	if d.Spent() != 0 || len(d.Cached()) != 0 {
		t.Error("it has spent something")
	}
	holds(t, d)
	last := saves(t, d, of(lastVersion-1, 5))
	loads(t, d, last)
	saveRefused(t, d, last, api.ErrArg)
	loads(t, d, last)
}

func TestSaveOfOneThatMayNotBe(t *testing.T) {
	d := made(t, 4)
	lay(t, d, laid(some), laid(of(3, 3)))
	spent, before := d.Spent(), contents(t, d)
	for _, s := range insane() {
		saveRefused(t, d, s, api.ErrArg)
	}
	saveRefused(t, d, super.Super{Version: -1, Log: 1}, api.ErrArg) // a Version one more might be
	if d.Spent() != spent || len(d.Cached()) != 0 {
		t.Error("it has spent something")
	}
	holds(t, d, before...)
}

func TestSaveOfAllThatMayBe(t *testing.T) {
	d := made(t, 2)
	for _, s := range sane() {
		if s.Version == lastVersion {
			saveRefused(t, d, s, api.ErrArg)
			continue
		}
		lay(t, d, nil, nil)
		loads(t, d, saves(t, d, s))
	}
}

func TestSavesOneBehindTheOther(t *testing.T) {
	d := made(t, 3)
	s := of(0, 1)
	want := [][]byte{nil, nil, []byte("another's")}
	lay(t, d, want...)
	spent := d.Spent()
	for i := range 40 {
		s.Epoch, s.Head, s.Blocks = i, 1000*i, i
		s = saves(t, d, s)
		if s.Version != i+1 || d.Spent() != spent+2*(i+1) {
			t.Fatalf("Version %d, spent %d", s.Version, d.Spent())
		}
		want[s.Version%2] = laid(s)
		holds(t, d, want...)
		loads(t, d, s)
	}
}

// TestSaveOfAnElderVersion holds P8.4 by its words: of a Version that is not what Load tells, the newer sector may be written over.
func TestSaveOfAnElderVersion(t *testing.T) {
	for version, want := range map[int]super.Super{
		3: of(7, 1), // in the sector 0, over 6
		4: of(6, 1), // in the sector 1, over 7
		6: of(7, 2), // over itself
		9: of(10, 2),
	} {
		d := made(t, 4)
		lay(t, d, laid(of(6, 1)), laid(of(7, 1)))
		saves(t, d, of(version, 2))
		loads(t, d, want)
	}
}

func TestSaveLaysDownWhatOthersWrote(t *testing.T) {
	d := made(t, 4)
	if e := d.Write(3, []byte("another's")); e != api.OK {
		t.Fatal(e)
	}
	s := saves(t, d, of(4, 1))
	if len(d.Cached()) != 0 {
		t.Error("cached:", d.Cached())
	}
	d.Crash(nil)
	holds(t, d, nil, laid(s), nil, []byte("another's"))
}

func TestSaveWhoseWriteHasAnError(t *testing.T) {
	d := made(t, 4)
	before := saves(t, d, of(4, 1))
	d.Budget(0)
	saveRefused(t, d, of(5, 2), api.ErrCrash)
	if !d.Gone() || d.Spent() != 2 || len(d.Cached()) != 0 {
		t.Errorf("spent %d, cached %v", d.Spent(), d.Cached())
	}
	d.Crash([]bool{true, true})
	loads(t, d, before)
}

func TestSaveWhoseFlushHasAnError(t *testing.T) {
	for _, keep := range []bool{false, true} {
		d := made(t, 4)
		before := saves(t, d, of(4, 1))
		d.Budget(1)
		saveRefused(t, d, of(5, 2), api.ErrCrash)
		if !d.Gone() || d.Spent() != 3 || !slices.Equal(d.Cached(), []int{0}) {
			t.Errorf("spent %d, cached %v", d.Spent(), d.Cached())
		}
		d.Crash([]bool{keep})
		if keep {
			loads(t, d, of(6, 2))
		} else {
			loads(t, d, before)
		}
	}
}

func TestSaveWithABudgetThatIsEnough(t *testing.T) {
	for _, budget := range []int{2, 3, 100, -1} {
		d := made(t, 4)
		d.Budget(budget)
		s := saves(t, d, of(5, 2))
		if d.Gone() || d.Spent() != 2 {
			t.Errorf("budget %d: spent %d", budget, d.Spent())
		}
		d.Crash(nil)
		loads(t, d, s)
	}
}

func TestSaveOnADeviceOfOneSector(t *testing.T) {
	d := made(t, 1)
	saveRefused(t, d, of(4, 1), api.ErrArg) // in the sector 1
	if d.Spent() != 0 || len(d.Cached()) != 0 {
		t.Error("it has spent something")
	}
	saves(t, d, of(5, 1))
	holds(t, d, laid(of(6, 1)))
}

func TestSaveOnNoDevice(t *testing.T) {
	for _, s := range []super.Super{least, some, of(3, 3)} {
		saveRefused(t, nil, s, api.ErrCrash)
		saveRefused(t, &device.Device{}, s, api.ErrCrash)
		saveRefused(t, gone(t, 3), s, api.ErrCrash)
	}
}

func TestTheOrderOfSavesErrors(t *testing.T) {
	broken := made(t, 3)
	broken.Budget(0)
	for _, s := range append(insane(), most, of(lastVersion, 3)) {
		saveRefused(t, nil, s, api.ErrArg)
		saveRefused(t, &device.Device{}, s, api.ErrArg)
		saveRefused(t, broken, s, api.ErrArg)
	}
	if broken.Gone() {
		t.Error("one that may not be was written")
	}
	d := gone(t, 3)
	saveRefused(t, d, most, api.ErrArg)
	saveRefused(t, d, super.Super{}, api.ErrArg)
	small := made(t, 1)
	small.Budget(0)
	saveRefused(t, small, of(4, 1), api.ErrArg) // the device tells of the sector ahead of the budget
	saveRefused(t, small, of(5, 1), api.ErrCrash)
}

// P8.5

// layout is what Layout answers.
type layout [4]int

func layoutOf(s super.Super) layout {
	blocks, counters, log, end := super.Layout(s)
	return layout{blocks, counters, log, end}
}

func TestLayoutOfSome(t *testing.T) {
	for _, x := range []struct {
		blocks, counters, log int
		want                  layout
	}{
		{0, 0, 1, layout{2, 2, 2, 3}},
		{0, 1, 1, layout{2, 2, 3, 4}},
		{0, 2, 1, layout{2, 2, 3, 4}},
		{0, 3, 1, layout{2, 2, 3, 4}},
		{0, 4, 1, layout{2, 2, 4, 5}},
		{0, 6, 1, layout{2, 2, 4, 5}},
		{0, 7, 1, layout{2, 2, 5, 6}},
		{0, 63, 1, layout{2, 2, 23, 24}},
		{0, 64, 1, layout{2, 2, 24, 25}},
		{1, 0, 1, layout{2, 3, 3, 4}},
		{1, 1, 4096, layout{2, 3, 4, 4100}},
		{256, 0, 1, layout{2, 258, 258, 259}},
		{256, 0, 4096, layout{2, 258, 258, 4354}},
		{256, 64, 4096, layout{2, 258, 280, 4376}},
		{10, 5, 20, layout{2, 12, 14, 34}},
	} {
		s := super.Super{Blocks: x.blocks, Counters: x.counters, Log: x.log}
		if got := layoutOf(s); got != x.want {
			t.Errorf("Layout(%+v) = %v, want %v", s, got, x.want)
		}
	}
}

func TestLayoutOfAll(t *testing.T) {
	for blocks := range 257 {
		for counters, sectors := 0, 0; counters <= 64; counters++ {
			if counters > 3*sectors {
				sectors++
			}
			for _, log := range []int{1, 2, 4095, 4096} {
				s := super.Super{Version: 5, Epoch: 7, Blocks: blocks, Counters: counters, Log: log, Head: 11, Applied: 13}
				want := layout{2, 2 + blocks, 2 + blocks + sectors, 2 + blocks + sectors + log}
				if got := layoutOf(s); got != want {
					t.Fatalf("Layout(%+v) = %v, want %v", s, got, want)
				}
			}
		}
	}
}

func TestLayoutHangsOnThreeFieldsAlone(t *testing.T) {
	s := super.Super{Blocks: 10, Counters: 5, Log: 20}
	for _, p := range parts() {
		if p.name == "Blocks" || p.name == "Counters" || p.name == "Log" {
			continue
		}
		for _, v := range []int{p.least, p.least + 1, p.most} {
			if got := layoutOf(p.with(s, v)); got != (layout{2, 12, 14, 34}) {
				t.Errorf("%s %d: %v", p.name, v, got)
			}
		}
	}
}

func TestLayoutOfOneThatMayNotBe(t *testing.T) {
	for _, s := range insane() {
		if got := layoutOf(s); got != (layout{}) {
			t.Errorf("Layout(%+v) = %v", s, got)
		}
	}
}

// P8.6

// keeps are all ways in which n cached sectors are kept, and lists that are too short and too long for them.
func keeps(n int) [][]bool {
	l := [][]bool{nil}
	for bits := range 1 << n {
		keep := make([]bool, n+1)
		for i := range n {
			keep[i] = bits>>i&1 == 1
		}
		l = append(l, keep[:n], append(keep, true, true), keep[:n/2])
	}
	return l
}

// copyOf is a device that is like one of which nothing is cached.
func copyOf(t *testing.T, d *device.Device) *device.Device {
	t.Helper()
	out := made(t, d.Size())
	lay(t, out, contents(t, d)...)
	return out
}

// crash is what is done to a device in a Save: what others wrote ahead of it and left cached, how much is done until it is gone, and what is kept.
type crash struct {
	others []int
	budget int
	keep   []bool
}

// crashed is a copy of a device, crashed in a Save; and whether that was told to be done.
func crashed(t *testing.T, d *device.Device, s super.Super, c crash) (*device.Device, bool) {
	t.Helper()
	out := copyOf(t, d)
	for _, at := range c.others {
		if e := out.Write(at, []byte("another's")); e != api.OK {
			t.Fatal(e)
		}
	}
	out.Budget(c.budget)
	_, e := super.Save(out, s)
	if e != api.OK && e != api.ErrCrash {
		t.Fatalf("Save(%+v) = %v", s, e)
	}
	out.Crash(c.keep)
	return out, e == api.OK
}

// crashes are all of a Save on a device of four sectors: with a budget of 0 and 1 it is gone, with 2 not.
func crashes() []crash {
	var l []crash
	for _, others := range [][]int{nil, {2}, {3}, {2, 3}} {
		for budget := range 3 {
			for _, keep := range keeps(len(others) + 1) {
				l = append(l, crash{others, budget, keep})
			}
		}
	}
	return l
}

// told is what Load tells, ErrName beside it where it tells nothing.
type told struct {
	s super.Super
	e api.Errno
}

func toldBy(d *device.Device) told {
	s, e := super.Load(d)
	return told{s, e}
}

// crashIn crashes a device in a Save in each way, checks what Load tells then, and goes on so with what it tells, so many times.
func crashIn(t *testing.T, d *device.Device, first super.Super, all []crash, times int) {
	t.Helper()
	if times == 0 {
		return
	}
	before := toldBy(d)
	s := first
	if before.e == api.OK {
		s = before.s
	}
	s.Epoch, s.Head = 100+times, 1000*times
	after := told{s, api.OK}
	after.s.Version++
	for _, c := range all {
		out, done := crashed(t, d, s, c)
		now := toldBy(out)
		if now != after && (done || now != before) {
			t.Fatalf("%+v (done %v): Load = %+v; there was %+v, saved was %+v", c, done, now, before, after)
		}
		crashIn(t, out, first, all, times-1)
	}
}

func TestBehindACrashInTheFirstSave(t *testing.T) {
	for _, version := range []int{0, 1, 2, 3, lastVersion - 1} {
		crashIn(t, made(t, 4), of(version, 3), crashes(), 1)
	}
}

func TestBehindACrashInAFurtherSave(t *testing.T) {
	for n := 1; n < 6; n++ {
		d := made(t, 4)
		s := of(n%3, n)
		for range n {
			s = saves(t, d, s)
		}
		crashIn(t, d, s, crashes(), 1)
	}
}

func TestBehindACrashWhereTheOtherSectorIsDamaged(t *testing.T) {
	d := made(t, 4)
	s := saves(t, d, saves(t, d, of(6, 3))) // Version 8, in the sector 0
	bad := laid(of(7, 3))
	bad[30]++
	lay(t, d, laid(s), bad)
	crashIn(t, d, s, crashes(), 1)
}

func TestBehindCrashesOneBehindTheOther(t *testing.T) {
	var few []crash
	for budget := range 3 {
		few = append(few, crash{nil, budget, nil}, crash{nil, budget, []bool{true}}, crash{[]int{2}, budget, []bool{false, true}})
	}
	for _, version := range []int{0, 1, 8} {
		crashIn(t, made(t, 4), of(version, 3), few, 4)
	}
	d := made(t, 4)
	saves(t, d, saves(t, d, of(0, 1)))
	crashIn(t, d, of(0, 1), crashes(), 2)
}

func TestBehindACrashWhoseSaveWasRefused(t *testing.T) {
	d := made(t, 4)
	s := saves(t, d, of(lastVersion-1, 3))
	for _, budget := range []int{0, 1, 2} {
		d.Budget(budget)
		saveRefused(t, d, s, api.ErrArg)
		d.Crash([]bool{true, true})
		loads(t, d, s)
	}
}

// A row of steps of any kind, held against a pair of sectors.

// twins are a device, and what its first two sectors tell, laid down and cached.
type twins struct {
	d            *device.Device
	laid, cached [2]*super.Super
	broken       bool
	budget       int
}

// seen is what a sector tells.
func (w *twins) seen(at int) *super.Super {
	if w.cached[at] != nil {
		return w.cached[at]
	}
	return w.laid[at]
}

// load is Load of the pair.
func (w *twins) load() told {
	a, b := w.seen(0), w.seen(1)
	switch {
	case w.broken:
		return told{e: api.ErrCrash}
	case a == nil && b == nil:
		return told{e: api.ErrName}
	case a == nil, b != nil && b.Version > a.Version:
		return told{s: *b}
	}
	return told{s: *a}
}

// spend takes one of the budget.
func (w *twins) spend() bool {
	w.broken = w.broken || w.budget == 0
	if w.budget > 0 {
		w.budget--
	}
	return !w.broken
}

// save is Save of the pair.
func (w *twins) save(s super.Super) told {
	if !plainSane(s) || s.Version == lastVersion {
		return told{e: api.ErrArg}
	}
	s.Version++
	if !w.spend() {
		return told{e: api.ErrCrash}
	}
	w.cached[s.Version%2] = &s
	if !w.spend() {
		return told{e: api.ErrCrash}
	}
	w.crash([]bool{true, true})
	return told{s: s}
}

// crash lays down those of the cached ones that are kept.
func (w *twins) crash(keep []bool) {
	for at, i := 0, 0; at < 2; at++ {
		if w.cached[at] == nil {
			continue
		}
		if keep[i] {
			w.laid[at] = w.cached[at]
		}
		w.cached[at] = nil
		i++
	}
}

// step takes one, of a kind that x tells.
func (w *twins) step(t *testing.T, x, y int) {
	t.Helper()
	switch x % 8 {
	case 0, 1, 2: // what is there, changed
		s := w.load().s
		s.Log, s.Epoch, s.Applied = y%300, s.Epoch+1, y
		w.saveBoth(t, s)
	case 3: // a Version of any kind
		w.saveBoth(t, of(y%8-1, x))
	case 4:
		w.d.Budget(y % 5)
		w.budget = y % 5
	default:
		keep := []bool{y&1 != 0, y&2 != 0}
		w.d.Crash(keep)
		w.crash(keep)
		w.broken, w.budget = false, -1
	}
	if got, want := toldBy(w.d), w.load(); got != want {
		t.Fatalf("Load = %+v, want %+v", got, want)
	}
}

// saveBoth saves in both.
func (w *twins) saveBoth(t *testing.T, s super.Super) {
	t.Helper()
	got, e := super.Save(w.d, s)
	if now, want := (told{got, e}), w.save(s); now != want {
		t.Fatalf("Save(%+v) = %+v, want %+v", s, now, want)
	}
}

func steps(t *testing.T, script []byte) {
	w := twins{d: made(t, 2), budget: -1}
	for i := 0; i+1 < len(script); i += 2 {
		w.step(t, int(script[i]), int(script[i+1]))
	}
}

func TestStepsOfAnyKind(t *testing.T) {
	for seed := range uint32(300) {
		steps(t, script(seed, 400))
	}
}

// What is handed in, and what is answered.

func TestWhatIsHandedInIsAsItWas(t *testing.T) {
	for _, b := range [][]byte{laid(some), laid(super.Super{}), make([]byte, 64), make([]byte, 63), make([]byte, 70), {}} {
		room := append(bytes.Clone(b), bytes.Repeat([]byte{0xEE}, 80)...)
		handed := room[:len(b)]
		super.Decode(handed)
		if !bytes.Equal(room[:len(b)], b) || !bytes.Equal(room[len(b):], bytes.Repeat([]byte{0xEE}, 80)) {
			t.Errorf("Decode has changed %v", b)
		}
	}
}

func TestEncodeIsNewMemory(t *testing.T) {
	a, _ := super.Encode(some)
	for i := range a[:cap(a)] {
		a[:cap(a)][i] = 0xEE
	}
	if b, e := super.Encode(some); e != api.OK || !bytes.Equal(b, laid(some)) {
		t.Error("what Encode answers is to be seen in its next answer")
	}
	decodes(t, laid(some), some, api.OK)
}

func TestWhatIsAnsweredIsNotInTheDevice(t *testing.T) {
	d := made(t, 4)
	s := saves(t, d, some)
	was := s
	s.Version, s.Log = 7, 7
	loads(t, d, was)
	again, _ := super.Load(d)
	again.Epoch = 7
	loads(t, d, was)
}

func TestNothingIsKept(t *testing.T) {
	a, b := made(t, 3), made(t, 3)
	s := saves(t, a, some)
	loadRefused(t, b, api.ErrName)
	other := saves(t, b, of(3, 4))
	loads(t, a, s)
	loads(t, b, other)
	for range 3 {
		saveRefused(t, a, most, api.ErrArg)
		decodes(t, laid(least), least, api.OK)
		decodes(t, make([]byte, 64), super.Super{}, api.ErrSum)
		loads(t, a, s)
	}
}

// The chapter's example.

func ExampleLoad() {
	d, _ := device.New(10)
	_, e := super.Load(d)
	fmt.Println(e == api.ErrName)
	// Output: true
}

// P1

func FuzzDecode(f *testing.F) {
	for _, s := range []super.Super{least, some, most, {}} {
		f.Add(laid(s), false)
		f.Add(laid(s)[:sumAt], true)
	}
	f.Add([]byte{}, true)
	f.Fuzz(func(t *testing.T, b []byte, seal bool) {
		if seal {
			b = sealed(b)
		}
		want, wantErr := plainDecode(b)
		decodes(t, b, want, wantErr)
		if wantErr == api.OK {
			if again, e := super.Encode(want); e != api.OK || !bytes.Equal(again, b) {
				t.Errorf("Encode(%+v) = %v, %v, want %v", want, again, e, b)
			}
		}
	})
}

func FuzzSuper(f *testing.F) {
	for _, s := range append(insane(), sane()...) {
		f.Add(s.Version, s.Epoch, s.Blocks, s.Counters, s.Log, s.Head, s.Applied)
	}
	f.Fuzz(func(t *testing.T, version, epoch, blocks, counters, log, head, applied int) {
		s := super.Super{Version: version, Epoch: epoch, Blocks: blocks, Counters: counters, Log: log, Head: head, Applied: applied}
		if super.Sane(s) != plainSane(s) {
			t.Fatalf("Sane(%+v) = %v", s, super.Sane(s))
		}
		d := made(t, 2)
		if !plainSane(s) {
			b, e := super.Encode(s)
			if len(b) != 0 || e != api.ErrArg || layoutOf(s) != (layout{}) {
				t.Errorf("Encode(%+v) = %v, %v; Layout = %v", s, b, e, layoutOf(s))
			}
			saveRefused(t, d, s, api.ErrArg)
			return
		}
		decodes(t, laid(s), s, api.OK)
		if version < lastVersion {
			loads(t, d, saves(t, d, s))
		}
	})
}

func FuzzSteps(f *testing.F) {
	for seed := range uint32(20) {
		f.Add(script(seed+1000, 90))
	}
	f.Fuzz(steps)
}
