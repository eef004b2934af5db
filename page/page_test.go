package page_test

import (
	"bytes"
	"encoding/binary"
	"fmt"
	"hash/crc32"
	"math"
	"slices"
	"testing"

	"heronry/api"
	"heronry/page"
)

const (
	least   = math.MinInt
	most    = math.MaxInt
	lastLsn = 2_199_023_255_552 // 2^41
	manyLsn = 1<<48 - 1         // as much as six bytes tell
)

// Where each thing stands in a sector.
const (
	lsnAt    = 2
	dataAt   = 8
	noDataAt = 40
	cellsAt  = 2
	cellLen  = 14
	noCellAt = 44
	sumAt    = 60
)

// someLsn has six bytes, no two of which are the same.
const someLsn = 0x010203040506

// lsns may be.
func lsns() []int {
	return []int{0, 1, 2, 255, 256, 65535, 65536, 1<<32 - 1, 1 << 32, 1 << 40, someLsn, lastLsn - 1, lastLsn}
}

// noLsns may not be.
func noLsns() []int {
	return []int{-1, -2, -lastLsn, -lastLsn - 1, least, least + 1, lastLsn + 1, lastLsn + 2, 1 << 42, 1 << 47, manyLsn, 1 << 48, 1<<48 + 1, 1<<63 - 1<<48, most - 1, most}
}

// farLsns may not be either, but six bytes tell them.
func farLsns() []int {
	return []int{lastLsn + 1, lastLsn + 2, lastLsn + 1<<32, 1 << 42, 1 << 47, 1<<47 + lastLsn, manyLsn - 1, manyLsn}
}

func values() []int {
	return []int{least, least + 1, -1 << 32, -2, -1, 0, 1, 2, 258, 1 << 32, 0x0102030405060708, most - 1, most}
}

func zeros(n int) []byte { return make([]byte, n) }

// pattern is as many bytes, each another one, and none of them 0.
func pattern(n int) []byte {
	b := make([]byte, n)
	for i := range b {
		b[i] = byte(i%255 + 1)
	}
	return b
}

// datas are blocks: all zeros, all 255, each byte by itself, and all unlike.
func datas() [][]byte {
	l := [][]byte{zeros(32), bytes.Repeat([]byte{255}, 32), pattern(32)}
	for i := range 32 {
		for _, v := range []byte{1, 'B', 128, 255} {
			b := zeros(32)
			b[i] = v
			l = append(l, b)
		}
	}
	return l
}

// someCells are three of which all bytes are unlike.
func someCells() [3]page.Cell {
	return [3]page.Cell{{0x0F0E0D0C0B0A0908, 0x010203040506}, {-0x1F1E1D1C1B1A1918, 0x001112131415}, {0x2F2E2D2C2B2A2928, 0x012223242526}}
}

// low are a number's low bytes, the lowest first.
func low(v, n int) []byte { return binary.LittleEndian.AppendUint64(nil, uint64(v))[:n] }

// sealed is a sector that begins with bytes: zeros behind these, and the right sum.
func sealed(parts ...[]byte) []byte {
	body := append(slices.Concat(parts...), zeros(sumAt)...)[:sumAt]
	return binary.LittleEndian.AppendUint32(body, crc32.ChecksumIEEE(body))
}

// laidBlock is a block's sector under a right sum, whether it may be or not, made without the layers below.
func laidBlock(lsn int, data []byte) []byte {
	return sealed([]byte{'B', 0}, low(lsn, 6), data)
}

// laidCells is likewise a sector of counters.
func laidCells(l [3]page.Cell) []byte {
	b := []byte{'C', 0}
	for _, c := range l {
		b = append(b, low(c.Value, 8)...)
		b = append(b, low(c.Lsn, 6)...)
	}
	return sealed(b)
}

func plainMay(lsn int) bool { return 0 <= lsn && lsn <= lastLsn }

func plainBlock(lsn int, data []byte) ([]byte, api.Errno) {
	if !plainMay(lsn) || len(data) != 32 {
		return nil, api.ErrArg
	}
	return laidBlock(lsn, data), api.OK
}

func plainCells(l [3]page.Cell) ([]byte, api.Errno) {
	if !plainMay(l[0].Lsn) || !plainMay(l[1].Lsn) || !plainMay(l[2].Lsn) {
		return nil, api.ErrArg
	}
	return laidCells(l), api.OK
}

// number is what bytes tell, the lowest first; below 0, if there are eight and the highest bit is 1.
func number(b []byte) int {
	v := 0
	for i, x := range b {
		v += int(x) << (8 * i)
	}
	return v
}

// isNothing: are all bytes 0?
func isNothing(b []byte) bool { return len(bytes.Trim(b, "\x00")) == 0 }

// plainForm is what is wrong with bytes, apart from Lsns, as a sector that begins with a letter and 0, and has only zeros from a place on up to its sum.
func plainForm(b []byte, letter byte, noneAt int) api.Errno {
	switch {
	case len(b) < 64:
		return api.ErrShort
	case len(b) > 64:
		return api.ErrForm
	case isNothing(b):
		return api.OK
	case binary.LittleEndian.Uint32(b[sumAt:]) != crc32.ChecksumIEEE(b[:sumAt]):
		return api.ErrSum
	case b[0] != letter, b[1] != 0, !isNothing(b[noneAt:sumAt]):
		return api.ErrForm
	}
	return api.OK
}

func plainOfBlock(b []byte) (int, []byte, api.Errno) {
	if e := plainForm(b, 'B', noDataAt); e != api.OK {
		return 0, nil, e
	}
	lsn := number(b[lsnAt:dataAt])
	if lsn > lastLsn {
		return 0, nil, api.ErrForm
	}
	return lsn, b[dataAt:noDataAt], api.OK
}

func plainOfCells(b []byte) ([3]page.Cell, api.Errno) {
	if e := plainForm(b, 'C', noCellAt); e != api.OK {
		return [3]page.Cell{}, e
	}
	var l [3]page.Cell
	for i := range l {
		cell := b[cellsAt+i*cellLen:][:cellLen]
		l[i] = page.Cell{Value: number(cell[:8]), Lsn: number(cell[8:])}
		if l[i].Lsn > lastLsn {
			return [3]page.Cell{}, api.ErrForm
		}
	}
	return l, api.OK
}

// roomy is bytes with marks behind them, and what lets both be held against what they were.
func roomy(t *testing.T, call string, b []byte) ([]byte, func()) {
	t.Helper()
	if b == nil {
		return nil, func() {}
	}
	whole := append(bytes.Clone(b), bytes.Repeat([]byte{0xEE}, 80)...)
	was := bytes.Clone(whole)
	return whole[:len(b)], func() {
		t.Helper()
		if !bytes.Equal(whole, was) {
			t.Fatalf("%s of %v left %v behind", call, was, whole)
		}
	}
}

// spoil writes over bytes, and over the room behind them.
func spoil(b []byte) {
	for i := range b[:cap(b)] {
		b[:cap(b)][i] ^= 255
	}
}

// The calls are held against the plain ones. What is handed in stays, also where the answer is written to; the answer stays, where what was handed in is.

func block(t *testing.T, lsn int, data []byte) ([]byte, api.Errno) {
	t.Helper()
	handed, stays := roomy(t, "Block", data)
	got, e := page.Block(lsn, handed)
	stays()
	want, wantErr := plainBlock(lsn, data)
	if !bytes.Equal(got, want) || e != wantErr || e != api.OK && got != nil {
		t.Fatalf("Block(%d, %v) = %v, %v, want %v, %v", lsn, data, got, e, want, wantErr)
	}
	spoil(handed)
	if !bytes.Equal(got, want) {
		t.Fatalf("Block(%d, %v) shares memory with the data", lsn, data)
	}
	spoil(handed)
	spoil(got)
	stays()
	return want, e
}

func ofBlock(t *testing.T, b []byte) (int, []byte, api.Errno) {
	t.Helper()
	handed, stays := roomy(t, "OfBlock", b)
	lsn, data, e := page.OfBlock(handed)
	stays()
	wantLsn, want, wantErr := plainOfBlock(b)
	if lsn != wantLsn || !bytes.Equal(data, want) || e != wantErr || e != api.OK && data != nil {
		t.Fatalf("OfBlock(%v) = %d, %v, %v, want %d, %v, %v", b, lsn, data, e, wantLsn, want, wantErr)
	}
	spoil(handed)
	if !bytes.Equal(data, want) {
		t.Fatalf("OfBlock(%v) shares memory with the sector", b)
	}
	spoil(handed)
	spoil(data)
	stays()
	return lsn, want, e
}

func cells(t *testing.T, l [3]page.Cell) ([]byte, api.Errno) {
	t.Helper()
	got, e := page.Cells(l)
	want, wantErr := plainCells(l)
	if !bytes.Equal(got, want) || e != wantErr || e != api.OK && got != nil {
		t.Fatalf("Cells(%v) = %v, %v, want %v, %v", l, got, e, want, wantErr)
	}
	spoil(got)
	return want, e
}

func ofCells(t *testing.T, b []byte) ([3]page.Cell, api.Errno) {
	t.Helper()
	handed, stays := roomy(t, "OfCells", b)
	l, e := page.OfCells(handed)
	stays()
	if want, wantErr := plainOfCells(b); l != want || e != wantErr {
		t.Fatalf("OfCells(%v) = %v, %v, want %v, %v", b, l, e, want, wantErr)
	}
	return l, e
}

// both asks for bytes in both ways.
func both(t *testing.T, b []byte) {
	t.Helper()
	ofBlock(t, b)
	ofCells(t, b)
}

// refused checks that both ways tell nothing but an error.
func refused(t *testing.T, b []byte, want api.Errno) {
	t.Helper()
	if lsn, data, e := page.OfBlock(b); lsn != 0 || data != nil || e != want {
		t.Errorf("OfBlock(%v) = %d, %v, %v, want %v", b, lsn, data, e, want)
	}
	if l, e := page.OfCells(b); l != ([3]page.Cell{}) || e != want {
		t.Errorf("OfCells(%v) = %v, %v, want %v", b, l, e, want)
	}
	both(t, b)
}

// laysBlock checks what Block lays.
func laysBlock(t *testing.T, lsn int, data, want []byte) {
	t.Helper()
	if got, e := block(t, lsn, data); !bytes.Equal(got, want) || e != api.OK {
		t.Errorf("Block(%d, %v) = %v, %v, want %v", lsn, data, got, e, want)
	}
}

func blockRefused(t *testing.T, lsn int, data []byte) {
	t.Helper()
	if got, e := block(t, lsn, data); got != nil || e != api.ErrArg {
		t.Errorf("Block(%d, %v) = %v, %v", lsn, data, got, e)
	}
}

// tellsBlock checks what OfBlock tells.
func tellsBlock(t *testing.T, b []byte, wantLsn int, want []byte) {
	t.Helper()
	if lsn, data, e := ofBlock(t, b); lsn != wantLsn || !bytes.Equal(data, want) || e != api.OK {
		t.Errorf("OfBlock(%v) = %d, %v, %v, want %d, %v", b, lsn, data, e, wantLsn, want)
	}
}

func cellsRefused(t *testing.T, l [3]page.Cell) {
	t.Helper()
	if got, e := cells(t, l); got != nil || e != api.ErrArg {
		t.Errorf("Cells(%v) = %v, %v", l, got, e)
	}
}

// tellsCells checks what OfCells tells.
func tellsCells(t *testing.T, b []byte, want [3]page.Cell) {
	t.Helper()
	if l, e := ofCells(t, b); l != want || e != api.OK {
		t.Errorf("OfCells(%v) = %v, %v, want %v", b, l, e, want)
	}
}

// P16.1

func TestBlockOfEachLsnThatMayBe(t *testing.T) {
	for _, lsn := range lsns() {
		for _, data := range datas() {
			laysBlock(t, lsn, data, laidBlock(lsn, data))
			tellsBlock(t, laidBlock(lsn, data), lsn, data)
		}
	}
}

func TestBlockOfALsnThatMayNotBe(t *testing.T) {
	for _, lsn := range noLsns() {
		for _, data := range datas()[:3] {
			blockRefused(t, lsn, data)
		}
	}
}

func TestBlockOfDataOfAnotherLength(t *testing.T) {
	for _, n := range []int{0, 1, 16, 30, 31, 33, 34, 63, 64, 65, 128, 65536} {
		for _, lsn := range lsns() {
			blockRefused(t, lsn, pattern(n))
			blockRefused(t, lsn, zeros(n))
		}
	}
	blockRefused(t, 0, nil)
	blockRefused(t, lastLsn, nil)
}

func TestBlockOfBothThatMayNotBe(t *testing.T) {
	for _, lsn := range noLsns() {
		for _, data := range [][]byte{nil, {}, pattern(31), pattern(33), pattern(64)} {
			blockRefused(t, lsn, data)
		}
	}
}

// TestBlockByteByByte has the bytes written out, in case what laidBlock lays is wrong in the same way.
func TestBlockByteByByte(t *testing.T) {
	for _, data := range datas() {
		b, e := page.Block(someLsn, data)
		if e != api.OK || len(b) != 64 {
			t.Fatalf("Block = %v, %v", b, e)
		}
		for at, want := range []byte{'B', 0, 6, 5, 4, 3, 2, 1} {
			if b[at] != want {
				t.Errorf("the byte %d is %d, want %d", at, b[at], want)
			}
		}
		for i, want := range data {
			if b[dataAt+i] != want {
				t.Errorf("the byte %d is %d, want %d", dataAt+i, b[dataAt+i], want)
			}
		}
		for at := noDataAt; at < sumAt; at++ {
			if b[at] != 0 {
				t.Errorf("the byte %d is %d", at, b[at])
			}
		}
		v := crc32.ChecksumIEEE(b[:60])
		if !bytes.Equal(b[60:], []byte{byte(v), byte(v >> 8), byte(v >> 16), byte(v >> 24)}) {
			t.Errorf("the sum is %v, want %#x", b[60:], v)
		}
	}
}

func TestBlockOfTheLastLsn(t *testing.T) {
	for lsn, want := range map[int][]byte{0: {0, 0, 0, 0, 0, 0}, 1: {1, 0, 0, 0, 0, 0}, lastLsn - 1: {255, 255, 255, 255, 255, 1}, lastLsn: {0, 0, 0, 0, 0, 2}} {
		if b, e := page.Block(lsn, zeros(32)); e != api.OK || !bytes.Equal(b[lsnAt:dataAt], want) {
			t.Errorf("Block(%d) = %v, %v", lsn, b, e)
		}
	}
}

func TestABlockOfNothing(t *testing.T) {
	b, e := page.Block(0, zeros(32))
	if e != api.OK || isNothing(b) || isNothing(b[:sumAt]) || isNothing(b[sumAt:]) {
		t.Errorf("Block of nothing = %v, %v", b, e)
	}
	tellsBlock(t, b, 0, zeros(32))
	tellsBlock(t, zeros(64), 0, zeros(32))
	tellsBlock(t, sealed([]byte{'B'}), 0, zeros(32))
}

func TestNothingIsToldAnew(t *testing.T) {
	_, one, _ := page.OfBlock(zeros(64))
	_, two, _ := page.OfBlock(zeros(64))
	if len(one) != 32 || len(two) != 32 {
		t.Fatal(one, two)
	}
	spoil(one)
	if !isNothing(two) {
		t.Error("two answers share memory")
	}
	tellsBlock(t, zeros(64), 0, zeros(32))
	tellsCells(t, zeros(64), [3]page.Cell{})
}

// Both

// whole are sectors of each kind.
func whole() [][]byte {
	l := [][]byte{zeros(64), laidBlock(0, zeros(32)), laidCells([3]page.Cell{}), laidCells(someCells())}
	for _, data := range datas()[:3] {
		l = append(l, laidBlock(someLsn, data), laidBlock(lastLsn, data))
	}
	return l
}

func TestSectorsOfEachLength(t *testing.T) {
	refused(t, nil, api.ErrShort)
	for _, b := range whole() {
		for n := range 64 {
			refused(t, b[:n], api.ErrShort)
		}
		for _, n := range []int{1, 2, 4, 36, 63, 64, 65, 1000, 65536} {
			refused(t, append(bytes.Clone(b), zeros(n)...), api.ErrForm)
			refused(t, append(zeros(n), b...), api.ErrForm)
		}
		refused(t, append(bytes.Clone(b), b...), api.ErrForm)
	}
}

func TestOtherLengthsUnderARightSum(t *testing.T) {
	for _, n := range []int{0, 1, 58, 59, 61, 62, 124} {
		for _, b := range whole() {
			body := append(bytes.Clone(b[:sumAt]), zeros(64)...)[:n]
			want := api.ErrShort
			if n > sumAt {
				want = api.ErrForm
			}
			refused(t, binary.LittleEndian.AppendUint32(body, crc32.ChecksumIEEE(body)), want)
		}
	}
}

// All zeros but for one byte: its sum does not hold.
func TestOneByteAmongZeros(t *testing.T) {
	for at := range 64 {
		for v := 1; v < 256; v++ {
			b := zeros(64)
			b[at] = byte(v)
			refused(t, b, api.ErrSum)
		}
	}
}

func TestOneByteAmongZerosUnderARightSum(t *testing.T) {
	refused(t, sealed(), api.ErrForm)
	for at := range sumAt {
		for v := 1; v < 256; v++ {
			body := zeros(sumAt)
			body[at] = byte(v)
			switch b := sealed(body); {
			case at == 0 && v == 'B':
				tellsBlock(t, b, 0, zeros(32))
				ofCells(t, b)
			case at == 0 && v == 'C':
				tellsCells(t, b, [3]page.Cell{})
				ofBlock(t, b)
			default:
				refused(t, b, api.ErrForm)
			}
		}
	}
}

func TestAnotherSum(t *testing.T) {
	for _, b := range whole() {
		for at := sumAt; at < 64; at++ {
			for turn := 1; turn < 256; turn++ {
				turned := bytes.Clone(b)
				turned[at] ^= byte(turn)
				refused(t, turned, api.ErrSum)
			}
		}
		for _, v := range []uint32{0, 1, 1 << 31, math.MaxUint32, ^binary.LittleEndian.Uint32(b[sumAt:])} {
			other := bytes.Clone(b)
			binary.LittleEndian.PutUint32(other[sumAt:], v)
			if !bytes.Equal(other, b) {
				refused(t, other, api.ErrSum)
			}
		}
	}
	for _, b := range whole()[1:] {
		slices.Reverse(b[sumAt:]) // the high byte first
		refused(t, b, api.ErrSum)
	}
	refused(t, bytes.Repeat([]byte{255}, 64), api.ErrSum)
	refused(t, bytes.Repeat([]byte("B\x00"), 32), api.ErrSum)
}

func TestEachByteTurned(t *testing.T) {
	for _, b := range whole() {
		for at := range 64 {
			for turn := 1; turn < 256; turn++ {
				turned := bytes.Clone(b)
				turned[at] ^= byte(turn)
				refused(t, turned, api.ErrSum)
			}
		}
	}
}

// What may not be another one has ErrForm, where the sum holds.
func TestEachByteTurnedUnderARightSum(t *testing.T) {
	for _, b := range whole()[1:] {
		isBlock, noneAt := b[0] == 'B', noCellAt
		if isBlock {
			noneAt = noDataAt
		}
		for at := range sumAt {
			for turn := 1; turn < 256; turn++ {
				body := bytes.Clone(b[:sumAt])
				body[at] ^= byte(turn)
				turned := sealed(body)
				both(t, turned)
				otherKind := at == 0 && (body[0] == 'B' || body[0] == 'C')
				if fixed := at < lsnAt || at >= noneAt; !fixed || otherKind {
					continue
				}
				refused(t, turned, api.ErrForm)
			}
		}
	}
}

func TestOtherNames(t *testing.T) {
	for _, name := range []string{"\x00\x00", "b\x00", "c\x00", "A\x00", "D\x00", "\x00B", "\x00C", "BB", "CC", "BC", "CB", "B\x01", "C\x01", "B0", "C0", "HE"} {
		for _, b := range whole() {
			body := bytes.Clone(b[:sumAt])
			copy(body, name)
			refused(t, sealed(body), api.ErrForm)
			refused(t, append(body, 1, 2, 3, 4), api.ErrSum)
		}
	}
}

// Each byte among those that are 0 ahead of the sum, by itself and with others.
func TestBytesWhereNoneAre(t *testing.T) {
	for _, v := range []byte{1, 128, 255} {
		for from := noCellAt; from < sumAt; from++ {
			for to := from + 1; to <= sumAt; to++ {
				for _, b := range whole()[1:] {
					body := bytes.Clone(b[:sumAt])
					copy(body[from:to], bytes.Repeat([]byte{v}, to-from))
					refused(t, sealed(body), api.ErrForm)
					refused(t, append(body, b[sumAt:]...), api.ErrSum)
				}
			}
		}
		for at := noDataAt; at < noCellAt; at++ {
			body := laidBlock(someLsn, pattern(32))[:sumAt]
			body[at] = v
			refused(t, sealed(body), api.ErrForm)
		}
	}
}

func TestTheOtherKind(t *testing.T) {
	for _, lsn := range lsns() {
		for _, data := range datas() {
			if l, e := ofCells(t, laidBlock(lsn, data)); l != ([3]page.Cell{}) || e != api.ErrForm {
				t.Errorf("OfCells of a block's = %v, %v", l, e)
			}
		}
		for _, value := range values() {
			if got, data, e := ofBlock(t, laidCells([3]page.Cell{{value, lsn}, {0, 0}, {value, 1}})); got != 0 || data != nil || e != api.ErrForm {
				t.Errorf("OfBlock of counters' = %d, %v, %v", got, data, e)
			}
		}
	}
}

func TestOfBlockOfALsnThatMayNotBe(t *testing.T) {
	for _, lsn := range farLsns() {
		for _, data := range datas() {
			b := laidBlock(lsn, data)
			refused(t, b, api.ErrForm)
			b[63]++
			refused(t, b, api.ErrSum)
		}
	}
}

// The errors come in order: that of the length, that of the sum, that of the form.
func TestTheOrderOfErrors(t *testing.T) {
	for _, bad := range [][]byte{laidBlock(manyLsn, pattern(64)), laidCells([3]page.Cell{{1, manyLsn}, {2, manyLsn}, {3, manyLsn}}), sealed([]byte("HERON1"))} {
		refused(t, bad[:63], api.ErrShort)
		refused(t, append(bytes.Clone(bad), 0), api.ErrForm)
		refused(t, bad, api.ErrForm)
		bad[61]++
		refused(t, bad[:63], api.ErrShort)
		refused(t, append(bytes.Clone(bad), 0), api.ErrForm)
		refused(t, bad, api.ErrSum)
	}
}

// P16.2

func TestCellsThatMayBe(t *testing.T) {
	for _, lsn := range lsns() {
		for _, value := range values() {
			for i := range 3 {
				for _, l := range [][3]page.Cell{{}, someCells()} {
					l[i] = page.Cell{Value: value, Lsn: lsn}
					if b, e := cells(t, l); e != api.OK || !bytes.Equal(b, laidCells(l)) {
						t.Errorf("Cells(%v) = %v, %v", l, b, e)
					}
					tellsCells(t, laidCells(l), l)
				}
			}
			all := [3]page.Cell{{value, lsn}, {value, lsn}, {value, lsn}}
			cells(t, all)
			tellsCells(t, laidCells(all), all)
		}
	}
}

func TestCellsOfALsnThatMayNotBe(t *testing.T) {
	for _, lsn := range noLsns() {
		for bits := 1; bits < 8; bits++ {
			for _, l := range [][3]page.Cell{{}, someCells()} {
				for i := range l {
					if bits>>i&1 == 1 {
						l[i].Lsn = lsn
					}
				}
				cellsRefused(t, l)
			}
		}
	}
}

func TestCellsByteByByte(t *testing.T) {
	want := []byte{
		'C', 0,
		0x08, 0x09, 0x0A, 0x0B, 0x0C, 0x0D, 0x0E, 0x0F, 6, 5, 4, 3, 2, 1,
		0xE8, 0xE6, 0xE5, 0xE4, 0xE3, 0xE2, 0xE1, 0xE0, 0x15, 0x14, 0x13, 0x12, 0x11, 0,
		0x28, 0x29, 0x2A, 0x2B, 0x2C, 0x2D, 0x2E, 0x2F, 0x26, 0x25, 0x24, 0x23, 0x22, 1,
		0, 0, 0, 0, 0, 0, 0, 0, 0, 0, 0, 0, 0, 0, 0, 0,
	}
	b, e := page.Cells(someCells())
	if e != api.OK || len(b) != 64 || !bytes.Equal(b[:60], want) {
		t.Fatalf("Cells = %v, %v, want %v", b, e, want)
	}
	v := crc32.ChecksumIEEE(want)
	if !bytes.Equal(b[60:], []byte{byte(v), byte(v >> 8), byte(v >> 16), byte(v >> 24)}) {
		t.Errorf("the sum is %v, want %#x", b[60:], v)
	}
}

func TestCellsOfSomeValues(t *testing.T) {
	for value, want := range map[int][]byte{
		0:     {0, 0, 0, 0, 0, 0, 0, 0},
		1:     {1, 0, 0, 0, 0, 0, 0, 0},
		-1:    {255, 255, 255, 255, 255, 255, 255, 255},
		least: {0, 0, 0, 0, 0, 0, 0, 128},
		most:  {255, 255, 255, 255, 255, 255, 255, 127},
	} {
		for i := range 3 {
			l := someCells()
			l[i].Value = value
			b, e := page.Cells(l)
			if at := cellsAt + i*cellLen; e != api.OK || !bytes.Equal(b[at:at+8], want) {
				t.Errorf("Cells(%v) = %v, %v", l, b, e)
			}
		}
	}
}

func TestCellsOfNothing(t *testing.T) {
	b, e := page.Cells([3]page.Cell{})
	if e != api.OK || isNothing(b) || isNothing(b[:sumAt]) || isNothing(b[sumAt:]) {
		t.Errorf("Cells of nothing = %v, %v", b, e)
	}
	tellsCells(t, b, [3]page.Cell{})
	tellsCells(t, zeros(64), [3]page.Cell{})
	if other, _ := page.Block(0, zeros(32)); bytes.Equal(b, other) {
		t.Error("a block of nothing is as three cells of it")
	}
}

func TestOfCellsOfALsnThatMayNotBe(t *testing.T) {
	for _, lsn := range farLsns() {
		for bits := 1; bits < 8; bits++ {
			for _, l := range [][3]page.Cell{{}, someCells()} {
				for i := range l {
					if bits>>i&1 == 1 {
						l[i].Lsn = lsn
					}
				}
				b := laidCells(l)
				refused(t, b, api.ErrForm)
				b[60]++
				refused(t, b, api.ErrSum)
			}
		}
	}
}

// P16.3

func TestPlaceOfEachCounter(t *testing.T) {
	sector, cell := 0, 0
	for counter := range 1000 {
		if s, c := page.Place(counter); s != sector || c != cell {
			t.Errorf("Place(%d) = %d, %d, want %d, %d", counter, s, c, sector, cell)
		}
		if cell++; cell == 3 {
			sector, cell = sector+1, 0
		}
	}
}

func TestPlaceOfSome(t *testing.T) {
	for counter, want := range map[int][2]int{
		0: {0, 0}, 1: {0, 1}, 2: {0, 2}, 3: {1, 0}, 4: {1, 1}, 5: {1, 2}, 62: {20, 2}, 63: {21, 0}, 64: {21, 1},
		most:     {3074457345618258602, 1},
		most - 1: {3074457345618258602, 0},
		most - 2: {3074457345618258601, 2},
		-1:       {-1, -1}, -2: {-1, -1}, -3: {-1, -1}, -4: {-1, -1}, -6: {-1, -1}, -64: {-1, -1},
		least: {-1, -1}, least + 1: {-1, -1}, least + 2: {-1, -1},
	} {
		if s, c := page.Place(counter); s != want[0] || c != want[1] {
			t.Errorf("Place(%d) = %d, %d, want %v", counter, s, c, want)
		}
	}
}

func TestNewerOfEachPair(t *testing.T) {
	l := []int{least, least + 1, -lastLsn, -2, -1, 0, 1, 2, 7, 8, lastLsn - 1, lastLsn, lastLsn + 1, most - 1, most}
	for i, lsn := range l {
		for j, at := range l { // they rise
			if got := page.Newer(lsn, at); got != (i < j) {
				t.Errorf("Newer(%d, %d) = %v", lsn, at, got)
			}
		}
	}
}

// P16.4

// turnEachBit checks that a sector with any one bit turned is told in neither way.
func turnEachBit(t *testing.T, b []byte) {
	t.Helper()
	for bit := range 8 * len(b) {
		turned := bytes.Clone(b)
		turned[bit/8] ^= 1 << (bit % 8)
		refused(t, turned, api.ErrSum)
	}
}

func TestASectorWithABitTurned(t *testing.T) {
	for _, b := range whole() {
		turnEachBit(t, b)
	}
	for seed := range uint32(300) {
		lsn, data := drawnBlock(seed)
		b, _ := page.Block(lsn, data)
		turnEachBit(t, b)
		b, _ = page.Cells(drawnCells(seed))
		turnEachBit(t, b)
	}
}

func TestThereAndBack(t *testing.T) {
	for seed := range uint32(20000) {
		lsn, data := drawnBlock(seed)
		b, e := block(t, lsn, data)
		if e != api.OK {
			t.Fatal(e)
		}
		tellsBlock(t, b, lsn, data)
		l := drawnCells(seed)
		if b, e = cells(t, l); e != api.OK {
			t.Fatal(e)
		}
		tellsCells(t, b, l)
	}
}

// What is told is laid as it was, whatever bytes are told: a sector has just one form, apart from the one of nothing.
func TestBackAndThere(t *testing.T) {
	toldBlocks, toldCells, refusals := 0, 0, 0
	for seed := range uint32(20000) {
		b := anySector(seed)
		lsn, data, e := ofBlock(t, b)
		l, f := ofCells(t, b)
		switch {
		case e == api.OK:
			laysBlock(t, lsn, data, b)
			toldBlocks++
		case f == api.OK:
			if again, e := cells(t, l); e != api.OK || !bytes.Equal(again, b) {
				t.Fatalf("Cells(%v) = %v, %v, want %v", l, again, e, b)
			}
			toldCells++
		default:
			refusals++
		}
	}
	if toldBlocks < 1000 || toldCells < 1000 || refusals < 1000 {
		t.Error(toldBlocks, toldCells, refusals)
	}
}

// script is bytes of any kind, the same ones for a seed.
func script(seed uint32, n int) []byte {
	b := make([]byte, n)
	for i := range b {
		seed = seed*1664525 + 1013904223
		b[i] = byte(seed >> 24)
	}
	return b
}

// drawnLsn is one that may be, small ones and great ones, by eight bytes.
func drawnLsn(b []byte) int {
	v := int(binary.LittleEndian.Uint64(b) >> 1)
	return v >> (v % 7 * 8) % (lastLsn + 1)
}

func drawnBlock(seed uint32) (int, []byte) {
	b := script(seed, 40)
	return drawnLsn(b), b[8:]
}

func drawnCells(seed uint32) [3]page.Cell {
	var l [3]page.Cell
	b := script(seed+77777, 51)
	for i := range l {
		x := b[i*17:]
		l[i] = page.Cell{Value: int(binary.LittleEndian.Uint64(x)) >> (x[16] % 64), Lsn: drawnLsn(x[8:])}
	}
	return l
}

// anySector is one of any kind: sectors that may be, with some bytes that are others, mostly under a right sum.
func anySector(seed uint32) []byte {
	x := script(seed+5000, 8)
	lsn, data := drawnBlock(seed)
	b := laidBlock(lsn, data)
	if x[0]%2 == 0 {
		b = laidCells(drawnCells(seed))
	}
	for i := range int(x[1]) % 3 {
		b[int(x[2+2*i])%sumAt] ^= x[3+2*i] >> (x[6] % 8)
	}
	if x[7]%8 > 0 {
		b = sealed(b[:sumAt])
	}
	return b
}

// P1

func TestBytesOfAnyKind(t *testing.T) {
	for seed := range uint32(20000) {
		x := script(seed+1<<20, 90)
		n := 64
		if x[0]%4 == 0 {
			n = int(x[1]) % 90
		}
		b := x[:n]
		if x[1]%4 == 0 && n == 64 {
			b[0], b[1] = 'B'+b[0]%2, 0
			b = sealed(b[:sumAt])
		}
		both(t, b)
	}
}

// pinned are numbers at edges, and between.
func pinned() []int {
	return slices.Concat(lsns(), noLsns(), values(), []int{3, 4, 5, 62, 63, 64, 1 << 62, -1 << 62})
}

func TestNumbersOfAnyKind(t *testing.T) {
	for _, a := range pinned() {
		for n := range 70 {
			block(t, a, pattern(n))
		}
		page.Place(a)
		for _, b := range pinned() {
			page.Newer(a, b)
			cells(t, [3]page.Cell{{a, b}, {b, a}, {a, a}})
			cells(t, [3]page.Cell{{a, 0}, {b, 0}, {0, b}})
		}
	}
}

// What is kept: nothing.

func TestNothingIsKept(t *testing.T) {
	one, _ := page.Block(5, pattern(32))
	two, _ := page.Cells(someCells())
	lsn, data, _ := page.OfBlock(one)
	for range 3 {
		page.Block(lastLsn, bytes.Repeat([]byte{255}, 32))
		page.Block(-1, nil)
		page.Cells([3]page.Cell{{1, 1}, {2, 2}, {3, 3}})
		both(t, laidBlock(9, zeros(32)))
		both(t, zeros(64))
		both(t, nil)
		if !bytes.Equal(one, laidBlock(5, pattern(32))) || !bytes.Equal(two, laidCells(someCells())) || lsn != 5 || !bytes.Equal(data, pattern(32)) {
			t.Fatal(one, two, lsn, data)
		}
		tellsBlock(t, one, 5, pattern(32))
		tellsCells(t, two, someCells())
	}
}

func TestAnswersShareNone(t *testing.T) {
	sector := laidBlock(5, pattern(32))
	lsn, one, _ := page.OfBlock(sector)
	_, two, _ := page.OfBlock(sector)
	again, _ := page.Block(lsn, one)
	l, _ := page.Cells(someCells())
	m, _ := page.Cells(someCells())
	for i, b := range [][]byte{one, two, again, l, m, sector} {
		spoil(b)
		for j, other := range [][]byte{one, two, again, l, m, sector} {
			want := [][]byte{pattern(32), pattern(32), laidBlock(5, pattern(32)), laidCells(someCells()), laidCells(someCells()), laidBlock(5, pattern(32))}[j]
			if i != j && !bytes.Equal(other, want) {
				t.Errorf("%d shares with %d", i, j)
			}
		}
		spoil(b)
	}
}

// The chapter's example.

func ExampleBlock() {
	data := []byte("heronry heronry heronry heronry ")
	sector, _ := page.Block(5, data)
	lsn, told, e := page.OfBlock(sector)
	fmt.Println(len(sector), lsn, bytes.Equal(told, data), e == api.OK)
	// Output: 64 5 true true
}

func FuzzRead(f *testing.F) {
	for _, b := range whole() {
		f.Add(b, false)
		f.Add(b[:sumAt], true)
	}
	for seed := range uint32(20) {
		f.Add(anySector(seed), seed%2 == 0)
	}
	f.Add([]byte{}, true)
	f.Fuzz(func(t *testing.T, b []byte, seal bool) {
		if seal {
			b = sealed(b)
		}
		both(t, b)
	})
}

func FuzzLay(f *testing.F) {
	f.Add(5, 6, 7, -1, 0, 1, pattern(32))
	f.Add(0, 0, 0, 0, 0, 0, zeros(32))
	f.Add(lastLsn, lastLsn-1, lastLsn, least, most, 0, pattern(31))
	f.Add(lastLsn+1, -1, most, 1, 2, 3, pattern(33))
	f.Add(least, most, 0, -1, -2, -3, []byte{})
	f.Fuzz(func(t *testing.T, a, b, c, x, y, z int, data []byte) {
		if sector, e := block(t, a, data); e == api.OK {
			tellsBlock(t, sector, a, data)
			turnEachBit(t, sector)
		}
		l := [3]page.Cell{{x, a}, {y, b}, {z, c}}
		if sector, e := cells(t, l); e == api.OK {
			tellsCells(t, sector, l)
			turnEachBit(t, sector)
		}
		if s, cell := page.Place(x); x < 0 && (s != -1 || cell != -1) || x >= 0 && (s < 0 || cell < 0 || cell > 2 || 3*s+cell != x) {
			t.Errorf("Place(%d) = %d, %d", x, s, cell)
		}
		if page.Newer(a, b) != (b > a) {
			t.Errorf("Newer(%d, %d)", a, b)
		}
	})
}
