// Package wire is layer 1, numbers in bytes: see shared/doc/01-wire.md.
package wire

import "heronry/api"

const (
	wide     = 8     // bytes of the widest number
	countLen = 2     // bytes that tell how many a list has
	mostList = 65535 // as many as these can tell
)

// Put lays a number's low bytes, the lowest first.
func Put(b []byte, v uint64, n int) []byte {
	n = min(max(n, 0), wide)
	out := grown(b, n)
	for range n {
		out = append(out, byte(v))
		v >>= 8
	}
	return out
}

// Signed lays a number that may be below 0.
func Signed(b []byte, v int) []byte { return Put(b, uint64(v), wide) }

// List lays bytes, and how many they are.
func List(b []byte, v []byte) []byte {
	if len(v) > mostList {
		return grown(b, 0)
	}
	out := grown(b, countLen+len(v))
	out = append(out, byte(len(v)), byte(len(v)>>8))
	return append(out, v...)
}

// grown is a copy of b with room for n bytes more: to append to b itself would write into memory that the caller may still use.
func grown(b []byte, n int) []byte {
	return append(make([]byte, 0, len(b)+n), b...)
}

// cursor is bytes, and how many of them are behind.
type cursor struct {
	b  []byte
	at int
}

// left is how many bytes are ahead.
func (c *cursor) left() int { return len(c.b) - c.at }

// take goes over n bytes; it tells parts of the cursor's own, not new ones.
func (c *cursor) take(n int) ([]byte, api.Errno) {
	if n > c.left() {
		return nil, api.ErrShort
	}
	from := c.at
	c.at += n
	return c.b[from:c.at], api.OK
}

// number goes over a number of n bytes, the lowest first.
func (c *cursor) number(n int) (uint64, api.Errno) {
	b, e := c.take(n)
	v := uint64(0)
	for i, x := range b {
		v |= uint64(x) << (8 * i)
	}
	return v, e
}

// list goes over bytes and their count, which is held against most before the bytes are asked for.
func (c *cursor) list(most int) ([]byte, api.Errno) {
	n, e := c.number(countLen)
	if e != api.OK {
		return nil, e
	}
	if int(n) > most {
		return nil, api.ErrForm
	}
	return c.take(int(n))
}

// Reader goes over bytes. It is moved on by putting back a copy of its cursor, so that an error leaves the place as it was.
type Reader struct{ cursor }

// New is a reader of bytes.
func New(b []byte) *Reader { return &Reader{cursor{b: b}} }

// here is a copy of the cursor; a nil reader's has no bytes.
func (r *Reader) here() cursor {
	if r == nil {
		return cursor{}
	}
	return r.cursor
}

// Get is a number of so many bytes.
func (r *Reader) Get(n int) (uint64, api.Errno) {
	if n < 1 || n > wide {
		return 0, api.ErrArg
	}
	c := r.here()
	v, e := c.number(n)
	if e != api.OK {
		return 0, e
	}
	r.cursor = c
	return v, api.OK
}

// Signed is a number that may be below 0.
func (r *Reader) Signed() (int, api.Errno) {
	v, e := r.Get(wide)
	return int(v), e
}

// List is bytes of which is told how many they are.
func (r *Reader) List(most int) ([]byte, api.Errno) {
	c := r.here()
	b, e := c.list(most)
	if e != api.OK {
		return nil, e
	}
	r.cursor = c
	return grown(b, 0), api.OK
}

// Left is how many bytes are.
func (r *Reader) Left() int {
	c := r.here()
	return c.left()
}

// End: is there none left?
func (r *Reader) End() api.Errno {
	if r.Left() > 0 {
		return api.ErrForm
	}
	return api.OK
}
