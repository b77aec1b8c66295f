package pack

import (
	"bytes"

	"turnstile/api"
)

// Reader takes numbers and texts off the front of bytes. Behind a fault it answers zeros.
// Its calls ask for a nil reader themselves, since that has no cursor whose methods could be called.
type Reader struct {
	cursor
}

// NewReader: a reader of b.
func NewReader(b []byte) *Reader {
	return &Reader{cursor{left: bytes.Clone(b)}}
}

// U8, U16, U32, U64, Text, Number: what stands at the front.
func (r *Reader) U8() uint8 {
	if r == nil {
		return 0
	}
	return uint8(r.whole(1))
}

func (r *Reader) U16() uint16 {
	if r == nil {
		return 0
	}
	return uint16(r.whole(2))
}

func (r *Reader) U32() uint32 {
	if r == nil {
		return 0
	}
	return uint32(r.whole(4))
}

func (r *Reader) U64() uint64 {
	if r == nil {
		return 0
	}
	return r.whole(8)
}

func (r *Reader) Text() string {
	if r == nil {
		return ""
	}
	return r.text()
}

func (r *Reader) Number() uint64 {
	if r == nil {
		return 0
	}
	return r.number()
}

// Left: how many bytes are left.
func (r *Reader) Left() int {
	if r == nil {
		return 0
	}
	return len(r.left)
}

// Err: the first fault; ErrShort, ErrForm.
func (r *Reader) Err() error {
	if r == nil {
		return api.ErrNil
	}
	return r.fault
}

// End: the first fault, or ErrForm if bytes are left.
func (r *Reader) End() error {
	if fault := r.Err(); fault != nil {
		return fault
	}
	if r.Left() > 0 {
		return api.ErrForm
	}
	return nil
}
