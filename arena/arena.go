// Package arena is layer 1: see shared/doc/01-arena.md.
package arena

import (
	"turnbuckle/api"
)

const maxLen = api.MaxPages * api.PageSize

var widths = [...]int{1, 2, 4, 8}

// Arena is a memory of a fixed number of bytes, each at its offset.
type Arena struct {
	data []byte
}

// New makes an arena of n bytes, all 0.
func New(n int) (*Arena, api.Errno) {
	if n < 0 || n > maxLen {
		return nil, api.ErrArg
	}
	return &Arena{data: make([]byte, n)}, api.OK
}

// Len is how many bytes there are.
func (a *Arena) Len() int {
	return len(a.memory())
}

// Load is the number of that width at an offset, its lowest byte first.
func (a *Arena) Load(at, width int) (uint64, api.Errno) {
	if !isWidth(width) {
		return 0, api.ErrArg
	}
	part, err := a.part(at, width)
	if err != api.OK {
		return 0, err
	}
	var v uint64
	for i := range width {
		v |= uint64(part[i]) << (8 * i)
	}
	return v, api.OK
}

// Store lays the low bytes of a number down, its lowest byte first.
func (a *Arena) Store(at, width int, v uint64) api.Errno {
	if !isWidth(width) {
		return api.ErrArg
	}
	part, err := a.part(at, width)
	if err != api.OK {
		return err
	}
	for i := range width {
		part[i] = byte(v >> (8 * i))
	}
	return api.OK
}

// Fill sets n bytes to v.
func (a *Arena) Fill(at, n int, v byte) api.Errno {
	part, err := a.part(at, n)
	if err != api.OK {
		return err
	}
	for i := range n {
		part[i] = v
	}
	return api.OK
}

// Bytes is a copy of n bytes.
func (a *Arena) Bytes(at, n int) ([]byte, api.Errno) {
	part, err := a.part(at, n)
	if err != api.OK {
		return nil, err
	}
	out := make([]byte, n)
	copy(out, part)
	return out, api.OK
}

// memory stands between a nil Arena, which has no bytes, and its field.
func (a *Arena) memory() []byte {
	if a == nil {
		return nil
	}
	return a.data
}

// part is n bytes of the arena itself, so it never leaves the package.
func (a *Arena) part(at, n int) ([]byte, api.Errno) {
	if n < 0 {
		return nil, api.ErrArg
	}
	// at + n could overflow; Len - n can't, as neither is negative.
	if at < 0 || at > a.Len()-n {
		return nil, api.ErrRange
	}
	return a.memory()[at : at+n], api.OK
}

func isWidth(width int) bool {
	for _, w := range widths {
		if w == width {
			return true
		}
	}
	return false
}
