// Package tlv is layer 2: see shared/doc/02-tlv.md.
package tlv

import (
	"bytes"
	"slices"

	"moneyer/api"
	"moneyer/octets"
)

// Record is a value of a type.
type Record struct {
	Type  uint64
	Value []byte
}

// The first bytes of the numbers that have more than one; any lower one is the number itself.
const (
	markTwo   = 253
	markFour  = 254
	markEight = 255
)

// Size is a number's bytes: as few as it needs.
func Size(x uint64) []byte {
	return putNumber(nil, x)
}

// putNumber is bytes with a number's bytes behind them.
func putNumber(b []byte, x uint64) []byte {
	switch {
	case x < markTwo:
		return append(b, byte(x))
	case x < 1<<16:
		return octets.Append(append(b, markTwo), x, 2)
	case x < 1<<32:
		return octets.Append(append(b, markFour), x, 4)
	}
	return octets.Append(append(b, markEight), x, 8)
}

// Read is the number with which bytes begin, and how many bytes it has.
func Read(b []byte) (uint64, int, api.Errno) {
	if len(b) == 0 {
		return 0, 0, api.ErrShort
	}
	n, least := form(b[0])
	if len(b) < n {
		return 0, 0, api.ErrShort
	}
	if n == 1 {
		return uint64(b[0]), 1, api.OK
	}
	x := octets.Read(b[1:n])
	if x < least {
		return 0, 0, api.ErrForm
	}
	return x, n, api.OK
}

// form is how many bytes a number has by its first one, and the least number that needs so many.
func form(first byte) (int, uint64) {
	switch first {
	case markTwo:
		return 3, markTwo
	case markFour:
		return 5, 1 << 16
	case markEight:
		return 9, 1 << 32
	}
	return 1, 0
}

// Encode is records' bytes: their types rise.
func Encode(list []Record) ([]byte, api.Errno) {
	if err := check(list); err != api.OK {
		return nil, err
	}
	var b []byte
	for _, r := range list {
		b = putNumber(b, r.Type)
		b = putNumber(b, uint64(len(r.Value)))
		b = append(b, r.Value...)
	}
	return b, api.OK
}

// check tells why records can't be put into bytes.
func check(list []Record) api.Errno {
	if len(list) > api.MaxList {
		return api.ErrMany
	}
	for i, r := range list {
		if !rises(list[:i], r.Type) {
			return api.ErrOrder
		}
		if len(r.Value) > api.MaxBytes {
			return api.ErrLong
		}
	}
	return api.OK
}

// rises tells whether a type is above that of the last of the records ahead of it.
func rises(ahead []Record, t uint64) bool {
	return len(ahead) == 0 || t > ahead[len(ahead)-1].Type
}

// Decode is the records of bytes.
func Decode(b []byte) ([]Record, api.Errno) {
	var list []Record
	for len(b) > 0 {
		r, n, err := next(b, list)
		if err != api.OK {
			return nil, err
		}
		list = append(list, r)
		b = b[n:]
	}
	return list, api.OK
}

// next is the record with which bytes begin, behind those ahead of it, and how many bytes it has.
func next(b []byte, ahead []Record) (Record, int, api.Errno) {
	t, head, err := Read(b)
	if err != api.OK {
		return Record{}, 0, err
	}
	if !rises(ahead, t) {
		return Record{}, 0, api.ErrOrder
	}
	size, n, err := Read(b[head:])
	if err != api.OK {
		return Record{}, 0, err
	}
	head += n
	if size > api.MaxBytes {
		return Record{}, 0, api.ErrLong
	}
	if size > uint64(len(b)-head) {
		return Record{}, 0, api.ErrShort
	}
	// The bound comes last: what is wrong with the record itself is told ahead of it.
	if len(ahead) == api.MaxList {
		return Record{}, 0, api.ErrMany
	}
	end := head + int(size)
	return Record{Type: t, Value: bytes.Clone(b[head:end])}, end, api.OK
}

// Must tells whether all records of an even type are known: one of an odd one need not be.
func Must(list []Record, known ...uint64) api.Errno {
	for _, r := range list {
		if r.Type%2 == 0 && !slices.Contains(known, r.Type) {
			return api.ErrMust
		}
	}
	return api.OK
}

// Find is the value of a type.
func Find(list []Record, t uint64) ([]byte, bool) {
	for _, r := range list {
		if r.Type == t {
			return bytes.Clone(r.Value), true
		}
	}
	return nil, false
}
