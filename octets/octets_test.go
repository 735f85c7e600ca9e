package octets

import (
	"bytes"
	"encoding/binary"
	"testing"
)

var numbers = []uint64{0, 1, 0xff, 0x100, 0x1234, 0xffff, 1 << 16, 0x89abcdef, 1<<32 - 1, 1 << 32, 0x0123456789abcdef, 1<<63 + 5, 1<<64 - 1}

func TestLayAndAppend(t *testing.T) {
	for _, x := range numbers {
		whole := binary.BigEndian.AppendUint64(nil, x)
		for n := range 9 {
			want := whole[8-n:]
			got := bytes.Repeat([]byte{0x77}, n)
			Lay(got, x)
			if !bytes.Equal(got, want) {
				t.Errorf("Lay of %x in %d bytes: %x, want %x", x, n, got, want)
			}
			got = Append([]byte("ahead"), x, n)
			if string(got[:5]) != "ahead" || !bytes.Equal(got[5:], want) {
				t.Errorf("Append of %x in %d bytes: %x, want %x", x, n, got, want)
			}
		}
	}
}

func TestLayOfMoreBytesThanANumberHas(t *testing.T) {
	got := bytes.Repeat([]byte{0x77}, 11)
	Lay(got, 0xfedcba9876543210)
	if want := []byte{0, 0, 0, 0xfe, 0xdc, 0xba, 0x98, 0x76, 0x54, 0x32, 0x10}; !bytes.Equal(got, want) {
		t.Errorf("Lay in 11 bytes: %x, want %x", got, want)
	}
}

func TestRead(t *testing.T) {
	for _, x := range numbers {
		if got := Read(Append(nil, x, 8)); got != x {
			t.Errorf("Read of %x: %x", x, got)
		}
	}
	for _, s := range []struct {
		b    []byte
		want uint64
	}{
		{nil, 0},
		{[]byte{0xfe}, 0xfe},
		{[]byte{0, 0, 7}, 7},
		{[]byte{1, 2, 3}, 0x010203},
		{[]byte{9, 1, 2, 3, 4, 5, 6, 7, 8}, 0x0102030405060708},
	} {
		if got := Read(s.b); got != s.want {
			t.Errorf("Read of %x: %x, want %x", s.b, got, s.want)
		}
	}
}
