package tlv

import (
	"bytes"
	"slices"
	"testing"

	"moneyer/api"
)

const top = 1<<64 - 1

// sizes are numbers at both sides of each edge, and their bytes.
var sizes = []struct {
	x uint64
	b []byte
}{
	{0, []byte{0}},
	{1, []byte{1}},
	{252, []byte{0xfc}},
	{253, []byte{0xfd, 0, 0xfd}},
	{254, []byte{0xfd, 0, 0xfe}},
	{255, []byte{0xfd, 0, 0xff}},
	{0x1234, []byte{0xfd, 0x12, 0x34}},
	{1<<16 - 1, []byte{0xfd, 0xff, 0xff}},
	{1 << 16, []byte{0xfe, 0, 1, 0, 0}},
	{0x12345678, []byte{0xfe, 0x12, 0x34, 0x56, 0x78}},
	{1<<32 - 1, []byte{0xfe, 0xff, 0xff, 0xff, 0xff}},
	{1 << 32, []byte{0xff, 0, 0, 0, 1, 0, 0, 0, 0}},
	{0x123456789abcdef0, []byte{0xff, 0x12, 0x34, 0x56, 0x78, 0x9a, 0xbc, 0xde, 0xf0}},
	{top, []byte{0xff, 0xff, 0xff, 0xff, 0xff, 0xff, 0xff, 0xff, 0xff}},
}

func equal(a, b []Record) bool {
	return slices.EqualFunc(a, b, func(r, s Record) bool {
		return r.Type == s.Type && bytes.Equal(r.Value, s.Value)
	})
}

// join is pieces of bytes, one behind the other.
func join(parts ...[]byte) []byte { return bytes.Join(parts, nil) }

// rising is n records of the types from 0 on, each with two bytes of its own.
func rising(n int) []Record {
	list := make([]Record, n)
	for i := range list {
		list[i] = Record{Type: uint64(i), Value: []byte{byte(i), byte(i >> 8)}}
	}
	return list
}

// risingBytes is the same as bytes, as long as it may be.
func risingBytes(n int) []byte {
	var b []byte
	for _, r := range rising(n) {
		b = join(b, Size(r.Type), []byte{2}, r.Value)
	}
	return b
}

// P2.1

func TestSizeAndRead(t *testing.T) {
	for _, s := range sizes {
		if got := Size(s.x); !bytes.Equal(got, s.b) {
			t.Errorf("Size(%d): % x, want % x", s.x, got, s.b)
		}
		for _, behind := range [][]byte{nil, {0}, {0xff, 7, 7}} {
			if x, n, e := Read(join(s.b, behind)); x != s.x || n != len(s.b) || e != api.OK {
				t.Errorf("Read(% x, % x): %d %d %d", s.b, behind, x, n, e)
			}
		}
	}
}

func TestReadShort(t *testing.T) {
	for _, s := range sizes {
		for n := range s.b {
			if x, m, e := Read(s.b[:n]); x != 0 || m != 0 || e != api.ErrShort {
				t.Errorf("Read(% x): %d %d %d, want ErrShort", s.b[:n], x, m, e)
			}
		}
	}
	if _, _, e := Read(nil); e != api.ErrShort {
		t.Errorf("Read(nil): %d", e)
	}
	// It is told ahead of the form, which can't be known.
	if _, _, e := Read([]byte{0xff, 0, 0}); e != api.ErrShort {
		t.Errorf("Read(ff 00 00): %d", e)
	}
}

func TestReadForm(t *testing.T) {
	for _, b := range [][]byte{
		{0xfd, 0, 0},
		{0xfd, 0, 0xfc},
		{0xfe, 0, 0, 0, 0},
		{0xfe, 0, 0, 0, 0xfd},
		{0xfe, 0, 0, 0xff, 0xff},
		{0xff, 0, 0, 0, 0, 0, 0, 0, 0},
		{0xff, 0, 0, 0, 0, 0, 1, 0, 0},
		{0xff, 0, 0, 0, 0, 0xff, 0xff, 0xff, 0xff},
	} {
		if x, n, e := Read(b); x != 0 || n != 0 || e != api.ErrForm {
			t.Errorf("Read(% x): %d %d %d, want ErrForm", b, x, n, e)
		}
	}
}

// P2.2

func TestEncode(t *testing.T) {
	long := bytes.Repeat([]byte{9}, 300)
	for _, x := range []struct {
		list []Record
		want []byte
	}{
		{nil, nil},
		{[]Record{{}}, []byte{0, 0}},
		{[]Record{{Type: 1, Value: []byte("ab")}}, []byte{1, 2, 'a', 'b'}},
		{[]Record{{Type: 2}, {Type: 252, Value: []byte{5}}, {Type: 253, Value: []byte{}}}, []byte{2, 0, 252, 1, 5, 253, 0, 253, 0}},
		{[]Record{{Type: 0, Value: long}, {Type: top, Value: []byte{1}}}, join([]byte{0, 253, 1, 44}, long, bytes.Repeat([]byte{255}, 9), []byte{1, 1})},
	} {
		if got, e := Encode(x.list); e != api.OK || !bytes.Equal(got, x.want) {
			t.Errorf("Encode(%v): % x %d, want % x", x.list, got, e, x.want)
		}
	}
}

func TestEncodeEdges(t *testing.T) {
	whole := make([]byte, api.MaxBytes)
	whole[0], whole[api.MaxBytes-1] = 1, 2
	got, e := Encode([]Record{{Type: 3, Value: whole}})
	if want := join([]byte{3, 0xfe, 0, 1, 0, 0}, whole); e != api.OK || !bytes.Equal(got, want) {
		t.Error("Encode of MaxBytes", e, len(got))
	}
	got, e = Encode(rising(api.MaxList))
	if e != api.OK || !bytes.Equal(got, risingBytes(api.MaxList)) {
		t.Error("Encode of MaxList", e, len(got))
	}
}

func TestEncodeRefuses(t *testing.T) {
	long := make([]byte, api.MaxBytes+1)
	many := rising(api.MaxList + 1)
	manyBad := rising(api.MaxList + 1)
	manyBad[1] = Record{Type: 0, Value: long}
	for i, x := range []struct {
		list []Record
		e    api.Errno
	}{
		{many, api.ErrMany},
		{manyBad, api.ErrMany},
		{[]Record{{Type: 2}, {Type: 2}}, api.ErrOrder},
		{[]Record{{Type: 0}, {Type: 0}}, api.ErrOrder},
		{[]Record{{Type: 1}, {Type: 5}, {Type: 4}}, api.ErrOrder},
		{[]Record{{Type: top}, {Type: 0}}, api.ErrOrder},
		{[]Record{{Type: 1, Value: long}}, api.ErrLong},
		{[]Record{{Type: 1}, {Type: 2, Value: long}}, api.ErrLong},
		// Of one record the order is told first, of two the first one's fault.
		{[]Record{{Type: 2}, {Type: 1, Value: long}}, api.ErrOrder},
		{[]Record{{Type: 2, Value: long}, {Type: 1}}, api.ErrLong},
	} {
		if got, e := Encode(x.list); e != x.e || len(got) != 0 {
			t.Errorf("Encode %d: %d bytes, %d, want %d", i, len(got), e, x.e)
		}
	}
}

// P2.3

func TestDecode(t *testing.T) {
	whole := bytes.Repeat([]byte{7}, api.MaxBytes)
	for i, list := range [][]Record{
		nil,
		{{}},
		{{Type: 1, Value: []byte("ab")}, {Type: 2}, {Type: 253, Value: []byte{0}}, {Type: top, Value: whole[:300]}},
		{{Type: 4, Value: whole}, {Type: 5, Value: whole[1:]}},
		rising(api.MaxList),
	} {
		b, e := Encode(list)
		got, f := Decode(b)
		if e != api.OK || f != api.OK || !equal(got, list) {
			t.Errorf("Decode %d: %d records, %d %d", i, len(got), e, f)
		}
	}
	got, e := Decode([]byte{0, 0, 3, 2, 'a', 'b', 253, 1, 0, 1, 'c'})
	if want := []Record{{}, {Type: 3, Value: []byte("ab")}, {Type: 256, Value: []byte("c")}}; e != api.OK || !equal(got, want) {
		t.Errorf("Decode: %v %d", got, e)
	}
	for _, empty := range [][]byte{nil, {}} {
		if got, e := Decode(empty); e != api.OK || len(got) != 0 {
			t.Errorf("Decode of nothing: %v %d", got, e)
		}
	}
}

func TestDecodeRefuses(t *testing.T) {
	full := risingBytes(api.MaxList)
	next := Size(api.MaxList)
	overLong := []byte{0xfe, 0, 1, 0, 1}
	for i, x := range []struct {
		b []byte
		e api.Errno
	}{
		// The Type's own errors.
		{[]byte{0xfd}, api.ErrShort},
		{[]byte{0xfd, 0, 0xfc, 0}, api.ErrForm},
		{[]byte{1, 0, 0xfe, 0, 0, 0}, api.ErrShort},
		// The order is told ahead of what is wrong with the bytes.
		{[]byte{1, 0, 1, 0}, api.ErrOrder},
		{[]byte{0, 0, 0, 0}, api.ErrOrder},
		{[]byte{5, 1, 9, 4, 0}, api.ErrOrder},
		{[]byte{5, 0, 5}, api.ErrOrder},
		{[]byte{5, 0, 4, 0xfd, 0, 0}, api.ErrOrder},
		// The errors of the number of bytes.
		{[]byte{1}, api.ErrShort},
		{[]byte{1, 0xfd, 1}, api.ErrShort},
		{[]byte{1, 0xfd, 0, 1, 7}, api.ErrForm},
		// Too long is told, be the bytes there or not.
		{join([]byte{1}, overLong), api.ErrLong},
		{join([]byte{1}, overLong, make([]byte, api.MaxBytes+1)), api.ErrLong},
		{join([]byte{1}, Size(1<<63)), api.ErrLong},
		{join([]byte{1}, Size(top)), api.ErrLong},
		// Fewer bytes than it says.
		{[]byte{1, 1}, api.ErrShort},
		{[]byte{1, 3, 7, 7}, api.ErrShort},
		{join([]byte{1}, Size(api.MaxBytes), make([]byte, api.MaxBytes-1)), api.ErrShort},
		// The 257th record is told last of all that is wrong with it.
		{join(full, next, []byte{0}), api.ErrMany},
		{join(full, next, []byte{2, 7, 7}, []byte{0}), api.ErrMany},
		{join(full, next, []byte{2, 7}), api.ErrShort},
		{join(full, next, overLong), api.ErrLong},
		{join(full, next, []byte{0xfd, 0, 1}), api.ErrForm},
		{join(full, next), api.ErrShort},
		{join(full, []byte{5}), api.ErrOrder},
		{join(full, []byte{0xfe}), api.ErrShort},
	} {
		if got, e := Decode(x.b); e != x.e || len(got) != 0 {
			t.Errorf("Decode %d: %d records, %d, want %d", i, len(got), e, x.e)
		}
	}
}

func TestDecodeOneForm(t *testing.T) {
	// Whatever is taken has these bytes alone.
	for a := range 256 {
		for b := range 256 {
			for _, rest := range [][]byte{nil, {0}, {1, 9}, {0, 0xfd, 0, 0}, {0, 0xfd, 0, 1, 0, 0xfd}} {
				in := join([]byte{byte(a), byte(b)}, rest)
				list, e := Decode(in)
				if e != api.OK {
					continue
				}
				if out, f := Encode(list); f != api.OK || !bytes.Equal(out, in) {
					t.Fatalf("% x is taken as %v, which is % x, %d", in, list, out, f)
				}
			}
		}
	}
}

// P2.4

func TestMust(t *testing.T) {
	for _, x := range []struct {
		types []uint64
		known []uint64
		e     api.Errno
	}{
		{nil, nil, api.OK},
		{[]uint64{1, 3, top}, nil, api.OK},
		{[]uint64{0}, nil, api.ErrMust},
		{[]uint64{0}, []uint64{0}, api.OK},
		{[]uint64{1, 2}, []uint64{1}, api.ErrMust},
		{[]uint64{1, 2, 4}, []uint64{4, 2}, api.OK},
		{[]uint64{1, 2, 4}, []uint64{2}, api.ErrMust},
		{[]uint64{1, 2, 4}, []uint64{4}, api.ErrMust},
		{[]uint64{top - 1}, []uint64{0, 2, top}, api.ErrMust},
		{[]uint64{top - 1}, []uint64{0, 2, top - 1}, api.OK},
		// What is known need not be there; the order is nothing to it.
		{[]uint64{6, 2, 6}, []uint64{8, 6, 6, 2}, api.OK},
	} {
		var list []Record
		for _, y := range x.types {
			list = append(list, Record{Type: y})
		}
		if e := Must(list, x.known...); e != x.e {
			t.Errorf("Must(%v, %v): %d, want %d", x.types, x.known, e, x.e)
		}
	}
}

func TestFind(t *testing.T) {
	list := []Record{{Type: 5, Value: []byte("first")}, {Type: 1}, {Type: 5, Value: []byte("second")}, {Type: 0, Value: []byte("z")}}
	for _, x := range []struct {
		t    uint64
		want string
		ok   bool
	}{{5, "first", true}, {1, "", true}, {0, "z", true}, {2, "", false}, {top, "", false}} {
		if v, ok := Find(list, x.t); string(v) != x.want || ok != x.ok {
			t.Errorf("Find %d: %q %v", x.t, v, ok)
		}
	}
	if v, ok := Find(nil, 0); len(v) != 0 || ok {
		t.Error("Find in nothing", v, ok)
	}
}

// Rule 4: what is handed in is neither changed nor kept, and answers share no memory.

// spoil overwrites a list and the room behind its end.
func spoil(b []byte) {
	b = b[:cap(b)]
	for i := range b {
		b[i] = 0xee
	}
}

func TestAnswersAreNewMemory(t *testing.T) {
	in := []byte{1, 2, 'a', 'b', 3, 0, 4, 1, 'c', 99}
	want := []Record{{Type: 1, Value: []byte("ab")}, {Type: 3}, {Type: 4, Value: []byte("c")}}
	for i := range want {
		list, _ := Decode(in[:9])
		spoil(list[i].Value)
		for j := range want {
			if j != i && !equal(list[j:j+1], want[j:j+1]) {
				t.Errorf("records %d and %d share memory", i, j)
			}
		}
	}
	if !bytes.Equal(in, []byte{1, 2, 'a', 'b', 3, 0, 4, 1, 'c', 99}) {
		t.Error("Decode's answer is its argument's memory", in)
	}
	list, _ := Decode(in[:9])
	spoil(in)
	if !equal(list, want) {
		t.Error("Decode keeps what was handed in", list)
	}
}

func TestFindAndEncodeAreNewMemory(t *testing.T) {
	room := []byte("abc")
	list := []Record{{Type: 1, Value: room[:1]}, {Type: 2, Value: room[1:2]}}
	v, _ := Find(list, 1)
	spoil(v)
	b, _ := Encode(list)
	spoil(b)
	b, _ = Encode(list[:1])
	spoil(b)
	if string(room) != "abc" || list[0].Type != 1 || list[1].Type != 2 {
		t.Error("an answer is an argument's memory", string(room), list)
	}
	spoil(Size(5))
	spoil(Size(1 << 20))
	if !bytes.Equal(Size(5), []byte{5}) || !bytes.Equal(Size(1<<20), []byte{0xfe, 0, 0x10, 0, 0}) {
		t.Error("two answers of Size share memory")
	}
}
