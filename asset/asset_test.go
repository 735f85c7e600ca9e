package asset

import (
	"bytes"
	"crypto/sha256"
	"encoding/binary"
	"math"
	"math/rand"
	"testing"

	"moneyer/api"
	"moneyer/tlv"
)

const top = 1<<64 - 1

// join is pieces of bytes, one behind the other.
func join(parts ...[]byte) []byte { return bytes.Join(parts, nil) }

// hash is a digest whose bytes all differ.
func hash(begin byte) api.Hash {
	var h api.Hash
	for i := range h {
		h[i] = begin + byte(i)
	}
	return h
}

// coin is a genesis with nothing in it that is zero, but its kind.
func coin() Genesis {
	return Genesis{First: api.Point{Tx: hash(1), Out: 0xc7}, Name: []byte("coin"), Meta: hash(100), Kind: Plain}
}

// with is coin, changed.
func with(change func(g *Genesis)) Genesis {
	g := coin()
	change(&g)
	return g
}

func same(a, b Genesis) bool {
	return a.First == b.First && bytes.Equal(a.Name, b.Name) && a.Meta == b.Meta && a.Kind == b.Kind
}

// rights are such as may be, at both ends of what may be.
func rights() []Genesis {
	return []Genesis{
		coin(),
		{Name: []byte("x")},
		{Name: []byte{0}, Kind: Single},
		{First: api.Point{Tx: hash(7)}, Name: bytes.Repeat([]byte{0xff}, 64), Kind: Single},
		with(func(g *Genesis) { g.First.Out = 0 }),
		with(func(g *Genesis) { g.First.Out = 255 }),
		with(func(g *Genesis) { g.Kind = Single }),
		with(func(g *Genesis) { g.Name = bytes.Repeat([]byte("n"), 63) }),
	}
}

// wrongs are such as may not be, and why.
func wrongs() map[string]struct {
	g Genesis
	e api.Errno
} {
	long := bytes.Repeat([]byte("n"), 65)
	return map[string]struct {
		g Genesis
		e api.Errno
	}{
		"nothing":                     {Genesis{}, api.ErrArg},
		"no name":                     {with(func(g *Genesis) { g.Name = nil }), api.ErrArg},
		"an empty name":               {with(func(g *Genesis) { g.Name = []byte{} }), api.ErrArg},
		"kind 2":                      {with(func(g *Genesis) { g.Kind = 2 }), api.ErrArg},
		"kind -1":                     {with(func(g *Genesis) { g.Kind = -1 }), api.ErrArg},
		"kind 256":                    {with(func(g *Genesis) { g.Kind = 256 }), api.ErrArg},
		"kind 257":                    {with(func(g *Genesis) { g.Kind = 257 }), api.ErrArg},
		"output -1":                   {with(func(g *Genesis) { g.First.Out = -1 }), api.ErrArg},
		"output 256":                  {with(func(g *Genesis) { g.First.Out = 256 }), api.ErrArg},
		"output 2^32":                 {with(func(g *Genesis) { g.First.Out = 1 << 32 }), api.ErrArg},
		"the least output":            {with(func(g *Genesis) { g.First.Out = math.MinInt }), api.ErrArg},
		"a long name":                 {with(func(g *Genesis) { g.Name = long }), api.ErrLong},
		"a very long name":            {with(func(g *Genesis) { g.Name = make([]byte, api.MaxBytes+1) }), api.ErrLong},
		"a long name, and kind 2":     {with(func(g *Genesis) { g.Name, g.Kind = long, 2 }), api.ErrArg},
		"a long name, and output 256": {with(func(g *Genesis) { g.Name, g.First.Out = long, 256 }), api.ErrArg},
	}
}

// wantBytes is a genesis' bytes, laid by hand.
func wantBytes(g Genesis) []byte {
	return join(
		[]byte{0, 36}, g.First.Tx[:], []byte{0, 0, 0, byte(g.First.Out)},
		[]byte{2, byte(len(g.Name))}, g.Name,
		[]byte{4, 32}, g.Meta[:],
		[]byte{6, 1, byte(g.Kind)},
	)
}

// wantId is the digest for the assets' purpose, by the library.
func wantId(b []byte) api.Hash {
	name := sha256.Sum256([]byte("moneyer/asset"))
	return sha256.Sum256(join(name[:], name[:], b))
}

// P6.1

func TestPutPoint(t *testing.T) {
	for _, out := range []int{0, 1, 255, 256, 0x01020304, 1<<32 - 1, 1<<32 + 5, -1, -256, math.MaxInt, math.MinInt} {
		tx := hash(3)
		want := binary.BigEndian.AppendUint32(bytes.Clone(tx[:]), uint32(out))
		if got := PutPoint(api.Point{Tx: tx, Out: out}); !bytes.Equal(got, want) {
			t.Errorf("PutPoint of output %d: % x, want % x", out, got, want)
		}
	}
}

func TestGetPoint(t *testing.T) {
	for out := range 256 {
		p := api.Point{Tx: hash(byte(out)), Out: out}
		if got, e := GetPoint(PutPoint(p)); got != p || e != api.OK {
			t.Errorf("GetPoint of output %d: %v %d", out, got, e)
		}
	}
}

func TestGetPointRefuses(t *testing.T) {
	for _, out := range []int{256, 257, 1 << 16, 1 << 24, 1 << 31, 1<<32 - 1, -1} {
		if got, e := GetPoint(PutPoint(api.Point{Tx: hash(3), Out: out})); got != (api.Point{}) || e != api.ErrArg {
			t.Errorf("GetPoint of output %d: %v %d, want ErrArg", out, got, e)
		}
	}
	for n := range 100 {
		// Of bytes of 255 the output is too great, too: their number is told first.
		if got, e := GetPoint(bytes.Repeat([]byte{255}, n)); n != 36 && (got != (api.Point{}) || e != api.ErrForm) {
			t.Errorf("GetPoint of %d bytes: %v %d, want ErrForm", n, got, e)
		}
	}
}

// P6.2

func TestKinds(t *testing.T) {
	if Plain != 0 || Single != 1 || MostName != 64 {
		t.Error("the constants:", Plain, Single, MostName)
	}
}

func TestRight(t *testing.T) {
	for i, g := range rights() {
		if e := g.Check(); e != api.OK {
			t.Errorf("Check of genesis %d: %d", i, e)
		}
		b, e := Encode(g)
		if !bytes.Equal(b, wantBytes(g)) || e != api.OK {
			t.Errorf("Encode of genesis %d: % x %d, want % x", i, b, e, wantBytes(g))
		}
		if got, e := Decode(wantBytes(g)); !same(got, g) || e != api.OK {
			t.Errorf("Decode of genesis %d: %v %d, want %v", i, got, e, g)
		}
	}
}

func TestExample(t *testing.T) {
	if b, e := Encode(Genesis{Name: []byte("x")}); len(b) != 78 || e != api.OK {
		t.Errorf("of a genesis of Name x: %d bytes, %d", len(b), e)
	}
}

func TestWrong(t *testing.T) {
	for name, w := range wrongs() {
		if e := w.g.Check(); e != w.e {
			t.Errorf("Check of %s: %d, want %d", name, e, w.e)
		}
		if b, e := Encode(w.g); len(b) != 0 || e != w.e {
			t.Errorf("Encode of %s: % x %d, want %d", name, b, e, w.e)
		}
	}
}

// recordsBytes is a genesis' records, changed, as bytes.
func recordsBytes(t *testing.T, change func(list []tlv.Record) []tlv.Record) []byte {
	t.Helper()
	list, e := tlv.Decode(wantBytes(coin()))
	if e != api.OK {
		t.Fatal("tlv.Decode:", e)
	}
	b, e := tlv.Encode(change(list))
	if e != api.OK {
		t.Fatal("tlv.Encode:", e)
	}
	return b
}

// valued is coin's records with a value in the place of one's.
func valued(t *testing.T, n int, value []byte) []byte {
	t.Helper()
	return recordsBytes(t, func(list []tlv.Record) []tlv.Record {
		list[n].Value = value
		return list
	})
}

// typed is coin's records with other types.
func typed(t *testing.T, types ...uint64) []byte {
	t.Helper()
	return recordsBytes(t, func(list []tlv.Record) []tlv.Record {
		for i := range list {
			list[i].Type = types[i]
		}
		return list
	})
}

func TestDecodeRefuses(t *testing.T) {
	far := PutPoint(api.Point{Out: 256})
	for _, x := range []struct {
		name string
		b    []byte
		e    api.Errno
	}{
		{"nothing", nil, api.ErrForm},
		{"half a record", []byte{0, 36, 1}, api.ErrShort},
		{"a number in another form", []byte{0xfd, 0, 0}, api.ErrForm},
		{"records that fall", []byte{2, 0, 0, 0}, api.ErrOrder},
		{"a record that is too long", []byte{0, 0xfe, 0, 1, 0, 1}, api.ErrLong},
		{"three records", recordsBytes(t, func(l []tlv.Record) []tlv.Record { return l[:3] }), api.ErrForm},
		{"the last three records", recordsBytes(t, func(l []tlv.Record) []tlv.Record { return l[1:] }), api.ErrForm},
		{"five records", recordsBytes(t, func(l []tlv.Record) []tlv.Record { return append(l, tlv.Record{Type: 8}) }), api.ErrForm},
		{"five records, the last odd", recordsBytes(t, func(l []tlv.Record) []tlv.Record { return append(l, tlv.Record{Type: 7}) }), api.ErrForm},
		{"types from 1 on", typed(t, 1, 2, 4, 6), api.ErrMust},
		{"types 0, 3", typed(t, 0, 3, 4, 6), api.ErrMust},
		{"types 0, 2, 5", typed(t, 0, 2, 5, 6), api.ErrMust},
		{"types 0, 2, 4, 7", typed(t, 0, 2, 4, 7), api.ErrMust},
		{"types 0, 2, 4, 8", typed(t, 0, 2, 4, 8), api.ErrMust},
		{"types in steps of 1", typed(t, 0, 1, 2, 3), api.ErrMust},
		{"a type of 2^32 and more", typed(t, 0, 2, 4, 1<<32+6), api.ErrMust},
		{"31 bytes of Meta", valued(t, 2, make([]byte, 31)), api.ErrForm},
		{"33 bytes of Meta", valued(t, 2, make([]byte, 33)), api.ErrForm},
		{"no Meta", valued(t, 2, nil), api.ErrForm},
		{"no Kind", valued(t, 3, nil), api.ErrForm},
		{"two bytes of Kind", valued(t, 3, make([]byte, 2)), api.ErrForm},
		{"35 bytes of First", valued(t, 0, make([]byte, 35)), api.ErrForm},
		{"37 bytes of First", valued(t, 0, make([]byte, 37)), api.ErrForm},
		{"no First", valued(t, 0, nil), api.ErrForm},
		{"output 256", valued(t, 0, far), api.ErrArg},
		{"output 2^32 - 1", valued(t, 0, bytes.Repeat([]byte{255}, 36)), api.ErrArg},
		{"no name", valued(t, 1, nil), api.ErrArg},
		{"a long name", valued(t, 1, make([]byte, 65)), api.ErrLong},
		{"kind 2", valued(t, 3, []byte{2}), api.ErrArg},
		{"kind 255", valued(t, 3, []byte{255}), api.ErrArg},
		// Of two faults the one that the document names first.
		{"another type ahead of Meta's bytes", recordsBytes(t, func(l []tlv.Record) []tlv.Record {
			l[2].Value, l[3].Type = nil, 7
			return l
		}), api.ErrMust},
		{"Kind's bytes ahead of the output", recordsBytes(t, func(l []tlv.Record) []tlv.Record {
			l[0].Value, l[3].Value = far, nil
			return l
		}), api.ErrForm},
		{"the output ahead of a long name", recordsBytes(t, func(l []tlv.Record) []tlv.Record {
			l[0].Value, l[1].Value = far, make([]byte, 65)
			return l
		}), api.ErrArg},
		{"the kind ahead of a long name", recordsBytes(t, func(l []tlv.Record) []tlv.Record {
			l[1].Value, l[3].Value = make([]byte, 65), []byte{2}
			return l
		}), api.ErrArg},
	} {
		if g, e := Decode(x.b); e != x.e || !same(g, Genesis{}) || g.Name != nil {
			t.Errorf("Decode of %s: %v %d, want %d", x.name, g, e, x.e)
		}
	}
}

// TestDecodeCut takes bytes from the end: none of what is left is a genesis.
func TestDecodeCut(t *testing.T) {
	b := wantBytes(coin())
	for n := range b {
		if g, e := Decode(b[:n]); e != api.ErrShort && e != api.ErrForm || !same(g, Genesis{}) {
			t.Errorf("Decode of %d of %d bytes: %v %d", n, len(b), g, e)
		}
	}
	if g, e := Decode(append(bytes.Clone(b), 0)); e != api.ErrOrder || !same(g, Genesis{}) {
		t.Errorf("Decode of a byte more: %v %d", g, e)
	}
}

// TestOneForm turns bytes: what is still a genesis has just these bytes.
func TestOneForm(t *testing.T) {
	r := rand.New(rand.NewSource(6))
	still := 0
	for range 20000 {
		b := wantBytes(rights()[r.Intn(len(rights()))])
		for range 1 + r.Intn(3) {
			b[r.Intn(len(b))] = byte(r.Intn(256) >> r.Intn(8))
		}
		g, e := Decode(b)
		if e != api.OK {
			continue
		}
		still++
		if again, e := Encode(g); !bytes.Equal(again, b) || e != api.OK {
			t.Fatalf("Decode and Encode of % x: % x %d", b, again, e)
		}
	}
	if still < 1000 {
		t.Error("too few were still a genesis:", still)
	}
}

// P6.3

func TestId(t *testing.T) {
	seen := map[api.Hash]int{}
	for i, g := range rights() {
		if got, want := g.Id(), wantId(wantBytes(g)); got != want {
			t.Errorf("Id of genesis %d: %x, want %x", i, got, want)
		}
		if j, had := seen[g.Id()]; had {
			t.Errorf("genesis %d and %d have one Id", j, i)
		}
		seen[g.Id()] = i
	}
	for name, w := range wrongs() {
		if got := w.g.Id(); got != (api.Hash{}) {
			t.Errorf("Id of %s: %x", name, got)
		}
	}
}

func TestFits(t *testing.T) {
	for _, x := range []struct {
		kind   int
		amount uint64
		want   bool
	}{
		{Plain, 0, false}, {Plain, 1, true}, {Plain, 2, true}, {Plain, top, true},
		{Single, 0, false}, {Single, 1, true}, {Single, 2, false}, {Single, top, false},
		// Of a kind that isn't one, too: whether it isn't Plain is all that counts.
		{2, 0, false}, {2, 1, true}, {2, 2, false}, {-1, 1, true}, {-1, 5, false}, {256, 1, true}, {256, 7, false},
	} {
		if got := (Genesis{Name: []byte("x"), Kind: x.kind}).Fits(x.amount); got != x.want {
			t.Errorf("kind %d Fits %d: %v", x.kind, x.amount, got)
		}
	}
	// What else there is doesn't count: nothing else is right in these.
	if !(Genesis{}).Fits(9) || (Genesis{}).Fits(0) || !(Genesis{Kind: Single}).Fits(1) {
		t.Error("Fits of a genesis that isn't right")
	}
}

func TestNothingIsChangedOrKept(t *testing.T) {
	room := []byte("coin and more")
	g := with(func(g *Genesis) { g.Name = room[:4] })
	b, _ := Encode(g)
	id := g.Id()
	if string(room) != "coin and more" {
		t.Errorf("Encode or Id changes the room behind a name: %q", room)
	}
	clear(room)
	if !bytes.Equal(b, wantBytes(coin())) || id != coin().Id() {
		t.Error("Encode's answer is the name's memory")
	}
	behind := append(bytes.Clone(b), 1, 2, 3)
	got, _ := Decode(behind[:len(b)])
	if !bytes.Equal(behind, append(bytes.Clone(b), 1, 2, 3)) {
		t.Error("Decode changes its argument")
	}
	clear(behind)
	if !same(got, coin()) {
		t.Error("Decode's answer is its argument's memory")
	}
	p := PutPoint(coin().First)
	clear(PutPoint(coin().First))
	if !bytes.Equal(p, PutPoint(coin().First)) {
		t.Error("two answers of PutPoint share memory")
	}
}
