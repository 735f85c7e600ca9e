package leaf

import (
	"bytes"
	"crypto/sha256"
	"encoding/binary"
	"math"
	"math/rand"
	"slices"
	"testing"

	"moneyer/api"
	"moneyer/msum"
	"moneyer/proof"
	"moneyer/tlv"
)

const top = 1<<64 - 1

// join is pieces of bytes, one behind the other.
func join(parts ...[]byte) []byte { return bytes.Join(parts, nil) }

// hash is a digest whose bytes all differ.
func hash(begin byte) api.Hash {
	var h api.Hash
	for i := range h {
		h[i] = begin + byte(i)
	}
	return h
}

// purposed is the digest for a purpose, by the library.
func purposed(purpose string, parts ...[]byte) api.Hash {
	name := sha256.Sum256([]byte(purpose))
	return sha256.Sum256(join(name[:], name[:], join(parts...)))
}

// eight is a number as 8 bytes, the highest first.
func eight(x uint64) []byte { return binary.BigEndian.AppendUint64(nil, x) }

// some is a leaf with nothing in it that is zero.
func some() Leaf {
	return Leaf{Id: hash(1), Amount: 0x0102030405060708, Owner: hash(50), Place: 0xc7, Split: msum.Node{Hash: hash(100), Sum: 0x1112131415161718}}
}

// with is some, changed.
func with(change func(l *Leaf)) Leaf {
	l := some()
	change(&l)
	return l
}

// rights are such as may be, at both ends of what may be.
func rights() []Leaf {
	return []Leaf{
		some(),
		{Amount: 1, Split: msum.Node{Sum: 1}},
		{Amount: 1, Split: msum.Node{Sum: top}},
		{Amount: top, Place: 255, Split: msum.Node{Sum: top}},
		with(func(l *Leaf) { l.Place = 0 }),
		with(func(l *Leaf) { l.Place = 255 }),
		with(func(l *Leaf) { l.Split.Sum = l.Amount }),
		with(func(l *Leaf) { l.Owner = api.Hash{} }),
	}
}

// wrongs are such as may not be: of all it is ErrArg.
func wrongs() map[string]Leaf {
	return map[string]Leaf{
		"nothing":                  {},
		"no amount":                with(func(l *Leaf) { l.Amount = 0 }),
		"no amount and no split":   with(func(l *Leaf) { l.Amount, l.Split.Sum = 0, 0 }),
		"place -1":                 with(func(l *Leaf) { l.Place = -1 }),
		"place 256":                with(func(l *Leaf) { l.Place = 256 }),
		"place 2^32":               with(func(l *Leaf) { l.Place = 1 << 32 }),
		"the least place":          with(func(l *Leaf) { l.Place = math.MinInt }),
		"a split of one less":      with(func(l *Leaf) { l.Split.Sum = l.Amount - 1 }),
		"a split of nothing":       with(func(l *Leaf) { l.Split.Sum = 0 }),
		"the most, and one less":   with(func(l *Leaf) { l.Amount, l.Split.Sum = top, top-1 }),
		"a digest alone as split":  {Amount: 1, Split: msum.Node{Hash: hash(1)}},
		"no amount, all else well": {Id: hash(1), Owner: hash(2), Split: msum.Node{Hash: hash(3), Sum: 4}},
	}
}

// wantBytes is a leaf's bytes, laid by hand.
func wantBytes(l Leaf) []byte {
	return join(
		[]byte{0, 32}, l.Id[:],
		[]byte{2, 8}, eight(l.Amount),
		[]byte{4, 32}, l.Owner[:],
		[]byte{6, 1, byte(l.Place)},
		[]byte{8, 40}, l.Split.Hash[:], eight(l.Split.Sum),
	)
}

func sameLeaf(a, b msum.Leaf) bool { return bytes.Equal(a.Value, b.Value) && a.Sum == b.Sum }

func sameProof(p, q proof.Proof) bool { return p.Bare == q.Bare && slices.Equal(p.Nodes, q.Nodes) }

// P7.1

func TestRight(t *testing.T) {
	for i, l := range rights() {
		if e := l.Check(); e != api.OK {
			t.Errorf("Check of leaf %d: %d", i, e)
		}
		if b, e := Encode(l); !bytes.Equal(b, wantBytes(l)) || e != api.OK {
			t.Errorf("Encode of leaf %d: % x %d, want % x", i, b, e, wantBytes(l))
		}
		if got, e := Decode(wantBytes(l)); got != l || e != api.OK {
			t.Errorf("Decode of leaf %d: %v %d, want %v", i, got, e, l)
		}
	}
}

func TestWrong(t *testing.T) {
	for name, l := range wrongs() {
		if e := l.Check(); e != api.ErrArg {
			t.Errorf("Check of %s: %d", name, e)
		}
		if b, e := Encode(l); len(b) != 0 || e != api.ErrArg {
			t.Errorf("Encode of %s: % x %d", name, b, e)
		}
	}
}

// recordsBytes is some's records, changed, as bytes.
func recordsBytes(t *testing.T, change func(list []tlv.Record) []tlv.Record) []byte {
	t.Helper()
	list, e := tlv.Decode(wantBytes(some()))
	if e != api.OK {
		t.Fatal("tlv.Decode:", e)
	}
	b, e := tlv.Encode(change(list))
	if e != api.OK {
		t.Fatal("tlv.Encode:", e)
	}
	return b
}

// valued is some's records with other values from place n on.
func valued(t *testing.T, n int, values ...[]byte) []byte {
	t.Helper()
	return recordsBytes(t, func(list []tlv.Record) []tlv.Record {
		for i, v := range values {
			list[n+i].Value = v
		}
		return list
	})
}

// typed is some's records with other types.
func typed(t *testing.T, types ...uint64) []byte {
	t.Helper()
	return recordsBytes(t, func(list []tlv.Record) []tlv.Record {
		for i := range list {
			list[i].Type = types[i]
		}
		return list
	})
}

func TestDecodeRefuses(t *testing.T) {
	for _, x := range []struct {
		name string
		b    []byte
		e    api.Errno
	}{
		{"nothing", nil, api.ErrForm},
		{"half a record", []byte{0, 32, 1}, api.ErrShort},
		{"a number in another form", []byte{0xfd, 0, 0}, api.ErrForm},
		{"records that fall", []byte{2, 0, 0, 0}, api.ErrOrder},
		{"a record that is too long", []byte{0, 0xfe, 0, 1, 0, 1}, api.ErrLong},
		{"four records", recordsBytes(t, func(l []tlv.Record) []tlv.Record { return l[:4] }), api.ErrForm},
		{"the last four records", recordsBytes(t, func(l []tlv.Record) []tlv.Record { return l[1:] }), api.ErrForm},
		{"six records", recordsBytes(t, func(l []tlv.Record) []tlv.Record { return append(l, tlv.Record{Type: 10}) }), api.ErrForm},
		{"types from 1 on", typed(t, 1, 2, 4, 6, 8), api.ErrMust},
		{"types 0, 3", typed(t, 0, 3, 4, 6, 8), api.ErrMust},
		{"types 0, 2, 5", typed(t, 0, 2, 5, 6, 8), api.ErrMust},
		{"types 0, 2, 4, 7", typed(t, 0, 2, 4, 7, 8), api.ErrMust},
		{"types 0, 2, 4, 6, 9", typed(t, 0, 2, 4, 6, 9), api.ErrMust},
		{"types 0, 2, 4, 6, 10", typed(t, 0, 2, 4, 6, 10), api.ErrMust},
		{"types in steps of 1", typed(t, 0, 1, 2, 3, 4), api.ErrMust},
		{"a type of 2^32 and more", typed(t, 0, 2, 4, 6, 1<<32+8), api.ErrMust},
		{"no amount", valued(t, 1, make([]byte, 8)), api.ErrArg},
		{"a split that is too small", valued(t, 4, make([]byte, 40)), api.ErrArg},
	} {
		if l, e := Decode(x.b); e != x.e || l != (Leaf{}) {
			t.Errorf("Decode of %s: %v %d, want %d", x.name, l, e, x.e)
		}
	}
}

func TestDecodeSizes(t *testing.T) {
	for i, right := range []int{32, 8, 32, 1, 40} {
		for n := range 70 {
			l, e := Decode(valued(t, i, bytes.Repeat([]byte{9}, n)))
			if n != right && (e != api.ErrForm || l != (Leaf{})) {
				t.Errorf("Decode with %d bytes of record %d: %v %d", n, i, l, e)
			}
			if n == right && e == api.ErrForm {
				t.Errorf("Decode with %d bytes of record %d: %d", n, i, e)
			}
		}
	}
}

// TestDecodeOrder has two faults each: what is wrong with the record ahead is told.
func TestDecodeOrder(t *testing.T) {
	for i := range 5 {
		for j := range 5 {
			b := recordsBytes(t, func(l []tlv.Record) []tlv.Record {
				l[i].Type++
				l[j].Value = nil
				return l
			})
			want := api.ErrMust
			if j < i {
				want = api.ErrForm
			}
			if l, e := Decode(b); e != want || l != (Leaf{}) {
				t.Errorf("Decode with another type at %d and no bytes at %d: %d, want %d", i, j, e, want)
			}
		}
	}
	if _, e := Decode(valued(t, 3, nil, make([]byte, 40))); e != api.ErrForm {
		t.Errorf("Decode with no place and too small a split: %d", e)
	}
	if _, e := Decode(valued(t, 1, make([]byte, 8), make([]byte, 31))); e != api.ErrForm {
		t.Errorf("Decode with no amount and a short owner: %d", e)
	}
}

// TestDecodeCut takes bytes from the end: none of what is left is a leaf.
func TestDecodeCut(t *testing.T) {
	b := wantBytes(some())
	for n := range b {
		if l, e := Decode(b[:n]); e != api.ErrShort && e != api.ErrForm || l != (Leaf{}) {
			t.Errorf("Decode of %d of %d bytes: %v %d", n, len(b), l, e)
		}
	}
	if l, e := Decode(append(bytes.Clone(b), 0)); e != api.ErrOrder || l != (Leaf{}) {
		t.Errorf("Decode of a byte more: %v %d", l, e)
	}
}

// TestOneForm turns bytes: what is still a leaf has just these bytes.
func TestOneForm(t *testing.T) {
	r := rand.New(rand.NewSource(7))
	still := 0
	for range 20000 {
		b := wantBytes(rights()[r.Intn(len(rights()))])
		for range 1 + r.Intn(3) {
			b[r.Intn(len(b))] = byte(r.Intn(256) >> r.Intn(8))
		}
		l, e := Decode(b)
		if e != api.OK {
			continue
		}
		still++
		if again, e := Encode(l); !bytes.Equal(again, b) || e != api.OK {
			t.Fatalf("Decode and Encode of % x: % x %d", b, again, e)
		}
	}
	if still < 1000 {
		t.Error("too few were still a leaf:", still)
	}
}

// P7.2

func TestKey(t *testing.T) {
	for _, place := range []int{0, 1, 255, 256, 257, -1, 1<<32 + 3, math.MaxInt, math.MinInt} {
		l := with(func(l *Leaf) { l.Place = place })
		if got, want := l.Key(), purposed("moneyer/key", l.Id[:], l.Owner[:], []byte{byte(place)}); got != want {
			t.Errorf("Key of place %d: %x, want %x", place, got, want)
		}
	}
	zero := purposed("moneyer/key", make([]byte, 65))
	if got := (Leaf{}).Key(); got != zero {
		t.Errorf("Key of the zero leaf: %x, want %x", got, zero)
	}
	l := some()
	other := with(func(l *Leaf) { l.Amount, l.Split = 1, msum.Node{} })
	if l.Key() != other.Key() {
		t.Error("a Key hangs on Amount or Split")
	}
	if with(func(l *Leaf) { l.Id, l.Owner = l.Owner, l.Id }).Key() == l.Key() {
		t.Error("Id and Owner are one to a Key")
	}
}

func TestSum(t *testing.T) {
	for i, l := range rights() {
		if got, want := l.Sum(), (msum.Leaf{Value: wantBytes(l), Sum: l.Amount}); !sameLeaf(got, want) {
			t.Errorf("Sum of leaf %d: %v, want %v", i, got, want)
		}
	}
	for name, l := range wrongs() {
		if got := l.Sum(); !got.None() {
			t.Errorf("Sum of %s: %v", name, got)
		}
	}
}

// P7.3

// placeKey is where the leaf of a place stands, by the library.
func placeKey(place int) api.Hash { return purposed("moneyer/place", []byte{byte(place)}) }

// part is what stands there for it.
func part(l Leaf) msum.Leaf { return msum.Leaf{Value: join(l.Id[:], l.Owner[:]), Sum: l.Amount} }

// wantTree is all that comes of one transfer, by layer 4 alone.
func wantTree(t *testing.T, list []Leaf) *msum.Tree {
	t.Helper()
	tree := msum.New()
	for i, l := range list {
		if e := tree.Put(placeKey(i), part(l)); e != api.OK {
			t.Fatalf("Put of leaf %d: %d", i, e)
		}
	}
	return tree
}

// raw is leaves that aren't parts yet: what stands in their places and splits is nothing.
func raw(amounts ...uint64) []Leaf {
	var list []Leaf
	for i, a := range amounts {
		list = append(list, Leaf{Id: hash(byte(i % 2)), Amount: a, Owner: hash(byte(100 + i)), Place: 7 - i, Split: msum.Node{Hash: hash(9), Sum: 9}})
	}
	return list
}

// ones is n leaves of 1.
func ones(n int) []Leaf { return raw(slices.Repeat([]uint64{1}, n)...) }

// parts is what Parts makes of leaves that may be.
func parts(t *testing.T, list []Leaf) []Leaf {
	t.Helper()
	got, e := Parts(list)
	if e != api.OK {
		t.Fatalf("Parts of %d: %d", len(list), e)
	}
	return got
}

func TestParts(t *testing.T) {
	equal := slices.Repeat(raw(5), 3)
	for name, list := range map[string][]Leaf{"one": raw(7), "two": raw(3, 4), "many": raw(1, 2, 3, 4, 5, 6, 7, 8, 9), "all the same": equal, "the most": raw(top-1, 1), "256": ones(256)} {
		root := wantTree(t, list).Root()
		got := parts(t, list)
		if len(got) != len(list) {
			t.Fatalf("Parts of %s: %d leaves", name, len(got))
		}
		for i, l := range list {
			if want := (Leaf{Id: l.Id, Amount: l.Amount, Owner: l.Owner, Place: i, Split: root}); got[i] != want {
				t.Errorf("Parts of %s, leaf %d: %v, want %v", name, i, got[i], want)
			}
		}
		if again := parts(t, got); !slices.Equal(again, got) {
			t.Errorf("Parts of Parts of %s: %v", name, again)
		}
	}
	for _, list := range [][]Leaf{nil, {}} {
		if got, e := Parts(list); len(got) != 0 || e != api.OK {
			t.Errorf("Parts of nothing: %v %d", got, e)
		}
	}
}

func TestPartsHangOnAll(t *testing.T) {
	list := raw(3, 4, 5)
	root := parts(t, list)[0].Split
	for name, change := range map[string]func(list []Leaf){
		"another order":  func(list []Leaf) { list[0], list[1] = list[1], list[0] },
		"another amount": func(list []Leaf) { list[1].Amount, list[2].Amount = 5, 4 },
		"another owner":  func(list []Leaf) { list[1].Owner[31]++ },
		"another asset":  func(list []Leaf) { list[1].Id[0]++ },
	} {
		other := slices.Clone(list)
		change(other)
		if got := parts(t, other)[0].Split; got == root || got.Sum != 12 {
			t.Errorf("the Split with %s: %v", name, got)
		}
	}
}

// placed lets leaves have the places that they have in the list.
func placed(list []Leaf) []Leaf {
	for i := range list {
		list[i].Place = i
	}
	return list
}

func TestPartsAndWayRefuse(t *testing.T) {
	for name, x := range map[string]struct {
		list []Leaf
		e    api.Errno
	}{
		"no amount":                    {raw(0), api.ErrOrder},
		"no amount behind others":      {raw(1, 2, 0), api.ErrOrder},
		"no amount between":            {raw(1, 0, 2), api.ErrOrder},
		"too much":                     {raw(top, 1), api.ErrOver},
		"too much in three":            {raw(1<<63, 1<<62, 1<<62), api.ErrOver},
		"too much ahead of no amount":  {raw(top, 1, 0), api.ErrOver},
		"no amount ahead of too much":  {raw(0, top, 1), api.ErrOrder},
		"257":                          {ones(257), api.ErrMany},
		"600":                          {ones(600), api.ErrMany},
		"no amount behind 256":         {append(ones(256), raw(0)...), api.ErrOrder},
		"no amount behind 257":         {append(ones(257), raw(0)...), api.ErrMany},
		"no amount ahead of 256":       {append(raw(0), ones(256)...), api.ErrOrder},
		"too much at place 256":        {append(ones(256), raw(top)...), api.ErrMany},
		"too much ahead of 256 places": {append(raw(top), ones(256)...), api.ErrOver},
	} {
		if got, e := Parts(x.list); len(got) != 0 || e != x.e {
			t.Errorf("Parts of %s: %d leaves, %d, want %d", name, len(got), e, x.e)
		}
		for _, n := range []int{-1, 0, 255, 256, 1000} {
			if p, e := Way(placed(slices.Clone(x.list)), n); !sameProof(p, proof.Proof{}) || e != x.e {
				t.Errorf("Way %d of %s: %v %d, want %d", n, name, p, e, x.e)
			}
		}
	}
}

func TestWay(t *testing.T) {
	for _, count := range []int{1, 2, 9, 256} {
		list := parts(t, ones(count))
		tree := wantTree(t, list)
		for _, n := range []int{0, count / 2, count - 1} {
			if p, e := Way(list, n); !sameProof(p, proof.Make(tree, placeKey(n))) || e != api.OK {
				t.Errorf("Way %d of %d: %v %d", n, count, p, e)
			}
		}
		for _, n := range []int{-1, count, count + 1, 256, math.MaxInt, math.MinInt} {
			if p, e := Way(list, n); !sameProof(p, proof.Proof{}) || e != api.ErrNone {
				t.Errorf("Way %d of %d: %v %d, want ErrNone", n, count, p, e)
			}
		}
	}
	for _, n := range []int{-1, 0, 1} {
		if p, e := Way(nil, n); !sameProof(p, proof.Proof{}) || e != api.ErrNone {
			t.Errorf("Way %d of nothing: %v %d, want ErrNone", n, p, e)
		}
	}
	// A Split is nothing to a Way.
	bare := placed(raw(3, 4))
	want, _ := Way(parts(t, raw(3, 4)), 1)
	if p, e := Way(bare, 1); !sameProof(p, want) || e != api.OK {
		t.Errorf("Way of leaves with other splits: %v %d", p, e)
	}
}

func TestWayOrder(t *testing.T) {
	for name, change := range map[string]func(list []Leaf){
		"the first at 1":        func(list []Leaf) { list[0].Place = 1 },
		"the last at 0":         func(list []Leaf) { list[2].Place = 0 },
		"the last at 258":       func(list []Leaf) { list[2].Place = 258 },
		"the first at 256":      func(list []Leaf) { list[0].Place = 256 },
		"one at -1":             func(list []Leaf) { list[1].Place = -1 },
		"two turned":            func(list []Leaf) { list[0], list[1] = list[1], list[0] },
		"no place, and a lot":   func(list []Leaf) { list[1].Place, list[1].Amount = 0, top },
		"one without an amount": func(list []Leaf) { list[2].Amount = 0 },
	} {
		list := parts(t, raw(3, 4, 5))
		change(list)
		for n := -1; n < 5; n++ {
			if p, e := Way(list, n); !sameProof(p, proof.Proof{}) || e != api.ErrOrder {
				t.Errorf("Way %d with %s: %v %d, want ErrOrder", n, name, p, e)
			}
		}
	}
	over := parts(t, raw(3, 4, 5))
	over[1].Amount, over[2].Place = top, 9
	if _, e := Way(over, 0); e != api.ErrOver {
		t.Errorf("Way of too much ahead of another place: %d", e)
	}
}

func TestOf(t *testing.T) {
	for _, list := range [][]Leaf{raw(7), raw(3, 4), raw(top-1, 1), raw(1, 2, 3, 4, 5, 6, 7, 8), ones(256)} {
		all := parts(t, list)
		for _, n := range []int{0, len(all) / 2, len(all) - 1} {
			p, e := Way(all, n)
			if e != api.OK {
				t.Fatalf("Way %d of %d: %d", n, len(all), e)
			}
			if e := all[n].Of(p); e != api.OK {
				t.Errorf("leaf %d of %d isn't one of them: %d", n, len(all), e)
			}
		}
	}
}

func TestOfRefuses(t *testing.T) {
	all := parts(t, raw(3, 4, 5))
	p, _ := Way(all, 1)
	for name, x := range map[string]struct {
		change func(l *Leaf)
		e      api.Errno
	}{
		"another asset":            {func(l *Leaf) { l.Id[31]++ }, api.ErrRoot},
		"another owner":            {func(l *Leaf) { l.Owner[31]++ }, api.ErrRoot},
		"owner and asset turned":   {func(l *Leaf) { l.Id, l.Owner = l.Owner, l.Id }, api.ErrRoot},
		"another amount":           {func(l *Leaf) { l.Amount++ }, api.ErrRoot},
		"another place":            {func(l *Leaf) { l.Place++ }, api.ErrRoot},
		"another split":            {func(l *Leaf) { l.Split.Hash[0]++ }, api.ErrRoot},
		"another sum of the split": {func(l *Leaf) { l.Split.Sum++ }, api.ErrRoot},
		"place 257":                {func(l *Leaf) { l.Place += 256 }, api.ErrArg},
		"place -255":               {func(l *Leaf) { l.Place -= 256 }, api.ErrArg},
		"no amount":                {func(l *Leaf) { l.Amount = 0 }, api.ErrArg},
		"too small a split":        {func(l *Leaf) { l.Split.Sum = 3 }, api.ErrArg},
		"more than there is":       {func(l *Leaf) { l.Amount, l.Split.Sum = top, top }, api.ErrOver},
	} {
		l := all[1]
		x.change(&l)
		if e := l.Of(p); e != x.e {
			t.Errorf("Of of %s: %d, want %d", name, e, x.e)
		}
	}
	other, _ := Way(all, 2)
	if e := all[1].Of(other); e != api.ErrRoot && e != api.ErrForm {
		t.Errorf("Of by another's proof: %d", e)
	}
}

// TestOfTellsTheProofsFault has proofs that are none, of a leaf that is right and of one that isn't.
func TestOfTellsTheProofsFault(t *testing.T) {
	all := parts(t, raw(3, 4, 5))
	good, _ := Way(all, 1)
	more := proof.Proof{Bare: good.Bare, Nodes: append(slices.Clone(good.Nodes), msum.Node{})}
	fewer := proof.Proof{Bare: good.Bare, Nodes: good.Nodes[:len(good.Nodes)-1]}
	much := proof.Proof{Bare: good.Bare, Nodes: slices.Clone(good.Nodes)}
	much.Nodes[0].Sum = top
	empty := proof.Proof{Nodes: []msum.Node{msum.Empty(0)}}
	for name, x := range map[string]struct {
		p proof.Proof
		e api.Errno
	}{
		"a node more":     {more, api.ErrTrail},
		"a node fewer":    {fewer, api.ErrShort},
		"none":            {proof.Proof{}, api.ErrShort},
		"too great a sum": {much, api.ErrOver},
		"an empty node":   {empty, api.ErrForm},
	} {
		if e := all[1].Of(x.p); e != x.e {
			t.Errorf("Of by a proof with %s: %d, want %d", name, e, x.e)
		}
		if e := (Leaf{}).Of(x.p); e != api.ErrArg {
			t.Errorf("Of of the zero leaf by a proof with %s: %d", name, e)
		}
	}
}

// TestExample: parts of 3 and 4.
func TestExample(t *testing.T) {
	all := parts(t, raw(3, 4))
	for n, l := range all {
		p, _ := Way(all, n)
		if l.Split.Sum != 7 || l.Of(p) != api.OK {
			t.Errorf("leaf %d: a Split of %d, Of %d", n, l.Split.Sum, l.Of(p))
		}
	}
}

func TestNothingIsChangedOrKept(t *testing.T) {
	room := raw(3, 4, 5, 6)
	before := slices.Clone(room)
	all := parts(t, room[:2])
	if !slices.Equal(room, before) {
		t.Error("Parts changes its argument, or the room behind it")
	}
	kept := slices.Clone(all)
	clear(room)
	if !slices.Equal(all, kept) {
		t.Error("Parts' answer is its argument's memory")
	}
	p, _ := Way(all, 0)
	if !slices.Equal(all, kept) {
		t.Error("Way changes its argument")
	}
	q, _ := Way(all, 0)
	clear(q.Nodes)
	if all[0].Of(p) != api.OK {
		t.Error("two answers of Way share memory")
	}
	l := some()
	b, _ := Encode(l)
	s := l.Sum()
	clear(b)
	if !bytes.Equal(s.Value, wantBytes(l)) || l != some() {
		t.Error("Encode's and Sum's answers share memory")
	}
	behind := append(wantBytes(l), 1, 2, 3)
	got, _ := Decode(behind[:len(behind)-3])
	if !bytes.Equal(behind, append(wantBytes(l), 1, 2, 3)) {
		t.Error("Decode changes its argument")
	}
	clear(behind)
	if got != some() {
		t.Error("Decode's answer is its argument's memory")
	}
}
