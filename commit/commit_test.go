package commit

import (
	"bytes"
	"crypto/sha256"
	"encoding/binary"
	"math/rand"
	"slices"
	"testing"

	"moneyer/api"
	"moneyer/leaf"
	"moneyer/msum"
	"moneyer/proof"
	"moneyer/tlv"
)

const top = 1<<64 - 1

// id is one of an asset, or of whoever owns something.
func id(n int) api.Hash { return sha256.Sum256([]byte{byte(n), byte(n >> 8)}) }

// of is a leaf of an asset that may be, alone of its transfer.
func of(asset, owner int, amount uint64) leaf.Leaf {
	return leaf.Leaf{Id: id(asset), Owner: id(owner), Amount: amount, Split: msum.Node{Hash: id(owner), Sum: amount}}
}

// changed is a leaf, changed.
func changed(l leaf.Leaf, change func(l *leaf.Leaf)) leaf.Leaf {
	change(&l)
	return l
}

// few is three assets: one of a leaf, one of two that differ in their place alone, one of three owners.
func few() []leaf.Leaf {
	one := of(2, 9, 4)
	return []leaf.Leaf{
		of(1, 7, 1000),
		one, changed(one, func(l *leaf.Leaf) { l.Place = 255 }),
		of(3, 7, 1), of(3, 8, 20), of(3, 9, 300),
	}
}

// many is n leaves of an amount, of as many assets.
func many(n, assets int, amount uint64) []leaf.Leaf {
	var list []leaf.Leaf
	for i := range n {
		list = append(list, of(i%assets, i, amount))
	}
	return list
}

// commitOf is a Commit of leaves that may all be added.
func commitOf(t *testing.T, list []leaf.Leaf) *Commit {
	t.Helper()
	c := New()
	for i, l := range list {
		if e := c.Add(l); e != api.OK {
			t.Fatalf("Add of leaf %d: %d", i, e)
		}
	}
	return c
}

// put lets a leaf stand in a tree of layer 4.
func put(t *testing.T, tree *msum.Tree, key api.Hash, l msum.Leaf) {
	t.Helper()
	if e := tree.Put(key, l); e != api.OK {
		t.Fatalf("Put: %d", e)
	}
}

// wantLow is an asset's tree, by layers 4 and 7 alone.
func wantLow(t *testing.T, list []leaf.Leaf, asset api.Hash) *msum.Tree {
	t.Helper()
	tree := msum.New()
	for _, l := range list {
		if l.Id == asset {
			b, _ := leaf.Encode(l)
			put(t, tree, l.Key(), msum.Leaf{Value: b, Sum: l.Amount})
		}
	}
	return tree
}

// wantHigh is the tree of trees, by layers 4 and 7 alone.
func wantHigh(t *testing.T, list []leaf.Leaf) *msum.Tree {
	t.Helper()
	tree := msum.New()
	for _, l := range list {
		if _, had := tree.Get(l.Id); had {
			continue
		}
		root := wantLow(t, list, l.Id).Root()
		put(t, tree, l.Id, msum.Leaf{Value: root.Hash[:], Sum: root.Sum})
	}
	return tree
}

// said is what an output says of a tree of trees, by the library.
func said(root msum.Node) api.Hash {
	name := sha256.Sum256([]byte("moneyer/anchor"))
	b := slices.Concat(name[:], name[:], root.Hash[:])
	return sha256.Sum256(binary.BigEndian.AppendUint64(b, root.Sum))
}

func sameProof(p, q proof.Proof) bool { return p.Bare == q.Bare && slices.Equal(p.Nodes, q.Nodes) }

func same(v, w Ways) bool { return sameProof(v.Low, w.Low) && sameProof(v.High, w.High) }

// prove is the proof for a leaf that stands there.
func prove(t *testing.T, c *Commit, l leaf.Leaf) Ways {
	t.Helper()
	w, e := c.Prove(l)
	if e != api.OK {
		t.Fatalf("Prove: %d", e)
	}
	return w
}

// holds tells whether just these leaves stand there.
func holds(c *Commit, list []leaf.Leaf) bool {
	rising := slices.SortedFunc(slices.Values(list), func(a, b leaf.Leaf) int {
		x, y := a.Key(), b.Key()
		return bytes.Compare(x[:], y[:])
	})
	return slices.Equal(c.Leaves(), rising)
}

// P8.1

func TestAdd(t *testing.T) {
	for name, list := range map[string][]leaf.Leaf{
		"one":                  {of(1, 1, 7)},
		"few":                  few(),
		"the most of one":      {of(1, 1, top)},
		"the most of two":      {of(1, 1, top-1), of(2, 1, 1)},
		"256 of one asset":     many(256, 1, 3),
		"256 of many assets":   many(256, 16, 3),
		"256 of 256 assets":    many(256, 256, top/256),
		"one owner, two ids":   {of(1, 1, 7), of(2, 1, 7)},
		"an owner of noughts":  {changed(of(1, 1, 7), func(l *leaf.Leaf) { l.Owner = api.Hash{} })},
		"an asset of noughts":  {changed(of(1, 1, 7), func(l *leaf.Leaf) { l.Id = api.Hash{} })},
		"a part of a transfer": {changed(of(1, 1, 7), func(l *leaf.Leaf) { l.Place, l.Split.Sum = 3, top })},
	} {
		c := commitOf(t, list)
		if !holds(c, list) {
			t.Errorf("Leaves of %s: %v", name, c.Leaves())
		}
		if got, want := c.Anchor(), said(wantHigh(t, list).Root()); got != want {
			t.Errorf("Anchor of %s: %x, want %x", name, got, want)
		}
	}
}

func TestAddRefuses(t *testing.T) {
	full := many(256, 3, 1)
	for name, x := range map[string]struct {
		list []leaf.Leaf
		l    leaf.Leaf
		e    api.Errno
	}{
		"the zero leaf":                        {nil, leaf.Leaf{}, api.ErrArg},
		"no amount":                            {few(), of(1, 1, 0), api.ErrArg},
		"place -1":                             {few(), changed(of(1, 1, 7), func(l *leaf.Leaf) { l.Place = -1 }), api.ErrArg},
		"place 256":                            {few(), changed(of(1, 1, 7), func(l *leaf.Leaf) { l.Place = 256 }), api.ErrArg},
		"too small a split":                    {few(), changed(of(1, 1, 7), func(l *leaf.Leaf) { l.Split.Sum = 6 }), api.ErrArg},
		"the same":                             {few(), few()[4], api.ErrHave},
		"one key, another amount":              {few(), changed(few()[4], func(l *leaf.Leaf) { l.Amount-- }), api.ErrHave},
		"one key, another split":               {few(), changed(few()[4], func(l *leaf.Leaf) { l.Split.Hash[0]++ }), api.ErrHave},
		"a 257th":                              {full, of(1, 999, 1), api.ErrMany},
		"a 257th of another asset":             {full, of(999, 1, 1), api.ErrMany},
		"too much of one asset":                {[]leaf.Leaf{of(1, 1, top)}, of(1, 2, 1), api.ErrOver},
		"too much of two":                      {[]leaf.Leaf{of(1, 1, top)}, of(2, 1, 1), api.ErrOver},
		"too much of three":                    {[]leaf.Leaf{of(1, 1, 1<<63), of(2, 1, 1<<62)}, of(3, 1, 1<<62), api.ErrOver},
		"no amount ahead of a key that is had": {few(), changed(few()[4], func(l *leaf.Leaf) { l.Amount = 0 }), api.ErrArg},
		"no amount ahead of a 257th":           {full, of(999, 1, 0), api.ErrArg},
		"the same ahead of a 257th":            {full, full[9], api.ErrHave},
		"the same ahead of too much":           {[]leaf.Leaf{of(1, 1, top)}, of(1, 1, top), api.ErrHave},
		"a 257th ahead of too much":            {full, of(999, 1, top), api.ErrMany},
	} {
		c := commitOf(t, x.list)
		anchor := c.Anchor()
		if e := c.Add(x.l); e != x.e {
			t.Errorf("Add of %s: %d, want %d", name, e, x.e)
		}
		if !holds(c, x.list) || c.Anchor() != anchor {
			t.Errorf("Add of %s, though refused, changes what stands there", name)
		}
	}
}

// TestAddGoesOn: what was refused takes no room.
func TestAddGoesOn(t *testing.T) {
	c := commitOf(t, []leaf.Leaf{of(1, 1, top-5)})
	for _, x := range []struct {
		l leaf.Leaf
		e api.Errno
	}{
		{of(2, 1, 6), api.ErrOver},
		{of(2, 1, 3), api.OK},
		{of(1, 2, 3), api.ErrOver},
		{of(1, 2, 2), api.OK},
		{of(3, 1, 1), api.ErrOver},
	} {
		if e := c.Add(x.l); e != x.e {
			t.Errorf("Add of %d: %d, want %d", x.l.Amount, e, x.e)
		}
	}
	if c.Total(id(1)) != top-3 || c.Total(id(2)) != 3 || c.Total(id(3)) != 0 {
		t.Errorf("Totals: %d, %d, %d", c.Total(id(1)), c.Total(id(2)), c.Total(id(3)))
	}
}

// TestAnchorByHand has two assets whose Ids differ in their highest bit, and works the way to their roots out height by height.
func TestAnchorByHand(t *testing.T) {
	left, right := of(1, 1, 3), of(1, 2, 4)
	left.Id[0] &= 0x7f
	right.Id = left.Id
	right.Id[0] |= 0x80
	var parts [2]msum.Node
	for i, l := range []leaf.Leaf{left, right} {
		b, _ := leaf.Encode(l)
		low := up(msum.Leaf{Value: b, Sum: l.Amount}.Node(), l.Key(), 256)
		parts[i] = up(msum.Leaf{Value: low.Hash[:], Sum: low.Sum}.Node(), l.Id, 255)
	}
	root, _ := msum.Branch(parts[0], parts[1])
	if got := commitOf(t, []leaf.Leaf{right, left}).Anchor(); got != said(root) {
		t.Errorf("Anchor: %x, want %x", got, said(root))
	}
}

// up goes a key's way from below on to a height, nothing beside it.
func up(node msum.Node, key api.Hash, height int) msum.Node {
	for h := range height {
		left, right := node, msum.Empty(h)
		if msum.Bit(key, h) == 1 {
			left, right = right, left
		}
		node, _ = msum.Branch(left, right)
	}
	return node
}

func TestAnchorHangsOnAll(t *testing.T) {
	anchor := commitOf(t, few()).Anchor()
	for name, change := range map[string]func(l *leaf.Leaf){
		"another asset":    func(l *leaf.Leaf) { l.Id[31]++ },
		"another of those": func(l *leaf.Leaf) { l.Id = id(1) },
		"another owner":    func(l *leaf.Leaf) { l.Owner[31]++ },
		"another place":    func(l *leaf.Leaf) { l.Place++ },
		"another amount":   func(l *leaf.Leaf) { l.Amount-- },
		"another split":    func(l *leaf.Leaf) { l.Split.Hash[31]++ },
		"a greater split":  func(l *leaf.Leaf) { l.Split.Sum++ },
	} {
		list := few()
		change(&list[4])
		if commitOf(t, list).Anchor() == anchor {
			t.Errorf("the Anchor with %s is the same", name)
		}
	}
	if commitOf(t, few()[1:]).Anchor() == anchor {
		t.Error("the Anchor of one leaf fewer is the same")
	}
}

func TestTotal(t *testing.T) {
	c := commitOf(t, few())
	for _, x := range []struct {
		asset int
		want  uint64
	}{{1, 1000}, {2, 8}, {3, 321}, {4, 0}} {
		if got := c.Total(id(x.asset)); got != x.want {
			t.Errorf("Total of asset %d: %d, want %d", x.asset, got, x.want)
		}
	}
	if got := c.Total(api.Hash{}); got != 0 {
		t.Errorf("Total of an asset of noughts: %d", got)
	}
	if got := commitOf(t, many(256, 2, top/256)).Total(id(1)); got != top/256*128 {
		t.Errorf("Total of 128 leaves: %d", got)
	}
}

func TestNilAndEmpty(t *testing.T) {
	for name, c := range map[string]*Commit{"nil": nil, "new": New(), "zero": {}} {
		if c.Anchor() != (api.Hash{}) || c.Total(id(1)) != 0 || c.Total(api.Hash{}) != 0 || len(c.Leaves()) != 0 {
			t.Errorf("%s: Anchor %x, Total %d, Leaves %v", name, c.Anchor(), c.Total(id(1)), c.Leaves())
		}
		want := api.ErrNone
		if c == nil {
			want = api.ErrArg
		}
		for _, l := range []leaf.Leaf{of(1, 1, 7), {}} {
			if w, e := c.Prove(l); e != want || !same(w, Ways{}) {
				t.Errorf("%s: Prove: %v %d, want %d", name, w, e, want)
			}
		}
	}
	var none *Commit
	for _, l := range []leaf.Leaf{of(1, 1, 7), {}} {
		if e := none.Add(l); e != api.ErrArg {
			t.Errorf("Add on nil: %d", e)
		}
	}
	var zero Commit
	if e := zero.Add(of(1, 1, 7)); e != api.OK || zero.Total(id(1)) != 7 {
		t.Errorf("Add to the zero one: %d, Total %d", e, zero.Total(id(1)))
	}
}

func TestCommitsAreApart(t *testing.T) {
	a, b := commitOf(t, few()), New()
	if len(b.Leaves()) != 0 || b.Anchor() != (api.Hash{}) {
		t.Error("a new one has another's leaves")
	}
	if e := b.Add(few()[0]); e != api.OK || len(a.Leaves()) != len(few()) {
		t.Errorf("Add to another: %d, Leaves %d", e, len(a.Leaves()))
	}
}

// P8.2

func TestProve(t *testing.T) {
	for _, list := range [][]leaf.Leaf{{of(1, 1, 7)}, few(), many(40, 7, 5), many(30, 30, 5)} {
		c := commitOf(t, list)
		high := wantHigh(t, list)
		for i, l := range list {
			want := Ways{Low: proof.Make(wantLow(t, list, l.Id), l.Key()), High: proof.Make(high, l.Id)}
			w := prove(t, c, l)
			if !same(w, want) {
				t.Errorf("Prove of leaf %d of %d: %v, want %v", i, len(list), w, want)
			}
			if got, e := w.Lead(l); e != api.OK || got != said(high.Root()) {
				t.Errorf("Lead of leaf %d of %d: %x %d, want %x", i, len(list), got, e, said(high.Root()))
			}
		}
	}
}

func TestProveRefuses(t *testing.T) {
	c := commitOf(t, few())
	for name, l := range map[string]leaf.Leaf{
		"the zero leaf":           {},
		"another asset's":         of(4, 7, 1000),
		"another owner's":         of(1, 8, 1000),
		"another place's":         changed(few()[0], func(l *leaf.Leaf) { l.Place++ }),
		"another amount":          changed(few()[0], func(l *leaf.Leaf) { l.Amount-- }),
		"no amount":               changed(few()[0], func(l *leaf.Leaf) { l.Amount = 0 }),
		"another split":           changed(few()[0], func(l *leaf.Leaf) { l.Split.Hash[31]++ }),
		"another sum of a split":  changed(few()[0], func(l *leaf.Leaf) { l.Split.Sum++ }),
		"a place of the same key": changed(few()[2], func(l *leaf.Leaf) { l.Place = -1 }),
	} {
		if w, e := c.Prove(l); e != api.ErrNone || !same(w, Ways{}) {
			t.Errorf("Prove of %s: %v %d, want ErrNone", name, w, e)
		}
	}
}

// faults are what spoils a proof that has a node, by layer 5's error of it.
func faults() map[api.Errno]func(p proof.Proof) proof.Proof {
	return map[api.Errno]func(p proof.Proof) proof.Proof{
		api.ErrShort: func(p proof.Proof) proof.Proof {
			return proof.Proof{Bare: p.Bare, Nodes: p.Nodes[1:]}
		},
		api.ErrTrail: func(p proof.Proof) proof.Proof {
			return proof.Proof{Bare: p.Bare, Nodes: append(slices.Clone(p.Nodes), msum.Node{})}
		},
		api.ErrForm: func(p proof.Proof) proof.Proof {
			p.Bare[0] &^= 1
			return proof.Proof{Bare: p.Bare, Nodes: slices.Insert(slices.Clone(p.Nodes), 0, msum.Empty(0))}
		},
		api.ErrOver: func(p proof.Proof) proof.Proof {
			nodes := slices.Clone(p.Nodes)
			nodes[0].Sum = top
			return proof.Proof{Bare: p.Bare, Nodes: nodes}
		},
	}
}

func TestLeadAndCheckRefuse(t *testing.T) {
	l := few()[4]
	c := commitOf(t, few())
	good := prove(t, c, l)
	refused := func(name string, w Ways, l leaf.Leaf, want api.Errno) {
		t.Helper()
		if got, e := w.Lead(l); e != want || got != (api.Hash{}) {
			t.Errorf("Lead with %s: %x %d, want %d", name, got, e, want)
		}
		for _, said := range []api.Hash{c.Anchor(), {}} {
			if e := w.Check(said, l); e != want {
				t.Errorf("Check with %s: %d, want %d", name, e, want)
			}
		}
	}
	for low, spoilLow := range faults() {
		refused("Low spoilt", Ways{Low: spoilLow(good.Low), High: good.High}, l, low)
		refused("High spoilt", Ways{Low: good.Low, High: spoilLow(good.High)}, l, low)
		for _, spoilHigh := range faults() {
			both := Ways{Low: spoilLow(good.Low), High: spoilHigh(good.High)}
			refused("both spoilt", both, l, low)
			refused("both spoilt, and no amount", both, changed(l, func(l *leaf.Leaf) { l.Amount = 0 }), api.ErrArg)
		}
	}
	refused("no proofs", Ways{}, l, api.ErrShort)
	refused("no proofs, of the zero leaf", Ways{}, leaf.Leaf{}, api.ErrArg)
	refused("a place of the same key", good, changed(l, func(l *leaf.Leaf) { l.Place += 256 }), api.ErrArg)
	refused("too small a split", good, changed(l, func(l *leaf.Leaf) { l.Split.Sum-- }), api.ErrArg)
	// What stands beside in the tree of trees fits by itself, but not with what Low leads to.
	refused("too great an amount", good, changed(l, func(l *leaf.Leaf) { l.Amount, l.Split.Sum = top-400, top }), api.ErrOver)
	refused("too great an amount for Low", good, changed(l, func(l *leaf.Leaf) { l.Amount, l.Split.Sum = top, top }), api.ErrOver)
}

func TestCheck(t *testing.T) {
	c := commitOf(t, few())
	l := few()[4]
	good := prove(t, c, l)
	other := prove(t, c, few()[5])
	for _, x := range []struct {
		name string
		w    Ways
		said api.Hash
		l    leaf.Leaf
		e    api.Errno
	}{
		{"what stands there", good, c.Anchor(), l, api.OK},
		{"no anchor", good, api.Hash{}, l, api.ErrRoot},
		{"another anchor", good, commitOf(t, few()[1:]).Anchor(), l, api.ErrRoot},
		{"an anchor turned in its first byte", good, changedHash(c.Anchor(), 0), l, api.ErrRoot},
		{"an anchor turned in its last byte", good, changedHash(c.Anchor(), 31), l, api.ErrRoot},
		{"the root's digest for an anchor", good, wantHigh(t, few()).Root().Hash, l, api.ErrRoot},
		{"another amount", good, c.Anchor(), changed(l, func(l *leaf.Leaf) { l.Amount-- }), api.ErrRoot},
		{"another owner", good, c.Anchor(), changed(l, func(l *leaf.Leaf) { l.Owner[31]++ }), api.ErrRoot},
		{"another place", good, c.Anchor(), changed(l, func(l *leaf.Leaf) { l.Place++ }), api.ErrRoot},
		{"another split", good, c.Anchor(), changed(l, func(l *leaf.Leaf) { l.Split.Hash[31]++ }), api.ErrRoot},
		{"another asset", good, c.Anchor(), changed(l, func(l *leaf.Leaf) { l.Id[31] ^= 1 }), api.ErrRoot},
		{"another's proof in its own tree, of one asset", Ways{Low: good.Low, High: other.High}, c.Anchor(), l, api.OK},
	} {
		if e := x.w.Check(x.said, x.l); e != x.e {
			t.Errorf("Check of %s: %d, want %d", x.name, e, x.e)
		}
	}
	for i, l := range few() {
		for j, m := range few() {
			e := prove(t, c, l).Check(c.Anchor(), m)
			if (e == api.OK) != (i == j) {
				t.Errorf("Check of leaf %d by the proof of leaf %d: %d", j, i, e)
			}
		}
	}
}

// changedHash is a digest with one byte turned.
func changedHash(h api.Hash, n int) api.Hash {
	h[n] ^= 1
	return h
}

// P8.3

// record is a record's bytes, laid by hand, of a type below 253.
func record(kind byte, value []byte) []byte {
	head := []byte{kind, byte(len(value))}
	if len(value) >= 253 {
		head = []byte{kind, 253, byte(len(value) >> 8), byte(len(value))}
	}
	return append(head, value...)
}

// wantBytes is a proof's bytes, laid by hand.
func wantBytes(w Ways) []byte {
	return append(record(0, proof.Encode(w.Low)), record(2, proof.Encode(w.High))...)
}

// full is a proof with n nodes, and as many bits that say so, up to 256.
func full(n int) proof.Proof {
	p := proof.Proof{Bare: [32]byte(bytes.Repeat([]byte{255}, 32))}
	for i := range n {
		if i < 256 {
			p.Bare[i/8] &^= 1 << (i % 8)
		}
		p.Nodes = append(p.Nodes, msum.Node{Hash: id(i), Sum: uint64(i)})
	}
	return p
}

func TestEncodeDecode(t *testing.T) {
	ways := []Ways{{full(0), full(0)}, {full(1), full(5)}, {full(6), full(0)}, {full(0), full(6)}, {full(256), full(256)}, {full(3), full(200)}}
	c := commitOf(t, few())
	for _, l := range few() {
		ways = append(ways, prove(t, c, l))
	}
	for i, w := range ways {
		b, e := Encode(w)
		if e != api.OK || !bytes.Equal(b, wantBytes(w)) {
			t.Errorf("Encode of %d: % x %d, want % x", i, b, e, wantBytes(w))
		}
		if got, e := Decode(wantBytes(w)); e != api.OK || !same(got, w) {
			t.Errorf("Decode of %d: %v %d, want %v", i, got, e, w)
		}
	}
}

// TestEncodeOfWhateverNodes: layer 5 lays all nodes that there are; layer 2 tells where that is too long.
func TestEncodeOfWhateverNodes(t *testing.T) {
	most := (api.MaxBytes - 32) / 40
	for _, x := range []struct {
		w Ways
		e api.Errno
	}{
		{Ways{}, api.OK},
		{Ways{full(most), full(most)}, api.OK},
		{Ways{full(most + 1), full(0)}, api.ErrLong},
		{Ways{full(0), full(most + 1)}, api.ErrLong},
		{Ways{full(3 * most), full(3 * most)}, api.ErrLong},
	} {
		b, e := Encode(x.w)
		if e != x.e || e != api.OK && len(b) > 0 || e == api.OK && !bytes.Equal(b, wantBytes(x.w)) {
			t.Errorf("Encode of %d and %d nodes: %d bytes, %d, want %d", len(x.w.Low.Nodes), len(x.w.High.Nodes), len(b), e, x.e)
		}
	}
}

func TestDecodeRefuses(t *testing.T) {
	good := proof.Encode(full(2))
	short, long := good[:len(good)-1], append(slices.Clone(good), 0)
	pair := func(low, high []byte) []byte { return append(record(0, low), record(2, high)...) }
	for _, x := range []struct {
		name string
		b    []byte
		e    api.Errno
	}{
		{"nothing", nil, api.ErrForm},
		{"half a record", pair(good, good)[:20], api.ErrShort},
		{"a number in another form", []byte{0xfd, 0, 0}, api.ErrForm},
		{"records that fall", append(record(2, good), record(0, good)...), api.ErrOrder},
		{"the first record twice", append(record(0, good), record(0, good)...), api.ErrOrder},
		{"a record that is too long", []byte{0, 0xfe, 0, 1, 0, 1}, api.ErrLong},
		{"the first record alone", record(0, good), api.ErrForm},
		{"the second record alone", record(2, good), api.ErrForm},
		{"three records", append(pair(good, good), record(4, nil)...), api.ErrForm},
		{"three records, the last odd", append(pair(good, good), record(3, nil)...), api.ErrForm},
		{"a third between", slices.Concat(record(0, good), record(1, nil), record(2, good)), api.ErrForm},
		{"types 0 and 1", append(record(0, good), record(1, good)...), api.ErrForm},
		{"types 0 and 3", append(record(0, good), record(3, good)...), api.ErrForm},
		{"types 0 and 4", append(record(0, good), record(4, good)...), api.ErrForm},
		{"types 1 and 2", append(record(1, good), record(2, good)...), api.ErrForm},
		{"types 2 and 4", append(record(2, good), record(4, good)...), api.ErrForm},
		{"other types, and no proofs", append(record(1, nil), record(3, nil)...), api.ErrForm},
		{"two empty records", pair(nil, nil), api.ErrShort},
		{"a short first", pair(short, good), api.ErrShort},
		{"a short second", pair(good, short), api.ErrShort},
		{"a long first", pair(long, good), api.ErrTrail},
		{"a long second", pair(good, long), api.ErrTrail},
		{"a short first, a long second", pair(short, long), api.ErrShort},
		{"a long first, a short second", pair(long, short), api.ErrTrail},
		{"a long first, no second", record(0, long), api.ErrForm},
		{"a long first, half a second", pair(long, good)[:len(long)+20], api.ErrShort},
	} {
		if w, e := Decode(x.b); e != x.e || !same(w, Ways{}) {
			t.Errorf("Decode of %s: %v %d, want %d", x.name, w, e, x.e)
		}
	}
}

// TestDecodeCut takes bytes from the end: nothing that is left is a proof.
func TestDecodeCut(t *testing.T) {
	b := wantBytes(prove(t, commitOf(t, few()), few()[4]))
	for n := range b {
		if w, e := Decode(b[:n]); e != api.ErrShort && e != api.ErrForm || !same(w, Ways{}) {
			t.Errorf("Decode of %d of %d bytes: %v %d", n, len(b), w, e)
		}
	}
}

// P8.4

func TestProvedIsChecked(t *testing.T) {
	for _, list := range [][]leaf.Leaf{few(), many(256, 8, 1<<55), {of(1, 1, top)}} {
		c := commitOf(t, list)
		anchor := c.Anchor()
		for i := 0; i < len(list); i += 1 + len(list)/9 {
			w := prove(t, c, list[i])
			if e := w.Check(anchor, list[i]); e != api.OK {
				t.Errorf("leaf %d of %d: %d", i, len(list), e)
			}
			b, _ := Encode(w)
			again, e := Decode(b)
			if e != api.OK || again.Check(anchor, list[i]) != api.OK {
				t.Errorf("leaf %d of %d, by its proof's bytes: %d", i, len(list), e)
			}
		}
	}
}

func TestOrderIsNothing(t *testing.T) {
	r := rand.New(rand.NewSource(7))
	list := append(few(), many(20, 5, 9)[10:]...)
	c := commitOf(t, list)
	for range 10 {
		r.Shuffle(len(list), func(i, j int) { list[i], list[j] = list[j], list[i] })
		d := commitOf(t, list)
		if d.Anchor() != c.Anchor() || !slices.Equal(d.Leaves(), c.Leaves()) {
			t.Fatal("another order has another Anchor, or other Leaves")
		}
		if l := list[0]; !same(prove(t, c, l), prove(t, d, l)) {
			t.Fatal("another order has another proof")
		}
	}
}

// TestNothingElseIsChecked turns each bit of a proof's bytes: none is checked as OK.
func TestNothingElseIsChecked(t *testing.T) {
	c := commitOf(t, few())
	anchor := c.Anchor()
	for _, l := range few()[3:5] {
		b, _ := Encode(prove(t, c, l))
		for i := range 8 * len(b) {
			b[i/8] ^= 1 << (i % 8)
			if w, e := Decode(b); e == api.OK && w.Check(anchor, l) == api.OK {
				t.Errorf("a proof with bit %d turned is checked as OK", i)
			}
			b[i/8] ^= 1 << (i % 8)
		}
	}
}

// TestSumsAreBound gives a leaf more, and takes it from what stands beside it: the sum of all stays, and still it is refused.
func TestSumsAreBound(t *testing.T) {
	c := commitOf(t, few())
	l := few()[4]
	more := changed(l, func(l *leaf.Leaf) { l.Amount, l.Split.Sum = 21, 21 })
	for _, low := range []bool{true, false} {
		w := prove(t, c, l)
		nodes := w.High.Nodes
		if low {
			nodes = w.Low.Nodes
		}
		for i := range nodes {
			nodes[i].Sum--
			if e := w.Check(c.Anchor(), more); e != api.ErrRoot {
				t.Errorf("an amount taken from node %d: %d", i, e)
			}
			nodes[i].Sum++
		}
	}
}

// TestExample: one leaf of 7 of one asset.
func TestExample(t *testing.T) {
	l := of(1, 1, 7)
	c := commitOf(t, []leaf.Leaf{l})
	w := prove(t, c, l)
	if c.Total(l.Id) != 7 || len(w.Low.Nodes) != 0 || len(w.High.Nodes) != 0 {
		t.Errorf("Total %d, %d and %d nodes", c.Total(l.Id), len(w.Low.Nodes), len(w.High.Nodes))
	}
}

func TestNothingIsChangedOrKept(t *testing.T) {
	c := commitOf(t, few())
	anchor := c.Anchor()
	list := c.Leaves()
	clear(list[:cap(list)])
	if !holds(c, few()) || c.Anchor() != anchor {
		t.Error("Leaves' answer is the Commit's memory")
	}
	l := few()[4]
	w := prove(t, c, l)
	clear(w.Low.Nodes)
	if again := prove(t, c, l); again.Check(anchor, l) != api.OK {
		t.Error("two answers of Prove share memory")
	}
	w = prove(t, c, l)
	b, _ := Encode(w)
	kept := slices.Clone(b)
	w.Check(anchor, l)
	if !bytes.Equal(b, wantBytes(w)) {
		t.Error("Check changes its proof")
	}
	room := append(slices.Clone(b), 1, 2, 3)
	got, _ := Decode(room[:len(b)])
	if !bytes.Equal(room, append(slices.Clone(kept), 1, 2, 3)) {
		t.Error("Decode changes its argument, or the room behind it")
	}
	clear(room)
	if !same(got, w) {
		t.Error("Decode's answer is its argument's memory")
	}
	clear(b)
	if !bytes.Equal(wantBytes(w), kept) {
		t.Error("Encode's answer is its proof's memory")
	}
	clear(got.Low.Nodes)
	if !slices.Equal(got.High.Nodes, w.High.Nodes) {
		t.Error("Decode's two proofs share memory")
	}
}

func TestMaxListOfRecords(t *testing.T) {
	var b []byte
	for i := range 257 {
		b = append(b, tlv.Size(uint64(i))...)
		b = append(b, 0)
	}
	if w, e := Decode(b); e != api.ErrMany || !same(w, Ways{}) {
		t.Errorf("Decode of 257 records: %v %d", w, e)
	}
}

func BenchmarkAnchorOf256Assets(b *testing.B) {
	c := New()
	for _, l := range many(256, 256, 1) {
		c.Add(l)
	}
	for b.Loop() {
		c.Anchor()
	}
}
