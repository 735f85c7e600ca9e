package proof

import (
	"bytes"
	"crypto/sha256"
	"encoding/binary"
	"math/rand"
	"slices"
	"testing"

	"moneyer/api"
	"moneyer/msum"
)

const top = 1<<64 - 1

// one is the key that has just these bits.
func one(bits ...int) api.Hash {
	var key api.Hash
	for _, b := range bits {
		key[31-b/8] |= 1 << (b % 8)
	}
	return key
}

// bitAt is a key's bit.
func bitAt(key api.Hash, h int) byte { return key[31-h/8] >> (h % 8) & 1 }

// treeOf is a tree of leaves.
func treeOf(t *testing.T, leaves map[api.Hash]msum.Leaf) *msum.Tree {
	t.Helper()
	tree := msum.New()
	for key, l := range leaves {
		if e := tree.Put(key, l); e != api.OK {
			t.Fatalf("Put of %x: %d", key, e)
		}
	}
	return tree
}

// few is leaves at keys that part low, high, and between.
func few() map[api.Hash]msum.Leaf {
	return map[api.Hash]msum.Leaf{
		{}:             {Value: []byte("none"), Sum: 7},
		one(0):         {Sum: 1},
		one(1, 255):    {Value: []byte("no sum")},
		one(8):         {Value: []byte("eight"), Sum: 1 << 40},
		one(100, 3):    {Value: []byte("hundred"), Sum: 12},
		one(255):       {Value: []byte("high"), Sum: 3},
		one(255, 254):  {Sum: 5},
		one(128, 0, 7): {Value: bytes.Repeat([]byte("long"), 99), Sum: 2},
	}
}

// bare is few's other keys, at which nothing stands.
func bare() []api.Hash { return []api.Hash{one(1), one(9), one(254), one(255, 0), one(100, 3, 4)} }

func some(n int, seed int64) map[api.Hash]msum.Leaf {
	r := rand.New(rand.NewSource(seed))
	leaves := map[api.Hash]msum.Leaf{}
	for len(leaves) < n {
		var key api.Hash
		r.Read(key[:])
		leaves[key] = msum.Leaf{Value: []byte{byte(len(leaves))}, Sum: r.Uint64() >> 10}
	}
	return leaves
}

// full is a proof with a node at each height, all unlike, whose sums are small.
func full() Proof {
	var p Proof
	for h := range msum.Height {
		p.Nodes = append(p.Nodes, msum.Node{Hash: sha256.Sum256([]byte{byte(h), 'h'}), Sum: uint64(h)})
	}
	return p
}

// setBare takes the node at a height out of a full proof.
func setBare(p Proof, heights ...int) Proof {
	slices.Sort(heights)
	for i, h := range heights {
		p.Bare[h/8] |= 1 << (h % 8)
		p.Nodes = slices.Delete(slices.Clone(p.Nodes), h-i, h-i+1)
	}
	return p
}

func same(p, q Proof) bool { return p.Bare == q.Bare && slices.Equal(p.Nodes, q.Nodes) }

// empties is what stands for the empty part of each height.
var empties = func() []msum.Node {
	var list []msum.Node
	for h := range msum.Height {
		list = append(list, msum.Empty(h))
	}
	return list
}()

// branch is what stands for two parts, by the library.
func branch(a, b msum.Node) msum.Node {
	m := binary.BigEndian.AppendUint64(bytes.Clone(a.Hash[:]), a.Sum)
	m = binary.BigEndian.AppendUint64(append(m, b.Hash[:]...), b.Sum)
	return msum.Node{Hash: sha256.Sum256(m), Sum: a.Sum + b.Sum}
}

// P5.1

func TestMake(t *testing.T) {
	for _, leaves := range []map[api.Hash]msum.Leaf{{}, {one(3): {Sum: 1}}, few(), some(30, 1), some(api.MaxList, 2)} {
		tree := treeOf(t, leaves)
		keys := append(tree.Keys(), bare()...)
		for _, key := range keys[:min(len(keys), 15)] {
			checkMade(t, Make(tree, key), tree.Beside(key))
		}
	}
}

// checkMade holds a proof against what stands beside its key's way.
func checkMade(t *testing.T, p Proof, beside []msum.Node) {
	t.Helper()
	var nodes []msum.Node
	for h, n := range beside {
		empty := n == empties[h]
		if got := p.Bare[h/8]>>(h%8)&1 == 1; got != empty {
			t.Fatalf("height %d: its bit is %v, want %v", h, got, empty)
		}
		if !empty {
			nodes = append(nodes, n)
		}
	}
	if !slices.Equal(p.Nodes, nodes) {
		t.Fatalf("Nodes: %v, want %v", p.Nodes, nodes)
	}
}

func TestMakeOfOneLeaf(t *testing.T) {
	key := one(3, 77, 200)
	l := msum.Leaf{Value: []byte("a"), Sum: 7}
	tree := treeOf(t, map[api.Hash]msum.Leaf{key: l})
	all := [32]byte(bytes.Repeat([]byte{255}, 32))
	if p := Make(tree, key); p.Bare != all || len(p.Nodes) != 0 {
		t.Errorf("the proof of the one leaf: %x %v", p.Bare, p.Nodes)
	}
	for h := range msum.Height {
		other := key
		other[31-h/8] ^= 1 << (h % 8)
		p := Make(tree, other)
		want := all
		want[h/8] ^= 1 << (h % 8)
		if p.Bare != want || len(p.Nodes) != 1 || p.Nodes[0].Sum != 7 {
			t.Errorf("the proof of the key that parts at height %d: %x %v", h, p.Bare, p.Nodes)
		}
		if h == 0 && p.Nodes[0] != l.Node() {
			t.Error("the node beside at height 0 isn't the leaf's")
		}
	}
}

func TestMakeOfEmptyAndNilTree(t *testing.T) {
	p := Make(msum.New(), one(3))
	if p.Bare != [32]byte(bytes.Repeat([]byte{255}, 32)) || len(p.Nodes) != 0 {
		t.Errorf("of an empty tree: %x %v", p.Bare, p.Nodes)
	}
	if p := Make(nil, one(3)); p.Bare != [32]byte{} || len(p.Nodes) != 0 {
		t.Errorf("of a nil tree: %x %v", p.Bare, p.Nodes)
	}
}

// P5.2

func TestRootIsTheTrees(t *testing.T) {
	leaves := few()
	tree := treeOf(t, leaves)
	root := tree.Root()
	for _, key := range append(tree.Keys(), bare()...) {
		p := Make(tree, key)
		if got, e := p.Root(key, leaves[key]); got != root || e != api.OK {
			t.Errorf("Root of %x: %v %d, want %v", key, got, e, root)
		}
	}
}

// TestRootByHand goes up a way with a node at each height but some.
func TestRootByHand(t *testing.T) {
	l := msum.Leaf{Value: []byte("by hand"), Sum: 1000}
	for _, key := range []api.Hash{{}, one(0), one(255), one(1, 3, 100, 254), api.Hash(bytes.Repeat([]byte{255}, 32)), api.Hash(bytes.Repeat([]byte{0x5a}, 32))} {
		for _, empty := range [][]int{nil, {0}, {255}, {0, 1, 7, 8, 9, 63, 64, 254, 255}} {
			want := l.Node()
			for h, beside := range full().Nodes {
				if slices.Contains(empty, h) {
					beside = empties[h]
				}
				if bitAt(key, h) == 1 {
					want = branch(beside, want)
				} else {
					want = branch(want, beside)
				}
			}
			p := setBare(full(), empty...)
			if got, e := p.Root(key, l); got != want || e != api.OK {
				t.Errorf("Root of %x without %v: %v %d, want %v", key, empty, got, e, want)
			}
			if e := p.Check(want, key, l); e != api.OK {
				t.Errorf("Check of %x without %v: %d", key, empty, e)
			}
		}
	}
}

// with is a full proof, with a node put at some heights.
func with(n msum.Node, heights ...int) Proof {
	p := full()
	for _, h := range heights {
		p.Nodes[h] = n
	}
	return p
}

// cut is a proof with its first n nodes alone.
func cut(p Proof, n int) Proof {
	p.Nodes = p.Nodes[:n]
	return p
}

// longer is a proof with one node more.
func longer(p Proof) Proof {
	p.Nodes = append(slices.Clone(p.Nodes), msum.Node{Sum: 1})
	return p
}

func TestRootRefuses(t *testing.T) {
	low := msum.Leaf{Sum: 1}
	much := msum.Node{Hash: one(5), Sum: top}
	for _, x := range []struct {
		name string
		p    Proof
		l    msum.Leaf
		e    api.Errno
	}{
		{"no node at all", Proof{}, low, api.ErrShort},
		{"no last node", cut(full(), 255), low, api.ErrShort},
		{"no last node below a bare end", cut(setBare(full(), 254, 255), 253), low, api.ErrShort},
		{"one node more", longer(full()), low, api.ErrTrail},
		{"one node more, the last height bare", longer(setBare(full(), 255)), low, api.ErrTrail},
		{"a node where all is bare", Proof{Bare: [32]byte(bytes.Repeat([]byte{255}, 32)), Nodes: make([]msum.Node, 1)}, low, api.ErrTrail},
		{"an empty node at the bottom", with(msum.Empty(0), 0), low, api.ErrForm},
		{"an empty node", with(msum.Empty(100), 100), low, api.ErrForm},
		{"an empty node at the top", with(msum.Empty(255), 255), low, api.ErrForm},
		{"too great a sum at the bottom", with(much, 0), low, api.ErrOver},
		{"too great a sum at the top", with(msum.Node{Sum: top - 32640 + 255}, 255), low, api.ErrOver},
		{"too great a leaf", full(), msum.Leaf{Sum: top}, api.ErrOver},
		// Height by height: what is lower is told first.
		{"an empty node below a missing one", cut(with(msum.Empty(3), 3), 4), low, api.ErrForm},
		{"too great a sum below a missing node", cut(with(much, 3), 4), low, api.ErrOver},
		{"too great a sum below an empty node", with(msum.Empty(4), 4), msum.Leaf{Sum: top - 3}, api.ErrOver},
		{"an empty node below too great a sum", with(msum.Empty(2), 2), msum.Leaf{Sum: top - 3}, api.ErrForm},
		{"an empty node and one node more", longer(with(msum.Empty(255), 255)), low, api.ErrForm},
		{"too great a sum and one node more", longer(with(much, 255)), low, api.ErrOver},
	} {
		root, e := x.p.Root(one(1, 254), x.l)
		if e != x.e || root != (msum.Node{}) {
			t.Errorf("Root with %s: %v %d, want %d", x.name, root, e, x.e)
		}
		for _, r := range []msum.Node{{}, msum.Empty(256)} {
			if e := x.p.Check(r, one(1, 254), x.l); e != x.e {
				t.Errorf("Check with %s: %d, want %d", x.name, e, x.e)
			}
		}
	}
}

// TestRootOfAllThatFits has a sum that just fits.
func TestRootOfAllThatFits(t *testing.T) {
	p := with(msum.Node{Sum: top - 32640 + 255 - 1}, 255)
	if root, e := p.Root(one(9), msum.Leaf{Sum: 1}); e != api.OK || root.Sum != top {
		t.Errorf("Root: %v %d", root, e)
	}
}

// TestNearlyEmptyNodes are no fault of form: empty of another height, or with a sum, or another digest.
func TestNearlyEmptyNodes(t *testing.T) {
	for _, n := range []msum.Node{{}, msum.Empty(99), msum.Empty(101), {Hash: msum.Empty(100).Hash, Sum: 1}} {
		if _, e := with(n, 100).Root(one(9), msum.Leaf{Sum: 1}); e != api.OK {
			t.Errorf("Root with %v at height 100: %d", n, e)
		}
	}
}

func TestCheck(t *testing.T) {
	leaves := few()
	tree := treeOf(t, leaves)
	root := tree.Root()
	key := one(100, 3)
	p := Make(tree, key)
	for _, x := range []struct {
		name string
		root msum.Node
		key  api.Hash
		l    msum.Leaf
		e    api.Errno
	}{
		{"what stands there", root, key, leaves[key], api.OK},
		{"another Value", root, key, msum.Leaf{Value: []byte("hundre"), Sum: 12}, api.ErrRoot},
		{"another Sum", root, key, msum.Leaf{Value: []byte("hundred"), Sum: 13}, api.ErrRoot},
		{"nothing", root, key, msum.Leaf{}, api.ErrRoot},
		{"another key", root, one(100), leaves[key], api.ErrRoot},
		{"a root of another digest", msum.Node{Hash: one(4), Sum: root.Sum}, key, leaves[key], api.ErrRoot},
		{"a root of another sum", msum.Node{Hash: root.Hash, Sum: root.Sum + 1}, key, leaves[key], api.ErrRoot},
		{"no root", msum.Node{}, key, leaves[key], api.ErrRoot},
		{"a sum that is too great ahead of no root", msum.Node{}, key, msum.Leaf{Sum: top}, api.ErrOver},
	} {
		if e := p.Check(x.root, x.key, x.l); e != x.e {
			t.Errorf("Check of %s: %d, want %d", x.name, e, x.e)
		}
	}
}

func TestCheckOfNothing(t *testing.T) {
	tree := treeOf(t, few())
	for _, key := range bare() {
		p := Make(tree, key)
		if e := p.Check(tree.Root(), key, msum.Leaf{Value: []byte{}}); e != api.OK {
			t.Errorf("that nothing stands at %x: %d", key, e)
		}
		if e := p.Check(tree.Root(), key, msum.Leaf{Sum: 1}); e != api.ErrRoot {
			t.Errorf("that a leaf stands at %x, where nothing does: %d", key, e)
		}
	}
	if e := Make(msum.New(), one(3)).Check(msum.Empty(256), one(3), msum.Leaf{}); e != api.OK {
		t.Errorf("that nothing stands in an empty tree: %d", e)
	}
}

// P5.3

// wantBytes is a proof's bytes, by the library.
func wantBytes(p Proof) []byte {
	b := bytes.Clone(p.Bare[:])
	for _, n := range p.Nodes {
		b = binary.BigEndian.AppendUint64(append(b, n.Hash[:]...), n.Sum)
	}
	return b
}

func TestEncodeDecode(t *testing.T) {
	tree := treeOf(t, few())
	proofs := []Proof{full(), setBare(full(), 0), setBare(full(), 1, 8, 200, 255), Make(msum.New(), one(1)), with(msum.Node{Sum: 0x0102030405060708}, 3)}
	for _, key := range append(tree.Keys(), bare()...) {
		proofs = append(proofs, Make(tree, key))
	}
	for i, p := range proofs {
		b := Encode(p)
		if !bytes.Equal(b, wantBytes(p)) {
			t.Errorf("proof %d: Encode: %x, want %x", i, b, wantBytes(p))
		}
		if got, e := Decode(b); e != api.OK || !same(got, p) {
			t.Errorf("proof %d: Decode: %v %d, want %v", i, got, e, p)
		}
	}
}

// TestEncodeOfWhateverNodes lays all nodes there are, be they too few or too many.
func TestEncodeOfWhateverNodes(t *testing.T) {
	for _, p := range []Proof{{}, longer(full()), cut(full(), 7), {Bare: [32]byte{31: 0x80}, Nodes: make([]msum.Node, 300)}} {
		if b := Encode(p); !bytes.Equal(b, wantBytes(p)) {
			t.Errorf("Encode of %d nodes: %d bytes", len(p.Nodes), len(b))
		}
	}
}

func TestDecodeRefuses(t *testing.T) {
	for _, p := range []Proof{full(), setBare(full(), 2, 250), Make(treeOf(t, few()), one(0)), Make(msum.New(), one(0))} {
		b := Encode(p)
		for n := range len(b) {
			if got, e := Decode(b[:n]); e != api.ErrShort || !same(got, Proof{}) {
				t.Fatalf("Decode of %d of %d bytes: %v %d", n, len(b), got, e)
			}
		}
		for _, n := range []int{1, 8, 32, 39, 40, 41, 80} {
			if got, e := Decode(append(bytes.Clone(b), make([]byte, n)...)); e != api.ErrTrail || !same(got, Proof{}) {
				t.Errorf("Decode of %d bytes and %d more: %v %d", len(b), n, got, e)
			}
		}
	}
	if _, e := Decode(nil); e != api.ErrShort {
		t.Errorf("Decode of nothing: %d", e)
	}
	// 32 noughts ask for all 256 nodes.
	if _, e := Decode(make([]byte, 32)); e != api.ErrShort {
		t.Errorf("Decode of 32 noughts: %d", e)
	}
	if p, e := Decode(make([]byte, 32+256*40)); e != api.OK || len(p.Nodes) != 256 {
		t.Errorf("Decode of noughts: %d nodes, %d", len(p.Nodes), e)
	}
}

func TestNothingIsChangedOrKept(t *testing.T) {
	tree := treeOf(t, few())
	key := one(8)
	made := Make(tree, key)
	b := Encode(made)
	room := append(bytes.Clone(b), 1, 2, 3)
	p, _ := Decode(room[:len(b)])
	clear(room[:len(b)])
	if !same(p, made) || !bytes.Equal(room[len(b):], []byte{1, 2, 3}) {
		t.Error("Decode keeps its argument, or changes the room behind it")
	}
	p.Check(tree.Root(), key, few()[key])
	if !same(p, made) {
		t.Error("Check changes its proof")
	}
	clear(b)
	if !same(p, made) || !bytes.Equal(Encode(p), wantBytes(made)) {
		t.Error("Encode's answer is its proof's memory")
	}
	clear(made.Nodes)
	if again := Make(tree, key); !same(again, p) {
		t.Error("two answers of Make share memory")
	}
}

// P5.4

func TestMadeIsChecked(t *testing.T) {
	for _, leaves := range []map[api.Hash]msum.Leaf{{one(3): {Sum: top}}, few(), some(50, 3)} {
		tree := treeOf(t, leaves)
		root := tree.Root()
		for _, key := range append(tree.Keys(), bare()...) {
			l, _ := tree.Get(key)
			if e := Make(tree, key).Check(root, key, l); e != api.OK {
				t.Errorf("of %d leaves, %x: %d", len(leaves), key, e)
			}
		}
	}
}

// TestNothingElseIsChecked turns each bit of a proof's bytes: none is checked as OK, for what stands there or for nothing.
func TestNothingElseIsChecked(t *testing.T) {
	tree := treeOf(t, few())
	root := tree.Root()
	for _, key := range []api.Hash{one(0), one(255, 0)} {
		l, _ := tree.Get(key)
		b := Encode(Make(tree, key))
		for i := range 8 * len(b) {
			b[i/8] ^= 1 << (i % 8)
			if p, e := Decode(b); e == api.OK && (p.Check(root, key, l) == api.OK || p.Check(root, key, msum.Leaf{}) == api.OK) {
				t.Errorf("the proof of %x with bit %d turned is checked as OK", key, i)
			}
			b[i/8] ^= 1 << (i % 8)
		}
	}
}

// TestSumsAreBound moves amounts between a leaf and what stands beside it: the root's sum stays, and still it is another one.
func TestSumsAreBound(t *testing.T) {
	leaves := few()
	tree := treeOf(t, leaves)
	key := one(100, 3)
	l := leaves[key]
	for i := range Make(tree, key).Nodes {
		p := Make(tree, key)
		if p.Nodes[i].Sum == 0 {
			continue
		}
		p.Nodes[i].Sum--
		more := msum.Leaf{Value: l.Value, Sum: l.Sum + 1}
		got, e := p.Root(key, more)
		if e != api.OK || got.Sum != tree.Root().Sum {
			t.Fatalf("node %d: %v %d", i, got, e)
		}
		if e := p.Check(tree.Root(), key, more); e != api.ErrRoot {
			t.Errorf("an amount taken from node %d: %d", i, e)
		}
	}
}

func BenchmarkCheck(b *testing.B) {
	tree := msum.New()
	key := one(9, 99)
	tree.Put(key, msum.Leaf{Sum: 3})
	p := Make(tree, key)
	root := tree.Root()
	for b.Loop() {
		p.Check(root, key, msum.Leaf{Sum: 3})
	}
}
