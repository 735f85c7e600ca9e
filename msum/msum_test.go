package msum

import (
	"bytes"
	"crypto/sha256"
	"encoding/binary"
	"math"
	"math/rand"
	"slices"
	"strconv"
	"strings"
	"testing"

	"moneyer/api"
)

const top = 1<<64 - 1

// wantLeaf is what stands for a leaf, by the library.
func wantLeaf(l Leaf) Node {
	b := binary.BigEndian.AppendUint64(bytes.Clone(l.Value), l.Sum)
	return Node{Hash: sha256.Sum256(b), Sum: l.Sum}
}

// wantBranch is what stands for two parts whose sums fit, by the library.
func wantBranch(a, b Node) Node {
	m := binary.BigEndian.AppendUint64(bytes.Clone(a.Hash[:]), a.Sum)
	m = binary.BigEndian.AppendUint64(append(m, b.Hash[:]...), b.Sum)
	return Node{Hash: sha256.Sum256(m), Sum: a.Sum + b.Sum}
}

// wantEmpty is what stands for the empty part of each height.
func wantEmpty() [Height + 1]Node {
	var list [Height + 1]Node
	list[0] = wantLeaf(Leaf{})
	for h := range Height {
		list[h+1] = wantBranch(list[h], list[h])
	}
	return list
}

// bitText is a key as 256 signs 0 or 1, the highest bit first.
func bitText(key api.Hash) string {
	var s strings.Builder
	for _, c := range key {
		b := strconv.FormatUint(uint64(c), 2)
		s.WriteString(strings.Repeat("0", 8-len(b)) + b)
	}
	return s.String()
}

// model is a tree that is worked out level by level: at each height, what stands for the parts in which something does, by the beginning of their keys' texts.
type model [Height + 1]map[string]Node

func modelOf(leaves map[api.Hash]Leaf) *model {
	var m model
	m[0] = map[string]Node{}
	for key, l := range leaves {
		m[0][bitText(key)] = wantLeaf(l)
	}
	for h := range Height {
		m[h+1] = map[string]Node{}
		for way := range m[h] {
			up := way[:len(way)-1]
			m[h+1][up] = wantBranch(m.at(h, up+"0"), m.at(h, up+"1"))
		}
	}
	return &m
}

var empties = wantEmpty()

// at is what stands for the part of a height to which a way leads.
func (m *model) at(height int, way string) Node {
	if n, ok := m[height][way]; ok {
		return n
	}
	return empties[height]
}

// beside is what stands beside a key's way at a height.
func (m *model) beside(key api.Hash, height int) Node {
	way := bitText(key)[:Height-height]
	last := "1"
	if strings.HasSuffix(way, "1") {
		last = "0"
	}
	return m.at(height, way[:len(way)-1]+last)
}

// checkTree holds a tree's root and what is beside some keys against the model of its leaves.
func checkTree(t *testing.T, tree *Tree, leaves map[api.Hash]Leaf, keys ...api.Hash) {
	t.Helper()
	m := modelOf(leaves)
	if got, want := tree.Root(), m.at(Height, ""); got != want {
		t.Fatalf("Root of %d leaves: %x %d, want %x %d", len(leaves), got.Hash, got.Sum, want.Hash, want.Sum)
	}
	for _, key := range keys {
		list := tree.Beside(key)
		if len(list) != Height {
			t.Fatalf("Beside has %d nodes", len(list))
		}
		for h, got := range list {
			if want := m.beside(key, h); got != want {
				t.Fatalf("beside %x at height %d: %x %d, want %x %d", key, h, got.Hash, got.Sum, want.Hash, want.Sum)
			}
		}
	}
}

// put lets leaves stand in a tree, in whichever order a map has.
func put(t *testing.T, tree *Tree, leaves map[api.Hash]Leaf) {
	t.Helper()
	for key, l := range leaves {
		if e := tree.Put(key, l); e != api.OK {
			t.Fatalf("Put of %x: %d", key, e)
		}
	}
}

// one is the key that has just these bits.
func one(bits ...int) api.Hash {
	var key api.Hash
	for _, b := range bits {
		key[31-b/8] |= 1 << (b % 8)
	}
	return key
}

// some is n leaves at keys by chance.
func some(n int, seed int64) map[api.Hash]Leaf {
	r := rand.New(rand.NewSource(seed))
	leaves := map[api.Hash]Leaf{}
	for len(leaves) < n {
		var key api.Hash
		r.Read(key[:])
		value := make([]byte, r.Intn(100))
		r.Read(value)
		leaves[key] = Leaf{Value: value, Sum: 1 + r.Uint64()>>12}
	}
	return leaves
}

// near is leaves at keys that lie side by side, at both ends, and part at each place in a byte.
func near() map[api.Hash]Leaf {
	all := api.Hash(bytes.Repeat([]byte{255}, 32))
	leaves := map[api.Hash]Leaf{{}: {Sum: 1}, all: {Value: []byte("all")}}
	for i, b := range []int{0, 1, 6, 7, 8, 15, 16, 100, 127, 128, 247, 248, 254, 255} {
		leaves[one(b)] = Leaf{Value: []byte{byte(i)}, Sum: uint64(i)}
		leaves[one(b, 0, 9)] = Leaf{Sum: uint64(i + 1)}
	}
	return leaves
}

func keysOf(leaves map[api.Hash]Leaf) []api.Hash {
	var keys []api.Hash
	for key := range leaves {
		keys = append(keys, key)
	}
	slices.SortFunc(keys, func(a, b api.Hash) int { return strings.Compare(bitText(a), bitText(b)) })
	return keys
}

// P4.1

func TestNone(t *testing.T) {
	for _, x := range []struct {
		l    Leaf
		want bool
	}{
		{Leaf{}, true},
		{Leaf{Value: []byte{}}, true},
		{Leaf{Value: make([]byte, 0, 9)}, true},
		{Leaf{Sum: 1}, false},
		{Leaf{Sum: top}, false},
		{Leaf{Value: []byte{0}}, false},
		{Leaf{Value: []byte("a"), Sum: 1}, false},
	} {
		if got := x.l.None(); got != x.want {
			t.Errorf("None of %v: %v", x.l, got)
		}
	}
}

func TestLeafNode(t *testing.T) {
	for _, value := range [][]byte{nil, {}, {0}, []byte("abc"), make([]byte, 55), bytes.Repeat([]byte("value"), 100), make([]byte, api.MaxBytes), make([]byte, api.MaxBytes+1)} {
		for _, sum := range []uint64{0, 1, 255, 256, 0x0102030405060708, 1 << 63, top} {
			l := Leaf{Value: value, Sum: sum}
			if got, want := l.Node(), wantLeaf(l); got != want {
				t.Errorf("Node of %d bytes and %d: %x %d, want %x", len(value), sum, got.Hash, got.Sum, want.Hash)
			}
		}
	}
}

func TestBranch(t *testing.T) {
	r := rand.New(rand.NewSource(1))
	for _, x := range [][2]uint64{{0, 0}, {1, 0}, {0, 1}, {3, 4}, {0x0102030405060708, 0x1112131415161718}, {top, 0}, {0, top}, {top - 5, 5}, {1 << 63, 1<<63 - 1}} {
		a, b := Node{Sum: x[0]}, Node{Sum: x[1]}
		r.Read(a.Hash[:])
		r.Read(b.Hash[:])
		got, e := Branch(a, b)
		if want := wantBranch(a, b); e != api.OK || got != want {
			t.Errorf("Branch of %d and %d: %x %d %d, want %x", a.Sum, b.Sum, got.Hash, got.Sum, e, want.Hash)
		}
		if back, _ := Branch(b, a); back.Hash == got.Hash || back.Sum != got.Sum {
			t.Errorf("Branch of %d and %d: left and right are one", a.Sum, b.Sum)
		}
	}
}

func TestBranchOver(t *testing.T) {
	for _, x := range [][2]uint64{{top, 1}, {1, top}, {top, top}, {1 << 63, 1 << 63}} {
		got, e := Branch(Node{Hash: one(3), Sum: x[0]}, Node{Hash: one(4), Sum: x[1]})
		if e != api.ErrOver || got != (Node{}) {
			t.Errorf("Branch of %d and %d: %v %d", x[0], x[1], got, e)
		}
	}
}

func TestBit(t *testing.T) {
	for key := range near() {
		text := bitText(key)
		for h := range Height {
			if got, want := Bit(key, h), int(text[Height-1-h]-'0'); got != want {
				t.Fatalf("Bit %d of %s: %d", h, text, got)
			}
		}
	}
	if Bit(api.Hash{0: 0x80}, 255) != 1 || Bit(api.Hash{31: 1}, 0) != 1 || Bit(api.Hash{0: 0x80}, 0) != 0 || Bit(api.Hash{31: 0x80}, 7) != 1 {
		t.Error("Bit of the ends")
	}
	all := api.Hash(bytes.Repeat([]byte{255}, 32))
	for _, h := range []int{-1, -8, -255, -256, 256, 257, 511, 512, math.MinInt, math.MaxInt} {
		if got := Bit(all, h); got != 0 {
			t.Errorf("Bit %d: %d", h, got)
		}
	}
}

func TestEmpty(t *testing.T) {
	for h, want := range wantEmpty() {
		if got := Empty(h); got != want {
			t.Errorf("Empty(%d): %x %d, want %x", h, got.Hash, got.Sum, want.Hash)
		}
	}
	for _, h := range []int{-1, -256, 257, 512, math.MinInt, math.MaxInt} {
		if got := Empty(h); got != (Node{}) {
			t.Errorf("Empty(%d): %v", h, got)
		}
	}
}

// P4.2

func TestPutGetDrop(t *testing.T) {
	tree := New()
	a, b := one(3), one(200)
	if _, ok := tree.Get(a); ok || tree.Drop(a) {
		t.Error("something stands in a new tree")
	}
	for _, l := range []Leaf{{Value: []byte("a"), Sum: 3}, {Value: []byte("other")}, {Sum: 9}, {Sum: top}, {Value: make([]byte, api.MaxBytes), Sum: 1}} {
		if e := tree.Put(a, l); e != api.OK {
			t.Errorf("Put of %d bytes and %d: %d", len(l.Value), l.Sum, e)
		}
		got, ok := tree.Get(a)
		if !ok || got.Sum != l.Sum || !bytes.Equal(got.Value, l.Value) {
			t.Errorf("Get: %v %v, want %v", got, ok, l)
		}
	}
	if got, ok := tree.Get(b); ok || !got.None() {
		t.Error("Get of where nothing stands", got, ok)
	}
	if e := tree.Put(b, Leaf{Sum: 5}); e != api.OK || !slices.Equal(tree.Keys(), []api.Hash{a, b}) {
		t.Error("Put of a second leaf", e, tree.Keys())
	}
	if tree.Drop(one(4)) || len(tree.Keys()) != 2 {
		t.Error("Drop of where nothing stands")
	}
	if !tree.Drop(a) || tree.Drop(a) {
		t.Error("Drop tells it wrong whether something stood there")
	}
	if _, ok := tree.Get(a); ok || !slices.Equal(tree.Keys(), []api.Hash{b}) {
		t.Error("what was dropped stands there")
	}
	if got, ok := tree.Get(b); !ok || got.Sum != 5 {
		t.Error("what wasn't dropped is gone", got, ok)
	}
	if e := tree.Put(a, Leaf{Sum: 1}); e != api.OK || len(tree.Keys()) != 2 {
		t.Error("Put where something was dropped", e)
	}
}

func TestPutRefuses(t *testing.T) {
	tree := New()
	leaves := map[api.Hash]Leaf{one(1): {Value: []byte("a"), Sum: top - 10}, one(2): {Sum: 4}}
	put(t, tree, leaves)
	long := make([]byte, api.MaxBytes+1)
	for _, x := range []struct {
		name string
		key  api.Hash
		l    Leaf
		e    api.Errno
	}{
		{"the zero leaf", one(3), Leaf{}, api.ErrArg},
		{"the zero leaf where something stands", one(1), Leaf{Value: []byte{}}, api.ErrArg},
		{"a long Value", one(3), Leaf{Value: long}, api.ErrLong},
		{"a long Value ahead of the sum", one(3), Leaf{Value: long, Sum: top}, api.ErrLong},
		{"one too much", one(3), Leaf{Sum: 7}, api.ErrOver},
		{"one too much in another's place", one(2), Leaf{Sum: 11}, api.ErrOver},
		{"a sum that fits alone", one(3), Leaf{Value: []byte("x"), Sum: top}, api.ErrOver},
	} {
		if e := tree.Put(x.key, x.l); e != x.e {
			t.Errorf("Put of %s: %d, want %d", x.name, e, x.e)
		}
		checkTree(t, tree, leaves)
		if len(tree.Keys()) != 2 {
			t.Errorf("%s: keys %v", x.name, tree.Keys())
		}
	}
	for _, x := range []struct {
		key api.Hash
		sum uint64
	}{{one(2), 10}, {one(2), 9}, {one(3), 1}, {one(1), 0}, {one(1), top - 10}} {
		if e := tree.Put(x.key, Leaf{Value: []byte("b"), Sum: x.sum}); e != api.OK {
			t.Errorf("Put of %d, which fits: %d", x.sum, e)
		}
	}
	if tree.Drop(one(1)); tree.Put(one(4), Leaf{Sum: top - 10}) != api.OK {
		t.Error("what was dropped counts in the sum")
	}
}

func TestPutMany(t *testing.T) {
	tree := New()
	leaves := some(api.MaxList, 2)
	put(t, tree, leaves)
	keys := keysOf(leaves)
	for _, x := range []struct {
		l Leaf
		e api.Errno
	}{
		{Leaf{Sum: 1}, api.ErrMany},
		{Leaf{Sum: top}, api.ErrMany},
		{Leaf{}, api.ErrArg},
		{Leaf{Value: make([]byte, api.MaxBytes+1)}, api.ErrLong},
	} {
		if e := tree.Put(one(5), x.l); e != x.e {
			t.Errorf("Put of a 257th leaf: %d, want %d", e, x.e)
		}
	}
	leaves[keys[7]] = Leaf{Value: []byte("in its place"), Sum: 12}
	if e := tree.Put(keys[7], leaves[keys[7]]); e != api.OK {
		t.Errorf("Put where one of 256 stands: %d", e)
	}
	checkTree(t, tree, leaves, keys[7], keys[255], one(5))
	delete(leaves, keys[9])
	leaves[one(5)] = Leaf{Sum: 1}
	if !tree.Drop(keys[9]) || tree.Put(one(5), Leaf{Sum: 1}) != api.OK || tree.Put(keys[9], Leaf{Sum: 1}) != api.ErrMany {
		t.Error("what was dropped counts among the 256")
	}
	checkTree(t, tree, leaves)
}

func TestKeysRise(t *testing.T) {
	for _, leaves := range []map[api.Hash]Leaf{{}, {one(9): {Sum: 1}}, near(), some(100, 3)} {
		tree := New()
		put(t, tree, leaves)
		if got, want := tree.Keys(), keysOf(leaves); !slices.Equal(got, want) {
			t.Errorf("Keys: %x, want %x", got, want)
		}
	}
}

func TestNothingIsChangedOrKept(t *testing.T) {
	tree, a, b := New(), one(1), one(2)
	room := []byte("abcd")
	put(t, tree, map[api.Hash]Leaf{a: {Value: room[:2], Sum: 3}, b: {Value: room[:2], Sum: 4}})
	root := tree.Root()
	if string(room) != "abcd" {
		t.Error("Put has changed what was handed in", string(room))
	}
	room[0] = 'x'
	l, _ := tree.Get(a)
	other, _ := tree.Get(a)
	l.Value[1] = 'y'
	_ = append(l.Value, 'z')
	if string(other.Value) != "ab" || tree.Root() != root {
		t.Error("a tree shares a Value with an argument or an answer")
	}
	keys, beside := tree.Keys(), tree.Beside(a)
	keys[0][5], keys[1] = 9, one(77)
	clear(beside)
	if !slices.Equal(tree.Keys(), []api.Hash{a, b}) || tree.Root() != root {
		t.Error("Keys is the tree's own memory")
	}
	checkTree(t, tree, map[api.Hash]Leaf{a: {Value: []byte("ab"), Sum: 3}, b: {Value: []byte("ab"), Sum: 4}}, a, one(3))
}

func TestNilTree(t *testing.T) {
	var tree *Tree
	if e := tree.Put(one(1), Leaf{Sum: 1}); e != api.ErrArg {
		t.Error("Put", e)
	}
	if e := tree.Put(one(1), Leaf{Value: make([]byte, api.MaxBytes+1)}); e != api.ErrArg {
		t.Error("Put of a long Value", e)
	}
	if l, ok := tree.Get(one(1)); ok || !l.None() || tree.Drop(one(1)) {
		t.Error("something stands in a nil tree")
	}
	if len(tree.Keys()) != 0 || tree.Root() != (Node{}) || len(tree.Beside(one(1))) != 0 {
		t.Error("a nil tree has keys, a root, or nodes")
	}
}

func TestZeroTreeIsEmpty(t *testing.T) {
	tree := new(Tree)
	if _, ok := tree.Get(one(1)); ok || tree.Drop(one(1)) || len(tree.Keys()) != 0 {
		t.Error("something stands in the zero tree")
	}
	checkTree(t, tree, nil, one(1))
	put(t, tree, near())
	checkTree(t, tree, near(), one(1))
}

func TestTreesAreApart(t *testing.T) {
	a, b := New(), New()
	put(t, a, some(3, 4))
	put(t, b, some(5, 5))
	checkTree(t, a, some(3, 4))
	checkTree(t, b, some(5, 5))
}

// P4.3

func TestRootAndBeside(t *testing.T) {
	for _, leaves := range []map[api.Hash]Leaf{
		{},
		{{}: {Sum: 7}},
		{one(0): {Sum: 7}},
		{one(255): {Value: []byte("a")}},
		{{}: {Sum: 1}, one(0): {Sum: 2}},
		{{}: {Sum: 1}, one(255): {Sum: top - 1}},
		{one(0): {Sum: 1}, one(1): {Sum: 2}, one(0, 1): {Sum: 3}},
		near(),
		some(2, 6),
		some(30, 7),
		some(api.MaxList, 8),
	} {
		tree := New()
		put(t, tree, leaves)
		keys := append(keysOf(leaves), api.Hash{}, one(0), one(255), one(77, 3))
		checkTree(t, tree, leaves, keys[:min(len(keys), 20)]...)
		checkTree(t, tree, leaves, keys[len(keys)-4:]...)
	}
}

func TestRootHasAllSums(t *testing.T) {
	tree, sum := New(), uint64(0)
	for key, l := range some(40, 9) {
		tree.Put(key, l)
		sum += l.Sum
		if got := tree.Root().Sum; got != sum {
			t.Fatalf("Root's Sum: %d, want %d", got, sum)
		}
	}
	full := New()
	put(t, full, map[api.Hash]Leaf{one(3): {Sum: top - 5}, one(200): {Sum: 5}, {}: {Value: []byte("none")}})
	if got := full.Root().Sum; got != top {
		t.Errorf("Root's Sum: %d, want %d", got, uint64(top))
	}
}

// TestRootHangsOnLeavesAlone comes to the same leaves in several orders, and by ways around.
func TestRootHangsOnLeavesAlone(t *testing.T) {
	leaves := some(12, 10)
	keys := keysOf(leaves)
	straight, back, around := New(), New(), New()
	put(t, around, some(9, 11))
	for i, key := range keys {
		straight.Put(key, leaves[key])
		last := keys[len(keys)-1-i]
		back.Put(last, leaves[last])
		around.Put(key, Leaf{Value: []byte("for now"), Sum: uint64(i)})
		around.Root()
	}
	for key := range some(9, 11) {
		around.Drop(key)
	}
	put(t, around, leaves)
	checkTree(t, straight, leaves, keys[0])
	if straight.Root() != back.Root() || straight.Root() != around.Root() {
		t.Error("Root hangs on how the leaves came")
	}
	if !slices.Equal(straight.Beside(keys[3]), around.Beside(keys[3])) {
		t.Error("Beside hangs on how the leaves came")
	}
	back.Put(keys[5], Leaf{Value: append(bytes.Clone(leaves[keys[5]].Value), 0), Sum: leaves[keys[5]].Sum})
	if straight.Root() == back.Root() {
		t.Error("trees of two Values have one Root")
	}
}

func TestDroppedAllIsEmpty(t *testing.T) {
	tree := New()
	put(t, tree, near())
	tree.Root()
	for key := range near() {
		tree.Drop(key)
	}
	if tree.Root() != Empty(Height) || len(tree.Keys()) != 0 {
		t.Error("a tree of which all was dropped isn't empty")
	}
}

func BenchmarkRootOfOne(b *testing.B) { benchmarkRoot(b, 1) }

func BenchmarkRootOfAll(b *testing.B) { benchmarkRoot(b, api.MaxList) }

func benchmarkRoot(b *testing.B, n int) {
	tree := New()
	for key, l := range some(n, 12) {
		tree.Put(key, l)
	}
	for b.Loop() {
		tree.Root()
	}
}
