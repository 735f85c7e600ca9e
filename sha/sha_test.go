package sha

import (
	"bytes"
	"crypto/sha256"
	"encoding"
	"encoding/binary"
	"encoding/hex"
	"math/big"
	"strings"
	"sync"
	"testing"

	"moneyer/api"
)

// some is n bytes, most of which differ from those beside them.
func some(n int) []byte {
	b := make([]byte, n)
	for i := range b {
		b[i] = byte(i*167 + i>>8*31 + 0x85)
	}
	return b
}

// want is the digest by the library.
func want(parts ...[]byte) api.Hash { return sha256.Sum256(bytes.Join(parts, nil)) }

// wantTag is a tag's digest by the library.
func wantTag(name string, parts ...[]byte) api.Hash {
	n := want([]byte(name))
	return want(n[:], n[:], bytes.Join(parts, nil))
}

// spoil turns all bytes of a list, the room behind its end included.
func spoil(b []byte) {
	b = b[:cap(b)]
	for i := range b {
		b[i] ^= 0xff
	}
}

// P3.1

func primes(n int) []int64 {
	var list []int64
	for k := int64(2); len(list) < n; k++ {
		if big.NewInt(k).ProbablyPrime(20) {
			list = append(list, k)
		}
	}
	return list
}

// isRootsPart tells whether x is the first 32 bits behind the point of the n-th root of p.
func isRootsPart(x uint32, p, n int64) bool {
	whole := int64(0)
	for power(whole+1, n).Cmp(big.NewInt(p)) <= 0 {
		whole++
	}
	scaled := new(big.Int).Lsh(big.NewInt(p), uint(32*n))
	low := whole<<32 + int64(x)
	return power(low, n).Cmp(scaled) <= 0 && power(low+1, n).Cmp(scaled) > 0
}

func power(x, n int64) *big.Int {
	return new(big.Int).Exp(big.NewInt(x), big.NewInt(n), nil)
}

func TestTables(t *testing.T) {
	for i, p := range primes(len(cubes)) {
		if i < len(first) && !isRootsPart(first[i], p, 2) {
			t.Errorf("first[%d] is %08x: not of the square root of %d", i, first[i], p)
		}
		if !isRootsPart(cubes[i], p, 3) {
			t.Errorf("cubes[%d] is %08x: not of the cube root of %d", i, cubes[i], p)
		}
	}
}

func TestSumOfTheStandard(t *testing.T) {
	for _, s := range []struct {
		text, digest string
	}{
		{"", "e3b0c44298fc1c149afbf4c8996fb92427ae41e4649b934ca495991b7852b855"},
		{"abc", "ba7816bf8f01cfea414140de5dae2223b00361a396177a9cb410ff61f20015ad"},
		{"abcdbcdecdefdefgefghfghighijhijkijkljklmklmnlmnomnopnopq", "248d6a61d20638b8e5c026930c3e6039a33ce45964ff2167f6ecedd419db06c1"},
		{"abcdefghbcdefghicdefghijdefghijkefghijklfghijklmghijklmnhijklmnoijklmnopjklmnopqklmnopqrlmnopqrsmnopqrstnopqrstu", "cf5b16a778af8380036ce59e7b0492370b249b11e8f07a51afac45037afee9d1"},
		{strings.Repeat("a", 1000000), "cdc76e5c9914fb9281a1c7e284d73e67f1809a48a497200e046d39ccc7112cd0"},
	} {
		got := Sum([]byte(s.text))
		if hex.EncodeToString(got[:]) != s.digest {
			t.Errorf("Sum of %d bytes: %x, want %s", len(s.text), got, s.digest)
		}
	}
}

func TestSumOfEachLength(t *testing.T) {
	for n := range 400 {
		b := some(n)
		if got := Sum(b); got != want(b) {
			t.Errorf("Sum of %d bytes: %x, want %x", n, got, want(b))
		}
	}
}

func TestSumOfParts(t *testing.T) {
	if got := Sum(); got != want() {
		t.Errorf("Sum of no parts: %x", got)
	}
	if got := Sum(nil, []byte{}, nil); got != want() {
		t.Errorf("Sum of empty parts: %x", got)
	}
	b := some(200)
	for i := range b {
		for j := i; j <= len(b); j += 7 {
			if got := Sum(b[:i], nil, b[i:j], b[j:]); got != want(b) {
				t.Fatalf("Sum of 200 bytes parted at %d and %d: %x", i, j, got)
			}
		}
	}
	if Sum(b[:9], b[9:90]) == Sum(b[9:90], b[:9]) {
		t.Error("parts in another order have one digest")
	}
}

func TestHasherTakesBitByBit(t *testing.T) {
	b := some(1000)
	for step := 1; step < 200; step++ {
		h := New()
		for at := 0; at < len(b); at += step {
			h.Write(b[at:min(at+step, len(b))])
		}
		if got := h.Sum(); got != want(b) {
			t.Errorf("1000 bytes, %d at a time: %x", step, got)
		}
	}
}

func TestHasherGoesOnBehindSum(t *testing.T) {
	b := some(300)
	h := New()
	for i := range b {
		for range 2 {
			if got := h.Sum(); got != want(b[:i]) {
				t.Fatalf("Sum behind %d bytes: %x, want %x", i, got, want(b[:i]))
			}
		}
		h.Write(b[i : i+1])
		h.Write(nil)
		h.Write([]byte{})
	}
	if got := h.Sum(); got != want(b) {
		t.Errorf("Sum behind all: %x", got)
	}
}

func TestHashersAreApart(t *testing.T) {
	g, h := New(), New()
	g.Write(some(70))
	h.Write(some(90))
	if g.Sum() != want(some(70)) || h.Sum() != want(some(90)) {
		t.Error("one Hasher has what another took")
	}
}

func TestZeroHasherHasTakenNothing(t *testing.T) {
	var h Hasher
	if h.Sum() != want() {
		t.Error("the zero Hasher's Sum isn't that of nothing")
	}
	h.Write(some(130))
	if h.Sum() != want(some(130)) {
		t.Error("the zero Hasher doesn't take bytes as a new one does")
	}
}

func TestNilHasher(t *testing.T) {
	var h *Hasher
	h.Write(some(100))
	if got := h.Sum(); got != (api.Hash{}) {
		t.Errorf("a nil Hasher's Sum: %x", got)
	}
}

// TestManyBits pretends that very many bytes were taken, since to take them all would last: the number of bits has 8 bytes.
func TestManyBits(t *testing.T) {
	for _, count := range []uint64{1 << 29, 1<<31 - 64, 1 << 31, 0x0123456789abcd40} {
		state := []byte("sha\x03")
		for _, x := range first {
			state = binary.BigEndian.AppendUint32(state, x)
		}
		state = append(state, make([]byte, blockSize)...)
		state = binary.BigEndian.AppendUint64(state, count)
		library := sha256.New()
		if e := library.(encoding.BinaryUnmarshaler).UnmarshalBinary(state); e != nil {
			t.Fatal(e)
		}
		library.Write(some(20))
		h := Hasher{count: count}
		h.Write(some(20))
		if got := h.Sum(); !bytes.Equal(got[:], library.Sum(nil)) {
			t.Errorf("behind %d bytes: %x, want %x", count, got, library.Sum(nil))
		}
	}
}

func TestNothingIsChangedOrKept(t *testing.T) {
	for _, n := range []int{1, 20, 55, 64, 100, 128} {
		b := append(make([]byte, 0, 256), some(n)...)
		parts := append(make([][]byte, 0, 4), b, b)
		h, tag := New(), NewTag("purpose")
		h.Write(b)
		Sum(parts...)
		tag.Sum(parts...)
		if !bytes.Equal(b, some(n)) || !bytes.Equal(b[n:256], make([]byte, 256-n)) {
			t.Errorf("%d bytes that were handed in are changed, or the room behind them", n)
		}
		if len(parts[:4][2]) != 0 || len(parts[0]) != n {
			t.Error("the list of parts is changed, or the room behind it")
		}
		spoil(b)
		if h.Sum() != want(some(n)) {
			t.Errorf("a Hasher keeps the %d bytes that were handed in", n)
		}
	}
}

// P3.2

func TestTagSum(t *testing.T) {
	for _, name := range []string{"", "a", "leaf", "moneyer/sum", "\xff\xfe\x00", "ü", strings.Repeat("long", 100)} {
		tag := NewTag(name)
		for n := range 150 {
			b := some(n)
			for range 2 {
				if got := tag.Sum(b); got != wantTag(name, b) {
					t.Fatalf("tag %q of %d bytes: %x, want %x", name, n, got, wantTag(name, b))
				}
			}
			if got := tag.Sum(b[:n/3], nil, b[n/3:]); got != wantTag(name, b) {
				t.Fatalf("tag %q of %d bytes in parts: %x", name, n, got)
			}
		}
		if tag.Sum() != wantTag(name) || tag.Sum(nil, []byte{}) != wantTag(name) {
			t.Errorf("tag %q of nothing", name)
		}
	}
}

func TestTagsAreApart(t *testing.T) {
	a, b := NewTag("a"), NewTag("b")
	x, y := a.Sum(some(5)), b.Sum(some(5))
	if x == y || x == Sum(some(5)) || x != a.Sum(some(5)) {
		t.Error("tags of two names, or a tag and none, have one digest")
	}
}

func TestTagUses(t *testing.T) {
	a, b := NewTag("a"), NewTag("a")
	if a.Uses() != 0 {
		t.Errorf("Uses of a new tag: %d", a.Uses())
	}
	for i := 1; i <= 5; i++ {
		a.Sum(some(i), nil)
		Sum(some(i))
		New().Sum()
		if a.Uses() != i || a.Uses() != i {
			t.Errorf("Uses behind %d digests: %d", i, a.Uses())
		}
	}
	a.Sum()
	if a.Uses() != 6 {
		t.Errorf("Uses behind a digest of nothing: %d, want 6", a.Uses())
	}
	if b.Uses() != 0 {
		t.Errorf("Uses of another tag of that name: %d", b.Uses())
	}
}

func TestSeveralAskATag(t *testing.T) {
	const askers, times = 16, 200
	tag := NewTag("several")
	var all sync.WaitGroup
	for i := range askers {
		all.Go(func() {
			b := some(i * 9)
			right, uses := wantTag("several", b), 0
			for range times {
				if got := tag.Sum(b); got != right {
					t.Errorf("asker %d: %x, want %x", i, got, right)
				}
				if now := tag.Uses(); now <= uses {
					t.Errorf("asker %d: Uses %d behind %d", i, now, uses)
				} else {
					uses = now
				}
			}
		})
	}
	all.Wait()
	if tag.Uses() != askers*times {
		t.Errorf("Uses: %d, want %d", tag.Uses(), askers*times)
	}
}

func TestZeroTagHasNoName(t *testing.T) {
	var tag Tag
	if tag.Sum(some(3)) != wantTag("", some(3)) || tag.Uses() != 1 {
		t.Error("the zero Tag isn't one of an empty name")
	}
}

func TestNilTag(t *testing.T) {
	var tag *Tag
	if got := tag.Sum(some(3)); got != (api.Hash{}) {
		t.Errorf("a nil Tag's Sum: %x", got)
	}
	if got := tag.Uses(); got != 0 {
		t.Errorf("a nil Tag's Uses: %d", got)
	}
}

func BenchmarkSum(b *testing.B) {
	data := some(1 << 16)
	b.SetBytes(int64(len(data)))
	for b.Loop() {
		Sum(data)
	}
}
