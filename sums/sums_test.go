package sums

import (
	"math/big"
	"slices"
	"testing"

	"moneyer/api"
)

const top = 1<<64 - 1

// edges are numbers near which a sum, a product or a part may stop fitting.
var edges = []uint64{0, 1, 2, 3, 5, 7, 10, 252, 253921, 1<<16 - 1, 1 << 16, 1<<32 - 1, 1 << 32, 1<<32 + 1, 1<<47 + 9, 145295143558111, 1<<63 - 1, 1 << 63, 1<<63 + 1, top - 2, top - 1, top}

func wide(x uint64) *big.Int { return new(big.Int).SetUint64(x) }

// fitted is an exact number as an answer: ErrOver where it doesn't fit.
func fitted(x *big.Int) (uint64, api.Errno) {
	if !x.IsUint64() {
		return 0, api.ErrOver
	}
	return x.Uint64(), api.OK
}

// partOf is Part, worked out with numbers of any size.
func partOf(a, n, d uint64, up bool) (uint64, api.Errno) {
	if d == 0 {
		return 0, api.ErrZero
	}
	q, r := new(big.Int).QuoRem(new(big.Int).Mul(wide(a), wide(n)), wide(d), new(big.Int))
	if up && r.Sign() > 0 {
		q.Add(q, big.NewInt(1))
	}
	return fitted(q)
}

// P1.1

func TestAddSubMul(t *testing.T) {
	for _, a := range edges {
		for _, b := range edges {
			want, e := fitted(new(big.Int).Add(wide(a), wide(b)))
			if got, f := Add(a, b); got != want || f != e {
				t.Errorf("Add(%d, %d): %d %d, want %d %d", a, b, got, f, want, e)
			}
			want, e = fitted(new(big.Int).Mul(wide(a), wide(b)))
			if got, f := Mul(a, b); got != want || f != e {
				t.Errorf("Mul(%d, %d): %d %d, want %d %d", a, b, got, f, want, e)
			}
			want, e = a-b, api.OK
			if b > a {
				want, e = 0, api.ErrLess
			}
			if got, f := Sub(a, b); got != want || f != e {
				t.Errorf("Sub(%d, %d): %d %d, want %d %d", a, b, got, f, want, e)
			}
		}
	}
}

func TestTotal(t *testing.T) {
	for _, x := range []struct {
		list []uint64
		want uint64
		e    api.Errno
	}{
		{nil, 0, api.OK},
		{[]uint64{}, 0, api.OK},
		{[]uint64{0}, 0, api.OK},
		{[]uint64{top}, top, api.OK},
		{[]uint64{1, 2, 3}, 6, api.OK},
		{[]uint64{top - 3, 1, 0, 2}, top, api.OK},
		{[]uint64{top - 3, 1, 0, 3}, 0, api.ErrOver},
		{[]uint64{1 << 63, 1 << 63}, 0, api.ErrOver},
		// What is behind a sum that doesn't fit can't let it fit again.
		{[]uint64{top, 1, 5}, 0, api.ErrOver},
		{[]uint64{top, top, top}, 0, api.ErrOver},
	} {
		if got, e := Total(x.list...); got != x.want || e != x.e {
			t.Errorf("Total(%v): %d %d, want %d %d", x.list, got, e, x.want, x.e)
		}
	}
}

// P1.2

func TestPart(t *testing.T) {
	for _, a := range edges {
		for _, n := range edges {
			for _, d := range edges {
				for _, up := range []bool{false, true} {
					want, e := partOf(a, n, d, up)
					if got, f := Part(a, n, d, up); got != want || f != e {
						t.Errorf("Part(%d, %d, %d, %v): %d %d, want %d %d", a, n, d, up, got, f, want, e)
					}
				}
			}
		}
	}
}

func TestPartExamples(t *testing.T) {
	for _, x := range []struct {
		a, n, d uint64
		up      bool
		want    uint64
		e       api.Errno
	}{
		{7, 3, 2, false, 10, api.OK},
		{7, 3, 2, true, 11, api.OK},
		{6, 3, 2, true, 9, api.OK},
		{0, 3, 2, true, 0, api.OK},
		// The product is 2^65 - 1: its half fits rounded down alone.
		{253921, 145295143558111, 2, false, top, api.OK},
		{253921, 145295143558111, 2, true, 0, api.ErrOver},
		// Parted by nought is told ahead of what doesn't fit.
		{top, top, 0, true, 0, api.ErrZero},
		{0, 0, 0, false, 0, api.ErrZero},
	} {
		if got, e := Part(x.a, x.n, x.d, x.up); got != x.want || e != x.e {
			t.Errorf("Part(%d, %d, %d, %v): %d %d, want %d %d", x.a, x.n, x.d, x.up, got, e, x.want, x.e)
		}
	}
}

func TestCovers(t *testing.T) {
	for _, a := range edges {
		for _, n := range edges {
			for _, b := range edges {
				for _, d := range edges {
					have := new(big.Int).Mul(wide(a), wide(n))
					need := new(big.Int).Mul(wide(b), wide(d))
					if got, want := Covers(a, n, b, d), need.Cmp(have) <= 0; got != want {
						t.Fatalf("Covers(%d, %d, %d, %d): %v", a, n, b, d, got)
					}
				}
			}
		}
	}
	// Products that differ by 1 alone, both above 2^64.
	if !Covers(1<<33, 1<<33, 1<<33-1, 1<<33+1) || Covers(1<<33-1, 1<<33+1, 1<<33, 1<<33) {
		t.Error("Covers isn't exact above 2^64")
	}
}

// P1.3

func TestShare(t *testing.T) {
	for _, x := range []struct {
		sum     uint64
		weights []uint64
		want    []uint64
	}{
		{10, []uint64{1, 1, 1}, []uint64{4, 3, 3}},
		{10, []uint64{0, 1, 0, 2}, []uint64{0, 4, 0, 6}},
		{11, []uint64{1, 1, 1}, []uint64{4, 4, 3}},
		{9, []uint64{1, 1, 1}, []uint64{3, 3, 3}},
		{0, []uint64{3, 0, 4}, []uint64{0, 0, 0}},
		{1, []uint64{0, 0, 7, 100}, []uint64{0, 0, 1, 0}},
		// What is left goes by the order, not by the weight.
		{2, []uint64{1, 1, 1000}, []uint64{1, 0, 1}},
		{3, []uint64{0, 1, 0, 1, 0, 1, 1}, []uint64{0, 1, 0, 1, 0, 1, 0}},
		{top, []uint64{1}, []uint64{top}},
		{top, []uint64{1, 1}, []uint64{1 << 63, 1<<63 - 1}},
		{top, []uint64{top - 1, 1}, []uint64{top - 1, 1}},
		{top - 1, []uint64{top - 1, 1}, []uint64{top - 1, 0}},
	} {
		got, e := Share(x.sum, x.weights)
		if e != api.OK || !slices.Equal(got, x.want) {
			t.Errorf("Share(%d, %v): %v %d, want %v", x.sum, x.weights, got, e, x.want)
		}
	}
}

func TestShareIsTheSum(t *testing.T) {
	for _, sum := range edges {
		for _, a := range edges {
			for _, b := range edges {
				weights := []uint64{0, a, 1, b, 0, 3}
				all, e := Total(weights...)
				got, f := Share(sum, weights)
				if e != f {
					t.Fatalf("Share(%d, %v): %d, want %d", sum, weights, f, e)
				}
				if e == api.OK {
					checkShares(t, sum, all, weights, got)
				}
			}
		}
	}
}

// checkShares asks of every share: its part, and one more just as long as any of the sum is left.
func checkShares(t *testing.T, sum, all uint64, weights, got []uint64) {
	t.Helper()
	left := sum
	want := make([]uint64, len(weights))
	for i, w := range weights {
		want[i], _ = partOf(sum, w, all, false)
		left -= want[i]
	}
	for i, w := range weights {
		if w != 0 && left > 0 {
			want[i]++
			left--
		}
	}
	if left != 0 || !slices.Equal(got, want) {
		t.Fatalf("Share(%d, %v): %v, want %v, left %d", sum, weights, got, want, left)
	}
	if s, e := Total(got...); s != sum || e != api.OK {
		t.Fatalf("Share(%d, %v): %v is %d together, %d", sum, weights, got, s, e)
	}
}

func TestShareRefuses(t *testing.T) {
	for _, x := range []struct {
		weights []uint64
		e       api.Errno
	}{
		{nil, api.ErrZero},
		{[]uint64{}, api.ErrZero},
		{[]uint64{0, 0, 0}, api.ErrZero},
		{[]uint64{top, 1}, api.ErrOver},
		// Together they would be 2^64, which is 0 where it isn't told.
		{[]uint64{1 << 63, 0, 1 << 63}, api.ErrOver},
	} {
		for _, sum := range []uint64{0, 10, top} {
			if got, e := Share(sum, x.weights); e != x.e || len(got) != 0 {
				t.Errorf("Share(%d, %v): %v %d, want %d", sum, x.weights, got, e, x.e)
			}
		}
	}
}

func TestShareLeavesItsWeights(t *testing.T) {
	room := []uint64{2, 3, 99, 98}
	got, e := Share(8, room[:2])
	if e != api.OK || !slices.Equal(room, []uint64{2, 3, 99, 98}) {
		t.Error("Share has changed what was handed in", room, e)
	}
	got[0] = 77
	if room[0] != 2 {
		t.Error("Share's answer is its argument's memory")
	}
}
