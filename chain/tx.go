package chain

import (
	"slices"

	"moneyer/api"
	"moneyer/sha"
	"moneyer/sums"
)

// MostPaths is how many ways an output has at most.
const MostPaths = 4

const txPurpose = "moneyer/tx"

// Path is one way in which an output may be spent.
type Path struct {
	Owner api.Hash // who must allow it
	And   api.Hash // who must allow it, too; all zero: nobody
	Lock  api.Hash // the digest of a secret that must be shown; all zero: none
	Wait  int      // blocks since the output was confirmed
	Until int      // the height that must be reached
}

// Out is an output.
type Out struct {
	Coins  uint64
	Paths  []Path
	Anchor api.Hash // what stands behind it
}

// In spends an output.
type In struct {
	At     api.Point
	Path   int
	Token  api.Hash
	More   api.Hash // the token of the other one who must allow it
	Secret api.Hash
}

// Tx is a transaction.
type Tx struct {
	Ins  []In
	Outs []Out
}

// Check tells what is wrong with a transaction, wherever it may stand.
func (t Tx) Check() api.Errno {
	if len(t.Ins) > api.MaxList || len(t.Outs) > api.MaxList {
		return api.ErrMany
	}
	if len(t.Ins) == 0 || len(t.Outs) == 0 {
		return api.ErrArg
	}
	for i, in := range t.Ins {
		if in.At.Out < 0 || in.At.Out >= api.MaxList || in.Path < 0 || in.Path >= MostPaths {
			return api.ErrArg
		}
		if spends(t.Ins[:i], in.At) {
			return api.ErrHave
		}
	}
	for _, o := range t.Outs {
		if err := o.Check(); err != api.OK {
			return err
		}
	}
	_, err := t.coins()
	return err
}

// spends tells whether one of some inputs spends an output.
func spends(ins []In, at api.Point) bool {
	return slices.ContainsFunc(ins, func(in In) bool { return in.At == at })
}

// coins is how many go out.
func (t Tx) coins() (uint64, api.Errno) {
	list := make([]uint64, len(t.Outs))
	for i, o := range t.Outs {
		list[i] = o.Coins
	}
	return sums.Total(list...)
}

// Check tells what is wrong with an output.
func (o Out) Check() api.Errno {
	if len(o.Paths) == 0 || len(o.Paths) > MostPaths {
		return api.ErrArg
	}
	for _, p := range o.Paths {
		if !isHeight(p.Wait) || !isHeight(p.Until) {
			return api.ErrArg
		}
	}
	return api.OK
}

// isHeight tells whether so many blocks may come.
func isHeight(n int) bool { return n >= 0 && n <= api.MaxHeight }

// Id is a transaction's name: it doesn't hang on how it is allowed.
func (t Tx) Id() api.Hash {
	if t.Check() != api.OK {
		return api.Hash{}
	}
	return t.digest()
}

// digest is the Id of a transaction that is right.
func (t Tx) digest() api.Hash {
	n := len(t.Ins)
	// Unlike all other numbers this one has its lowest byte first.
	b := []byte{byte(n), byte(n >> 8)}
	for _, in := range t.Ins {
		b = in.appendAt(b)
	}
	return sha.NewTag(txPurpose).Sum(b, outsBytes(t.Outs))
}

// clone is the same transaction in memory of its own.
func (t Tx) clone() Tx {
	t.Ins, t.Outs = slices.Clone(t.Ins), slices.Clone(t.Outs)
	for i, o := range t.Outs {
		t.Outs[i] = o.clone()
	}
	return t
}

// clone is the same output in memory of its own.
func (o Out) clone() Out {
	o.Paths = slices.Clone(o.Paths)
	return o
}
