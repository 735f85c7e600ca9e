package chain

import (
	"moneyer/api"
	"moneyer/asset"
	"moneyer/octets"
	"moneyer/tlv"
)

// The records that a transaction is, by their types.
const (
	insType  = 0
	outsType = 2
	records  = 2
)

const (
	pointBytes  = len(api.Hash{}) + 4
	coinBytes   = 8
	heightBytes = 4
)

// Encode is a transaction's bytes.
func Encode(t Tx) ([]byte, api.Errno) {
	if err := t.Check(); err != api.OK {
		return nil, err
	}
	var ins []byte
	for _, in := range t.Ins {
		ins = in.appendTo(ins)
	}
	return tlv.Encode([]tlv.Record{
		{Type: insType, Value: ins},
		{Type: outsType, Value: outsBytes(t.Outs)},
	})
}

// appendAt is bytes with the output behind them that an input spends.
func (in In) appendAt(b []byte) []byte { return append(b, asset.PutPoint(in.At)...) }

// appendTo is bytes with an input's behind them.
func (in In) appendTo(b []byte) []byte {
	b = append(in.appendAt(b), byte(in.Path))
	b = append(b, in.Token[:]...)
	b = append(b, in.More[:]...)
	return append(b, in.Secret[:]...)
}

// outsBytes is the bytes of outputs, one behind the other.
func outsBytes(outs []Out) []byte {
	var b []byte
	for _, o := range outs {
		b = octets.Append(b, o.Coins, coinBytes)
		b = append(b, o.Anchor[:]...)
		b = append(b, byte(len(o.Paths)))
		for _, p := range o.Paths {
			b = p.appendTo(b)
		}
	}
	return b
}

// appendTo is bytes with a path's behind them.
func (p Path) appendTo(b []byte) []byte {
	b = append(b, p.Owner[:]...)
	b = append(b, p.And[:]...)
	b = append(b, p.Lock[:]...)
	b = octets.Append(b, uint64(p.Wait), heightBytes)
	return octets.Append(b, uint64(p.Until), heightBytes)
}

// Decode is the transaction of bytes.
func Decode(b []byte) (Tx, api.Errno) {
	list, err := tlv.Decode(b)
	if err != api.OK {
		return Tx{}, err
	}
	if len(list) != records || list[0].Type != insType || list[1].Type != outsType {
		return Tx{}, api.ErrForm
	}
	ins, err := readAll(list[0].Value, (*reader).in)
	if err != api.OK {
		return Tx{}, err
	}
	outs, err := readAll(list[1].Value, (*reader).out)
	if err != api.OK {
		return Tx{}, err
	}
	t := Tx{Ins: ins, Outs: outs}
	if err = t.Check(); err != api.OK {
		return Tx{}, err
	}
	return t, api.OK
}

// readAll is all of one kind that bytes are, one behind the other.
func readAll[E any](b []byte, next func(r *reader) (E, api.Errno)) ([]E, api.Errno) {
	var list []E
	for r := (reader{left: b}); r.more(); {
		x, err := next(&r)
		if err != api.OK {
			return nil, err
		}
		list = append(list, x)
	}
	return list, api.OK
}

// reader takes bytes from their beginning on.
type reader struct {
	left []byte
	// short is whether more was to be taken than there was: what was taken then is noughts.
	short bool
}

// more tells whether anything is left.
func (r *reader) more() bool { return len(r.left) > 0 }

// take is the next n bytes, or none, if there are fewer.
func (r *reader) take(n int) []byte {
	if len(r.left) < n {
		r.left, r.short = nil, true
		return nil
	}
	b := r.left[:n]
	r.left = r.left[n:]
	return b
}

// number is the next n bytes as a number.
func (r *reader) number(n int) uint64 { return octets.Read(r.take(n)) }

// hash is the next bytes as a digest.
func (r *reader) hash() api.Hash {
	var h api.Hash
	copy(h[:], r.take(len(h)))
	return h
}

// in is the input that comes next.
func (r *reader) in() (In, api.Errno) {
	head := r.take(pointBytes)
	if r.short {
		return In{}, api.ErrShort
	}
	at, err := asset.GetPoint(head)
	if err != api.OK {
		return In{}, err
	}
	in := In{At: at, Path: int(r.number(1)), Token: r.hash(), More: r.hash(), Secret: r.hash()}
	if r.short {
		return In{}, api.ErrShort
	}
	return in, api.OK
}

// out is the output that comes next.
func (r *reader) out() (Out, api.Errno) {
	out := Out{Coins: r.number(coinBytes), Anchor: r.hash()}
	for range r.number(1) {
		out.Paths = append(out.Paths, r.path())
	}
	if r.short {
		return Out{}, api.ErrShort
	}
	return out, api.OK
}

// path is the path that comes next.
func (r *reader) path() Path {
	return Path{
		Owner: r.hash(),
		And:   r.hash(),
		Lock:  r.hash(),
		Wait:  int(r.number(heightBytes)),
		Until: int(r.number(heightBytes)),
	}
}
