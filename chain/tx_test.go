package chain

import (
	"bytes"
	"crypto/sha256"
	"encoding/binary"
	"math"
	"math/rand"
	"slices"
	"testing"

	"moneyer/api"
)

const top = 1<<64 - 1

// hash is one of a number; no two have one.
func hash(n int) api.Hash { return sha256.Sum256([]byte{byte(n), byte(n >> 8)}) }

// want is the digest for a purpose, by the library.
func want(purpose string, parts ...[]byte) api.Hash {
	name := sha256.Sum256([]byte(purpose))
	return sha256.Sum256(slices.Concat(name[:], name[:], bytes.Join(parts, nil)))
}

func samePath(a, b Path) bool { return a == b }

func sameOut(a, b Out) bool {
	return a.Coins == b.Coins && a.Anchor == b.Anchor && slices.EqualFunc(a.Paths, b.Paths, samePath)
}

func sameTx(a, b Tx) bool {
	return slices.Equal(a.Ins, b.Ins) && slices.EqualFunc(a.Outs, b.Outs, sameOut)
}

// in spends output n of a transaction, by a path, with all that an input may have.
func in(tx, n, path int) In {
	return In{At: api.Point{Tx: hash(tx), Out: n}, Path: path, Token: hash(901), More: hash(902), Secret: hash(903)}
}

// out is an output with n paths, in each of which nothing is zero.
func out(coins uint64, n int) Out {
	o := Out{Coins: coins, Anchor: hash(int(coins % 1000))}
	for i := range n {
		o.Paths = append(o.Paths, Path{Owner: hash(10 + i), And: hash(20 + i), Lock: hash(30 + i), Wait: 0x01020304 + i, Until: 0x0a0b0c0d + i})
	}
	return o
}

// two is a transaction with two inputs and two outputs.
func two() Tx {
	return Tx{Ins: []In{in(1, 0xc7, 3), in(2, 0, 1)}, Outs: []Out{out(0x0102030405060708, 1), out(9, 4)}}
}

// with is two, changed.
func with(change func(t *Tx)) Tx {
	t := two()
	change(&t)
	return t
}

// manyIns is n inputs that spend what differs.
func manyIns(n int) []In {
	var list []In
	for i := range n {
		list = append(list, in(1+i/256, i%256, i%4))
	}
	return list
}

// rights are such as may be, at both ends of what may be.
func rights() []Tx {
	return []Tx{
		two(),
		{Ins: []In{{}}, Outs: []Out{{Paths: []Path{{}}}}},
		{Ins: []In{in(1, 255, 3)}, Outs: []Out{out(top, 4)}},
		{Ins: manyIns(256), Outs: slices.Repeat([]Out{out(top/256, 1)}, 256)},
		{Ins: manyIns(256), Outs: slices.Repeat([]Out{out(top/256, 1)}, 255)},
		{Ins: manyIns(255), Outs: []Out{out(0, 2), out(0, 2), out(top, 3), out(0, 1)}},
		{Ins: []In{in(1, 0, 0), in(1, 1, 0), in(2, 0, 0)}, Outs: []Out{out(1, 1)}},
		with(func(t *Tx) { t.Outs[0].Paths[0].Wait, t.Outs[0].Paths[0].Until = 0, 0 }),
		with(func(t *Tx) { t.Outs[1].Paths[3].Wait, t.Outs[1].Paths[3].Until = 1<<30, 1<<30 }),
		with(func(t *Tx) { t.Outs[0].Coins, t.Outs[1].Coins = top-5, 5 }),
	}
}

type wrong struct {
	t Tx
	e api.Errno
}

// wrongs are such as may not be, and why.
func wrongs() map[string]wrong {
	again := in(1, 0xc7, 0)
	again.Token = api.Hash{}
	return map[string]wrong{
		"nothing":                        {Tx{}, api.ErrArg},
		"no inputs":                      {with(func(t *Tx) { t.Ins = nil }), api.ErrArg},
		"no outputs":                     {with(func(t *Tx) { t.Outs = []Out{} }), api.ErrArg},
		"257 inputs":                     {with(func(t *Tx) { t.Ins = manyIns(257) }), api.ErrMany},
		"257 outputs":                    {with(func(t *Tx) { t.Outs = slices.Repeat(t.Outs[:1], 257) }), api.ErrMany},
		"an input at output -1":          {with(func(t *Tx) { t.Ins[1].At.Out = -1 }), api.ErrArg},
		"an input at output 256":         {with(func(t *Tx) { t.Ins[1].At.Out = 256 }), api.ErrArg},
		"an input at output 2^32":        {with(func(t *Tx) { t.Ins[0].At.Out = 1 << 32 }), api.ErrArg},
		"an input at the least output":   {with(func(t *Tx) { t.Ins[0].At.Out = math.MinInt }), api.ErrArg},
		"path -1":                        {with(func(t *Tx) { t.Ins[0].Path = -1 }), api.ErrArg},
		"path 4":                         {with(func(t *Tx) { t.Ins[1].Path = 4 }), api.ErrArg},
		"path 256":                       {with(func(t *Tx) { t.Ins[1].Path = 256 }), api.ErrArg},
		"an output spent twice":          {with(func(t *Tx) { t.Ins[1] = t.Ins[0] }), api.ErrHave},
		"one spent twice in two ways":    {with(func(t *Tx) { t.Ins = append(t.Ins, again) }), api.ErrHave},
		"no paths":                       {with(func(t *Tx) { t.Outs[1].Paths = nil }), api.ErrArg},
		"5 paths":                        {with(func(t *Tx) { t.Outs[0] = out(1, 5) }), api.ErrArg},
		"a wait of -1":                   {with(func(t *Tx) { t.Outs[1].Paths[3].Wait = -1 }), api.ErrArg},
		"a wait of 2^30 + 1":             {with(func(t *Tx) { t.Outs[1].Paths[0].Wait = 1<<30 + 1 }), api.ErrArg},
		"a height of -1":                 {with(func(t *Tx) { t.Outs[0].Paths[0].Until = -1 }), api.ErrArg},
		"a height of 2^30 + 1":           {with(func(t *Tx) { t.Outs[1].Paths[1].Until = 1<<30 + 1 }), api.ErrArg},
		"a height of 2^32":               {with(func(t *Tx) { t.Outs[1].Paths[1].Until = 1 << 32 }), api.ErrArg},
		"too many coins of two":          {with(func(t *Tx) { t.Outs[0].Coins, t.Outs[1].Coins = top, 1 }), api.ErrOver},
		"too many coins of 256":          {with(func(t *Tx) { t.Outs = slices.Repeat([]Out{out(1<<56, 1)}, 256) }), api.ErrOver},
		"257 inputs, no outputs":         {Tx{Ins: manyIns(257)}, api.ErrMany},
		"257 outputs, no inputs":         {Tx{Outs: slices.Repeat([]Out{out(1, 1)}, 257)}, api.ErrMany},
		"257 inputs that are all one":    {Tx{Ins: slices.Repeat([]In{in(1, 0, 9)}, 257), Outs: two().Outs}, api.ErrMany},
		"no inputs, no paths":            {Tx{Outs: []Out{{}}}, api.ErrArg},
		"twice ahead of path 4":          {with(func(t *Tx) { t.Ins = append(t.Ins, t.Ins[0], in(3, 0, 4)) }), api.ErrHave},
		"path 4 ahead of twice":          {with(func(t *Tx) { t.Ins = append(t.Ins, in(3, 0, 4), t.Ins[0]) }), api.ErrArg},
		"twice, the second by path 4":    {with(func(t *Tx) { t.Ins[1] = in(1, 0xc7, 4) }), api.ErrArg},
		"twice ahead of no paths":        {with(func(t *Tx) { t.Ins[1], t.Outs[0].Paths = t.Ins[0], nil }), api.ErrHave},
		"twice ahead of too many coins":  {with(func(t *Tx) { t.Ins[1], t.Outs[0].Coins = t.Ins[0], top }), api.ErrHave},
		"no paths ahead of too many":     {with(func(t *Tx) { t.Outs[0].Coins, t.Outs[1].Paths = top, nil }), api.ErrArg},
		"too many coins, the first none": {with(func(t *Tx) { t.Outs = []Out{out(0, 1), out(1<<63, 1), out(1<<63, 1)} }), api.ErrOver},
	}
}

// pathBytes and outBytes are laid by hand.
func pathBytes(p Path) []byte {
	b := slices.Concat(p.Owner[:], p.And[:], p.Lock[:])
	b = binary.BigEndian.AppendUint32(b, uint32(p.Wait))
	return binary.BigEndian.AppendUint32(b, uint32(p.Until))
}

func outBytes(o Out) []byte {
	b := append(binary.BigEndian.AppendUint64(nil, o.Coins), o.Anchor[:]...)
	b = append(b, byte(len(o.Paths)))
	for _, p := range o.Paths {
		b = append(b, pathBytes(p)...)
	}
	return b
}

// atBytes is the output that an input spends, laid by hand.
func atBytes(i In) []byte {
	return binary.BigEndian.AppendUint32(bytes.Clone(i.At.Tx[:]), uint32(i.At.Out))
}

// inBytes is an input's bytes, laid by hand.
func inBytes(i In) []byte {
	return slices.Concat(atBytes(i), []byte{byte(i.Path)}, i.Token[:], i.More[:], i.Secret[:])
}

// joined is what a function makes of all, one behind the other.
func joined[E any](list []E, f func(E) []byte) []byte {
	var b []byte
	for _, x := range list {
		b = append(b, f(x)...)
	}
	return b
}

// wantId is a transaction's Id, by the library and by hand.
func wantId(t Tx) api.Hash {
	n := binary.LittleEndian.AppendUint16(nil, uint16(len(t.Ins)))
	return want("moneyer/tx", n, joined(t.Ins, atBytes), joined(t.Outs, outBytes))
}

// P10.1

func TestOutCheck(t *testing.T) {
	for n := range 8 {
		e := api.ErrArg
		if n >= 1 && n <= 4 {
			e = api.OK
		}
		if got := out(5, n).Check(); got != e {
			t.Errorf("Check of an output with %d paths: %d, want %d", n, got, e)
		}
	}
	for _, x := range []struct {
		n int
		e api.Errno
	}{
		{0, api.OK}, {1, api.OK}, {1<<30 - 1, api.OK}, {1 << 30, api.OK},
		{-1, api.ErrArg}, {1<<30 + 1, api.ErrArg}, {1 << 32, api.ErrArg}, {math.MinInt, api.ErrArg}, {math.MaxInt, api.ErrArg},
	} {
		for i := range 4 {
			o := out(top, 4)
			o.Paths[i].Wait = x.n
			if got := o.Check(); got != x.e {
				t.Errorf("Check of an output with a wait of %d in path %d: %d, want %d", x.n, i, got, x.e)
			}
			o = out(0, 4)
			o.Paths[i].Until = x.n
			if got := o.Check(); got != x.e {
				t.Errorf("Check of an output with a height of %d in path %d: %d, want %d", x.n, i, got, x.e)
			}
		}
	}
	if got := (Out{Paths: []Path{{}}}).Check(); got != api.OK || MostPaths != 4 {
		t.Errorf("Check of an output with a zero path: %d", got)
	}
}

func TestTxCheck(t *testing.T) {
	for i, x := range rights() {
		if e := x.Check(); e != api.OK {
			t.Errorf("Check of transaction %d: %d", i, e)
		}
	}
	for name, w := range wrongs() {
		if e := w.t.Check(); e != w.e {
			t.Errorf("Check of %s: %d, want %d", name, e, w.e)
		}
	}
}

// P10.2

func TestId(t *testing.T) {
	seen := map[api.Hash]int{}
	for i, x := range rights() {
		if got := x.Id(); got != wantId(x) {
			t.Errorf("Id of transaction %d: %x, want %x", i, got, wantId(x))
		}
		if j, had := seen[x.Id()]; had {
			t.Errorf("transaction %d and %d have one Id", j, i)
		}
		seen[x.Id()] = i
	}
	for name, w := range wrongs() {
		if got := w.t.Id(); got != (api.Hash{}) {
			t.Errorf("Id of %s: %x", name, got)
		}
	}
}

func TestIdHangsOn(t *testing.T) {
	for name, change := range map[string]func(t *Tx){
		"another output spent": func(t *Tx) { t.Ins[0].At.Out-- },
		"another tx's output":  func(t *Tx) { t.Ins[1].At.Tx[31]++ },
		"an input more":        func(t *Tx) { t.Ins = append(t.Ins, in(3, 0, 0)) },
		"an input fewer":       func(t *Tx) { t.Ins = t.Ins[:1] },
		"inputs turned":        func(t *Tx) { slices.Reverse(t.Ins) },
		"outputs turned":       func(t *Tx) { slices.Reverse(t.Outs) },
		"an output fewer":      func(t *Tx) { t.Outs = t.Outs[:1] },
		"a coin more":          func(t *Tx) { t.Outs[1].Coins++ },
		"another anchor":       func(t *Tx) { t.Outs[1].Anchor[31]++ },
		"another owner":        func(t *Tx) { t.Outs[1].Paths[3].Owner[31]++ },
		"another second owner": func(t *Tx) { t.Outs[1].Paths[3].And[31]++ },
		"another lock":         func(t *Tx) { t.Outs[1].Paths[3].Lock[31]++ },
		"another wait":         func(t *Tx) { t.Outs[1].Paths[3].Wait++ },
		"another height":       func(t *Tx) { t.Outs[1].Paths[3].Until++ },
		"paths turned":         func(t *Tx) { slices.Reverse(t.Outs[1].Paths) },
		"a path fewer":         func(t *Tx) { t.Outs[1].Paths = t.Outs[1].Paths[:3] },
	} {
		if x := with(change); x.Id() == two().Id() || x.Id() != wantId(x) {
			t.Errorf("Id with %s: %x", name, x.Id())
		}
	}
	for name, change := range map[string]func(i *In){
		"path":   func(i *In) { i.Path = 2 },
		"token":  func(i *In) { i.Token = api.Hash{} },
		"more":   func(i *In) { i.More = hash(5) },
		"secret": func(i *In) { i.Secret = hash(6) },
	} {
		if x := with(func(t *Tx) { change(&t.Ins[0]) }); x.Id() != two().Id() {
			t.Errorf("Id with another %s is another", name)
		}
	}
}

// record is a record's bytes, laid by hand, of a type below 253 and fewer bytes than 2^16.
func record(kind byte, value []byte) []byte {
	head := []byte{kind, byte(len(value))}
	if len(value) >= 253 {
		head = []byte{kind, 253, byte(len(value) >> 8), byte(len(value))}
	}
	return append(head, value...)
}

// pair is records 0 and 2, laid by hand.
func pair(ins, outs []byte) []byte { return append(record(0, ins), record(2, outs)...) }

// wantBytes is a transaction's bytes, laid by hand.
func wantBytes(t Tx) []byte { return pair(joined(t.Ins, inBytes), joined(t.Outs, outBytes)) }

func TestEncodeDecode(t *testing.T) {
	for i, x := range rights() {
		b, e := Encode(x)
		if e != api.OK || !bytes.Equal(b, wantBytes(x)) {
			t.Errorf("Encode of transaction %d: %d bytes %d, want %d", i, len(b), e, len(wantBytes(x)))
		}
		if got, e := Decode(wantBytes(x)); e != api.OK || !sameTx(got, x) {
			t.Errorf("Decode of transaction %d: %v %d", i, got, e)
		}
	}
	if got := len(wantBytes(two())); got != 2+2+2*133+2+2+2*41+5*104 {
		t.Errorf("two's bytes: %d", got)
	}
}

func TestEncodeRefuses(t *testing.T) {
	for name, w := range wrongs() {
		if b, e := Encode(w.t); e != w.e || len(b) > 0 {
			t.Errorf("Encode of %s: %d bytes %d, want %d", name, len(b), e, w.e)
		}
	}
}

// outsOf is n outputs with so many paths together.
func outsOf(n, paths int) []Out {
	var list []Out
	for i := range n {
		list = append(list, out(1, (paths+i)/n))
	}
	return list
}

// TestEncodeOfMuch: outputs that are right may have more bytes than a record may.
func TestEncodeOfMuch(t *testing.T) {
	for _, x := range []struct {
		n, paths, bytes int
		e               api.Errno
	}{
		{143, 572, 65351, api.OK},
		{216, 545, 65536, api.OK},
		{145, 573, 65537, api.ErrLong},
		{256, 1024, 116992, api.ErrLong},
	} {
		tx := Tx{Ins: manyIns(2), Outs: outsOf(x.n, x.paths)}
		outs := joined(tx.Outs, outBytes)
		b, e := Encode(tx)
		if len(outs) != x.bytes || e != x.e || e != api.OK && len(b) > 0 {
			t.Errorf("Encode of %d bytes of outputs: %d bytes %d, want %d", len(outs), len(b), e, x.e)
		}
		if e == api.OK && (!bytes.HasSuffix(b, outs) || len(b) < len(outs)+2*133) {
			t.Errorf("Encode of %d bytes of outputs: others", len(outs))
		}
		if got, e := Decode(b); x.e == api.OK && (e != api.OK || !sameTx(got, tx)) {
			t.Errorf("Decode of %d bytes of outputs: %d", len(outs), e)
		}
		if tx.Id() != wantId(tx) {
			t.Errorf("Id of %d bytes of outputs: %x", len(outs), tx.Id())
		}
	}
}

func TestDecodeRefuses(t *testing.T) {
	ins, outs := joined(two().Ins, inBytes), joined(two().Outs, outBytes)
	far := inBytes(in(1, 256, 0))
	type row struct {
		name string
		b    []byte
		e    api.Errno
	}
	list := []row{
		{"nothing", nil, api.ErrForm},
		{"half a record", pair(ins, outs)[:20], api.ErrShort},
		{"a number in another form", []byte{0xfd, 0, 0}, api.ErrForm},
		{"records that fall", append(record(2, outs), record(0, ins)...), api.ErrOrder},
		{"a record that is too long", []byte{0, 0xfe, 0, 1, 0, 1}, api.ErrLong},
		{"the inputs alone", record(0, ins), api.ErrForm},
		{"the outputs alone", record(2, outs), api.ErrForm},
		{"three records", append(pair(ins, outs), record(4, nil)...), api.ErrForm},
		{"three records, the last odd", append(pair(ins, outs), record(3, nil)...), api.ErrForm},
		{"a third between", slices.Concat(record(0, ins), record(1, nil), record(2, outs)), api.ErrForm},
		{"types 0 and 1", append(record(0, ins), record(1, outs)...), api.ErrForm},
		{"types 0 and 4", append(record(0, ins), record(4, outs)...), api.ErrForm},
		{"types 1 and 2", append(record(1, ins), record(2, outs)...), api.ErrForm},
		{"types 2 and 4", append(record(2, ins), record(4, outs)...), api.ErrForm},
		{"no inputs", pair(nil, outs), api.ErrArg},
		{"no outputs", pair(ins, nil), api.ErrArg},
		{"neither", pair(nil, nil), api.ErrArg},
		{"an input at output 256", pair(far, outs), api.ErrArg},
		{"an input at output 256, cut behind it", pair(far[:36], outs), api.ErrArg},
		{"an input at output 256, cut in it", pair(far[:35], outs), api.ErrShort},
		{"an input cut, then one at 256", pair(slices.Concat(ins, far[:36]), outs), api.ErrArg},
		{"an input at 256, the outputs cut", pair(far, outs[:7]), api.ErrArg},
		{"an input cut, the outputs cut", pair(ins[:140], outs[:7]), api.ErrShort},
		{"inputs that are one ahead of outputs cut", pair(slices.Concat(ins, ins), outs[:7]), api.ErrShort},
		{"path 4 ahead of outputs cut", pair(inBytes(in(1, 0, 4)), outs[:7]), api.ErrShort},
	}
	for name, w := range wrongs() {
		// What has no byte or too many of them can't be laid: another output, another path, numbers below 0.
		if b := wantBytes(w.t); len(w.t.Ins) <= 300 && !slices.Contains([]string{"path -1", "path 256", "an input at output 2^32", "an input at the least output", "a height of 2^32"}, name) {
			list = append(list, row{name, b, w.e})
		}
	}
	for _, x := range list {
		if got, e := Decode(x.b); e != x.e || !sameTx(got, Tx{}) {
			t.Errorf("Decode of %s: %v %d, want %d", x.name, got, e, x.e)
		}
	}
}

// TestDecodeOfMore has more inputs, outputs or paths than may be, as many as bytes let there be.
func TestDecodeOfMore(t *testing.T) {
	ins, outs := joined(two().Ins, inBytes), joined(two().Outs, outBytes)
	for _, x := range []struct {
		name string
		b    []byte
		e    api.Errno
	}{
		{"492 inputs", pair(joined(manyIns(492), inBytes), outs), api.ErrMany},
		{"492 inputs, and 1 output without a path", pair(joined(manyIns(492), inBytes), make([]byte, 41)), api.ErrMany},
		{"1598 outputs without a path", pair(ins, make([]byte, 1598*41)), api.ErrMany},
		{"256 outputs without a path", pair(ins, make([]byte, 256*41)), api.ErrArg},
		{"an output of 255 paths", pair(ins, outBytes(out(1, 255))), api.ErrArg},
		{"an output of 255 paths, cut", pair(ins, outBytes(out(1, 255))[:254*104]), api.ErrShort},
		{"an output of 4 paths that says 5", pair(ins, slices.Concat(outBytes(out(1, 5))[:41], outBytes(out(1, 4))[41:])), api.ErrShort},
		{"an output of 5 paths that says 4", pair(ins, slices.Concat(outBytes(out(1, 4))[:41], outBytes(out(1, 5))[41:])), api.ErrShort},
	} {
		if got, e := Decode(x.b); e != x.e || !sameTx(got, Tx{}) {
			t.Errorf("Decode of %s: %v %d, want %d", x.name, got, e, x.e)
		}
	}
}

// TestDecodeCutWithin ends the inputs, and the outputs, at each byte: behind a whole one what is there is a transaction.
func TestDecodeCutWithin(t *testing.T) {
	x := two()
	ins, outs := joined(x.Ins, inBytes), joined(x.Outs, outBytes)
	for n := range len(ins) {
		e := api.ErrShort
		switch n {
		case 0:
			e = api.ErrArg
		case 133:
			e = api.OK
		}
		if got, err := Decode(pair(ins[:n], outs)); err != e || e == api.OK && !sameTx(got, Tx{x.Ins[:1], x.Outs}) {
			t.Errorf("Decode of %d bytes of inputs: %v %d, want %d", n, got, err, e)
		}
	}
	for n := range len(outs) {
		e := api.ErrShort
		switch n {
		case 0:
			e = api.ErrArg
		case 41 + 104:
			e = api.OK
		}
		if got, err := Decode(pair(ins, outs[:n])); err != e || e == api.OK && !sameTx(got, Tx{x.Ins, x.Outs[:1]}) {
			t.Errorf("Decode of %d bytes of outputs: %v %d, want %d", n, got, err, e)
		}
	}
}

// TestOneForm turns bytes: what is still a transaction has just these bytes.
func TestOneForm(t *testing.T) {
	r := rand.New(rand.NewSource(10))
	still := 0
	for range 20000 {
		b := wantBytes(two())
		for range 1 + r.Intn(3) {
			b[r.Intn(len(b))] = byte(r.Intn(256) >> r.Intn(8))
		}
		x, e := Decode(b)
		if e != api.OK {
			if !sameTx(x, Tx{}) {
				t.Fatalf("Decode of % x: %v beside %d", b, x, e)
			}
			continue
		}
		still++
		if again, e := Encode(x); e != api.OK || !bytes.Equal(again, b) {
			t.Fatalf("Decode and Encode of % x: % x %d", b, again, e)
		}
	}
	if still < 1000 {
		t.Error("too few were still a transaction:", still)
	}
}

func TestBytesAreApart(t *testing.T) {
	x := two()
	b, _ := Encode(x)
	kept := bytes.Clone(b)
	room := append(bytes.Clone(b), 1, 2, 3)
	got, _ := Decode(room[:len(b)])
	if !bytes.Equal(room, append(bytes.Clone(kept), 1, 2, 3)) {
		t.Error("Decode changes its argument, or the room behind it")
	}
	clear(room)
	if !sameTx(got, two()) {
		t.Error("Decode's answer is its argument's memory")
	}
	x.Id()
	x.Check()
	if !sameTx(x, two()) {
		t.Error("Encode, Id or Check changes the transaction")
	}
	for i := range got.Outs {
		clear(got.Outs[i].Paths[:cap(got.Outs[i].Paths)])
		for j := i + 1; j < len(got.Outs); j++ {
			if !sameOut(got.Outs[j], x.Outs[j]) {
				t.Error("two outputs of Decode's answer share memory")
			}
		}
	}
}
