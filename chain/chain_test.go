package chain

import (
	"crypto/sha256"
	"encoding/binary"
	"maps"
	"math/rand"
	"slices"
	"testing"

	"moneyer/api"
	"moneyer/token"
)

// The secrets of two owners; what a lock hides is secret 3.
var alice, bob, lockSecret = hash(1), hash(2), hash(3)

// free is a path that one owner allows, whenever it is.
func free(secret api.Hash) Path { return Path{Owner: token.Owner(secret)} }

// paid is an output of coins of one path.
func paid(coins uint64, p Path) Out { return Out{Coins: coins, Paths: []Path{p}} }

// giftAt is where the n-th gift is.
func giftAt(n uint32) api.Point {
	return api.Point{Tx: want("moneyer/gift", binary.BigEndian.AppendUint32(nil, n))}
}

// world is a ledger and its office.
type world struct {
	*Chain
	t      *testing.T
	office *token.Office
}

func newWorld(t *testing.T) *world {
	o := token.New()
	return &world{Chain: New(o), t: t, office: o}
}

// given is where an output was given.
func (w *world) given(o Out) api.Point {
	w.t.Helper()
	at, e := w.Give(o)
	if e != api.OK {
		w.t.Fatalf("Give: %d", e)
	}
	return at
}

// coins is where coins of alice were given.
func (w *world) coins(n uint64) api.Point {
	w.t.Helper()
	return w.given(paid(n, free(alice)))
}

// allowed is a transaction with tokens of alice, and as the other one of bob, for each input, and the lock's secret.
func (w *world) allowed(t Tx) Tx {
	id := t.Id()
	for i := range t.Ins {
		t.Ins[i].Token = w.office.Allow(alice, id)
		t.Ins[i].More = w.office.Allow(bob, id)
		t.Ins[i].Secret = lockSecret
	}
	return t
}

// pay is a transaction of alice that pays coins for some outputs.
func (w *world) pay(coins uint64, at ...api.Point) Tx {
	t := Tx{Outs: []Out{paid(coins, free(alice))}}
	for _, p := range at {
		t.Ins = append(t.Ins, In{At: p})
	}
	return w.allowed(t)
}

// sent is the Id of a transaction that waits now.
func (w *world) sent(t Tx) api.Hash {
	w.t.Helper()
	if e := w.Send(t); e != api.OK {
		w.t.Fatalf("Send: %d", e)
	}
	return t.Id()
}

// blocks lets blocks come that nothing is picked for.
func (w *world) blocks(n int) {
	w.t.Helper()
	for range n {
		if came := w.Mine(func(api.Hash) bool { return false }); len(came) > 0 {
			w.t.Fatalf("a block has what wasn't picked: %x", came)
		}
	}
}

func sameHeld(a, b Held) bool { return a.Height == b.Height && sameOut(a.Out, b.Out) }

// P10.3

func TestNew(t *testing.T) {
	for name, c := range map[string]*Chain{"new": New(token.New()), "without an office": New(nil), "zero": {}} {
		if c.Height() != 0 || len(c.Held()) != 0 || len(c.Waits()) != 0 {
			t.Errorf("%s: Height %d, Held %v, Waits %v", name, c.Height(), c.Held(), c.Waits())
		}
		if h, ok := c.Get(giftAt(1)); ok || !sameHeld(h, Held{}) {
			t.Errorf("%s: Get %v", name, h)
		}
		if id, ok := c.Spent(giftAt(1)); ok || id != (api.Hash{}) {
			t.Errorf("%s: Spent %x", name, id)
		}
		if x, n, ok := c.Done(hash(1)); ok || n != 0 || !sameTx(x, Tx{}) {
			t.Errorf("%s: Done %v %d", name, x, n)
		}
		if x, n, ok := c.Done(api.Hash{}); ok || n != 0 || !sameTx(x, Tx{}) {
			t.Errorf("%s: Done of noughts: %v %d", name, x, n)
		}
	}
}

func TestNil(t *testing.T) {
	var c *Chain
	if at, e := c.Give(paid(1, free(alice))); e != api.ErrArg || at != (api.Point{}) {
		t.Errorf("Give: %v %d", at, e)
	}
	for _, x := range []Tx{two(), {}, {Ins: manyIns(257), Outs: two().Outs}} {
		if a, b := c.Try(x), c.Send(x); a != api.ErrArg || b != api.ErrArg {
			t.Errorf("Try: %d, Send: %d", a, b)
		}
	}
	pick := func(api.Hash) bool { t.Error("pick is asked"); return true }
	if len(c.Mine(pick)) != 0 || len(c.Mine(nil)) != 0 || c.Height() != 0 || len(c.Waits()) != 0 || len(c.Held()) != 0 {
		t.Error("a nil one has something")
	}
	h, ok := c.Get(giftAt(1))
	id, spent := c.Spent(giftAt(1))
	x, n, done := c.Done(api.Hash{})
	if ok || spent || done || !sameHeld(h, Held{}) || id != (api.Hash{}) || n != 0 || !sameTx(x, Tx{}) {
		t.Error("a nil one holds something")
	}
}

// TestWithoutOffice: nothing is allowed there.
func TestWithoutOffice(t *testing.T) {
	for name, c := range map[string]*Chain{"without an office": New(nil), "zero": {}} {
		w := &world{Chain: c, t: t, office: token.New()}
		at := w.coins(5)
		if e := w.Send(w.pay(5, at)); at != giftAt(1) || e != api.ErrOwner {
			t.Errorf("%s: Give at %v, Send %d", name, at, e)
		}
		if len(w.Mine(nil)) != 0 || w.Height() != 1 || len(w.Held()) != 1 {
			t.Errorf("%s: Height %d, Held %v", name, w.Height(), w.Held())
		}
	}
}

func TestGive(t *testing.T) {
	w := newWorld(t)
	all := map[api.Point]Held{}
	for n := range 300 {
		o := out(uint64(n)*7, 1+n%4)
		if n == 0 {
			o.Coins = top
		}
		at, e := w.Give(o)
		if e != api.OK || at != giftAt(uint32(n+1)) {
			t.Fatalf("gift %d: %v %d, want %v", n+1, at, e, giftAt(uint32(n+1)))
		}
		all[at] = Held{Out: o, Height: w.Height()}
		for name, bad := range map[string]Out{"no paths": {Coins: 1}, "5 paths": out(1, 5), "a wait of -1": paid(1, Path{Wait: -1})} {
			if at, e := w.Give(bad); e != api.ErrArg || at != (api.Point{}) {
				t.Errorf("Give with %s: %v %d", name, at, e)
			}
		}
		if n%3 == 0 {
			w.Mine(nil)
		}
	}
	if !maps.EqualFunc(w.Held(), all, sameHeld) {
		t.Error("Held isn't what was given")
	}
	for at, h := range all {
		if got, ok := w.Get(at); !ok || !sameHeld(got, h) {
			t.Errorf("Get: %v %v, want %v", got, ok, h)
		}
	}
	if h, ok := w.Get(api.Point{Tx: giftAt(1).Tx, Out: 1}); ok || !sameHeld(h, Held{}) {
		t.Errorf("Get of output 1 of a gift: %v", h)
	}
}

// P10.4

func TestTryChecks(t *testing.T) {
	w := newWorld(t)
	for name, x := range wrongs() {
		if e := w.Try(x.t); e != x.e {
			t.Errorf("Try of %s: %d, want %d", name, e, x.e)
		}
		if e := w.Send(x.t); e != x.e || len(w.Waits()) != 0 {
			t.Errorf("Send of %s: %d, want %d", name, e, x.e)
		}
	}
}

// TestPaths tries an output of each of what a path may ask for.
func TestPaths(t *testing.T) {
	and, lock := token.Owner(bob), api.Hash(sha256.Sum256(lockSecret[:]))
	for name, x := range map[string]struct {
		p      Path
		change func(w *world, i *In, id api.Hash)
		e      api.Errno
	}{
		"one owner":                  {free(alice), nil, api.OK},
		"no token":                   {free(alice), func(w *world, i *In, id api.Hash) { i.Token = api.Hash{} }, api.ErrOwner},
		"a token turned":             {free(alice), func(w *world, i *In, id api.Hash) { i.Token[31] ^= 1 }, api.ErrOwner},
		"another's token":            {free(alice), func(w *world, i *In, id api.Hash) { i.Token = i.More }, api.ErrOwner},
		"a token for something else": {free(alice), func(w *world, i *In, id api.Hash) { i.Token = w.office.Allow(alice, hash(5)) }, api.ErrOwner},
		"a token not given": {free(alice), func(w *world, i *In, id api.Hash) {
			secret := hash(77)
			i.Token = want("moneyer/token", secret[:], id[:])
		}, api.ErrOwner},
		"no other's token needed":         {free(alice), func(w *world, i *In, id api.Hash) { i.More = api.Hash{} }, api.OK},
		"no secret needed":                {free(alice), func(w *world, i *In, id api.Hash) { i.Secret = api.Hash{} }, api.OK},
		"two owners":                      {Path{Owner: token.Owner(alice), And: and}, nil, api.OK},
		"two owners, no other's token":    {Path{Owner: token.Owner(alice), And: and}, func(w *world, i *In, id api.Hash) { i.More = api.Hash{} }, api.ErrOwner},
		"two owners, one's token twice":   {Path{Owner: token.Owner(alice), And: and}, func(w *world, i *In, id api.Hash) { i.More = i.Token }, api.ErrOwner},
		"two owners, tokens turned":       {Path{Owner: token.Owner(alice), And: and}, func(w *world, i *In, id api.Hash) { i.Token, i.More = i.More, i.Token }, api.ErrOwner},
		"two owners, another thing's":     {Path{Owner: token.Owner(alice), And: and}, func(w *world, i *In, id api.Hash) { i.More = w.office.Allow(bob, hash(5)) }, api.ErrOwner},
		"two owners, no token":            {Path{Owner: token.Owner(alice), And: and}, func(w *world, i *In, id api.Hash) { i.Token = api.Hash{} }, api.ErrOwner},
		"an owner who is both":            {Path{Owner: token.Owner(alice), And: token.Owner(alice)}, func(w *world, i *In, id api.Hash) { i.More = i.Token }, api.OK},
		"a lock":                          {Path{Owner: token.Owner(alice), Lock: lock}, nil, api.OK},
		"a lock, no secret":               {Path{Owner: token.Owner(alice), Lock: lock}, func(w *world, i *In, id api.Hash) { i.Secret = api.Hash{} }, api.ErrOwner},
		"a lock, itself as secret":        {Path{Owner: token.Owner(alice), Lock: lock}, func(w *world, i *In, id api.Hash) { i.Secret = lock }, api.ErrOwner},
		"a lock, no token":                {Path{Owner: token.Owner(alice), Lock: lock}, func(w *world, i *In, id api.Hash) { i.Token = api.Hash{} }, api.ErrOwner},
		"two owners and a lock":           {Path{Owner: token.Owner(alice), And: and, Lock: lock}, nil, api.OK},
		"two owners, a lock, no secret":   {Path{Owner: token.Owner(alice), And: and, Lock: lock}, func(w *world, i *In, id api.Hash) { i.Secret[0]++ }, api.ErrOwner},
		"an owner of noughts":             {Path{}, nil, api.ErrOwner},
		"an owner of noughts, no token":   {Path{}, func(w *world, i *In, id api.Hash) { i.Token = api.Hash{} }, api.ErrOwner},
		"no token ahead of the time":      {Path{Owner: token.Owner(alice), Until: 9}, func(w *world, i *In, id api.Hash) { i.Token = api.Hash{} }, api.ErrOwner},
		"a lock, no secret, not the time": {Path{Owner: token.Owner(alice), Lock: lock, Wait: 9}, func(w *world, i *In, id api.Hash) { i.Secret = api.Hash{} }, api.ErrOwner},
		"not the time":                    {Path{Owner: token.Owner(alice), Wait: 9}, nil, api.ErrTime},
		"path 1 of one":                   {free(alice), func(w *world, i *In, id api.Hash) { i.Path = 1 }, api.ErrArg},
		"path 3 of one, no token":         {free(alice), func(w *world, i *In, id api.Hash) { i.Path, i.Token = 3, api.Hash{} }, api.ErrArg},
		"an output that isn't":            {free(alice), func(w *world, i *In, id api.Hash) { i.At.Out = 1 }, api.ErrNone},
		"an output that isn't, no token":  {free(alice), func(w *world, i *In, id api.Hash) { *i = In{At: api.Point{Tx: hash(9)}, Path: 3} }, api.ErrNone},
	} {
		w := newWorld(t)
		tx := w.pay(5, w.given(paid(5, x.p)))
		if x.change != nil {
			x.change(w, &tx.Ins[0], tx.Id())
		}
		if e := w.Try(tx); e != x.e {
			t.Errorf("Try with %s: %d, want %d", name, e, x.e)
		}
		e := w.Send(tx)
		if waits := x.e == api.OK || x.e == api.ErrTime; waits && e != api.OK || !waits && e != x.e || len(w.Waits()) > 0 != waits {
			t.Errorf("Send with %s: %d, Waits %d", name, e, len(w.Waits()))
		}
	}
}

// TestEachPath spends an output of four paths by each: each asks for its own.
func TestEachPath(t *testing.T) {
	secrets := []api.Hash{hash(41), hash(42), hash(43), hash(44)}
	for i := range secrets {
		for j, secret := range secrets {
			w := newWorld(t)
			o := Out{Coins: 5}
			for _, s := range secrets {
				o.Paths = append(o.Paths, free(s))
			}
			tx := Tx{Ins: []In{{At: w.given(o), Path: i}}, Outs: []Out{paid(5, free(alice))}}
			tx.Ins[0].Token = w.office.Allow(secret, tx.Id())
			want := api.ErrOwner
			if i == j {
				want = api.OK
			}
			if e := w.Try(tx); e != want {
				t.Errorf("Try by path %d with the token for path %d: %d", i, j, e)
			}
		}
	}
}

// TestTimes asks at each height whether an output may be spent that was given at height 3.
func TestTimes(t *testing.T) {
	for _, x := range []struct{ wait, until, first int }{
		{0, 0, 4}, {0, 4, 4}, {0, 5, 5}, {0, 9, 9}, {1, 0, 4}, {2, 0, 5}, {3, 0, 6}, {5, 0, 8},
		{2, 9, 9}, {9, 2, 12}, {5, 8, 8}, {5, 9, 9}, {6, 8, 9}, {api.MaxHeight, 0, 1 << 62}, {0, api.MaxHeight, 1 << 62}, {api.MaxHeight, api.MaxHeight, 1 << 62},
	} {
		w := newWorld(t)
		w.blocks(3)
		at := w.given(paid(5, Path{Owner: token.Owner(alice), Wait: x.wait, Until: x.until}))
		tx := w.pay(5, at)
		for next := 4; next < 15; next++ {
			want := api.OK
			if next < x.first {
				want = api.ErrTime
			}
			if e := w.Try(tx); e != want {
				t.Errorf("a wait of %d until %d: Try for height %d: %d, want %d", x.wait, x.until, next, e, want)
			}
			w.blocks(1)
		}
	}
}

// TestTimesOfConfirmed: the wait begins with the block that brought the output.
func TestTimesOfConfirmed(t *testing.T) {
	w := newWorld(t)
	at := w.coins(5)
	w.blocks(6)
	first := w.allowed(Tx{Ins: []In{{At: at}}, Outs: []Out{paid(5, Path{Owner: token.Owner(alice), Wait: 3})}})
	id := w.sent(first)
	w.Mine(nil)
	second := w.pay(5, api.Point{Tx: id})
	for _, want := range []api.Errno{api.ErrTime, api.ErrTime, api.OK, api.OK} {
		if e := w.Try(second); e != want {
			t.Errorf("an output of height 7 that must wait 3, for height %d: %d, want %d", w.Height()+1, e, want)
		}
		w.blocks(1)
	}
}

func TestSums(t *testing.T) {
	for name, x := range map[string]struct {
		come, gone []uint64
		e          api.Errno
	}{
		"as many":                      {[]uint64{5}, []uint64{5}, api.OK},
		"fewer":                        {[]uint64{5}, []uint64{4}, api.OK},
		"one more":                     {[]uint64{5}, []uint64{6}, api.ErrCoins},
		"nothing of nothing":           {[]uint64{0}, []uint64{0}, api.OK},
		"one of nothing":               {[]uint64{0}, []uint64{1}, api.ErrCoins},
		"two of three":                 {[]uint64{5, 6, 7}, []uint64{9, 9}, api.OK},
		"two of three, one more":       {[]uint64{5, 6, 7}, []uint64{9, 10}, api.ErrCoins},
		"the most":                     {[]uint64{top}, []uint64{top}, api.OK},
		"the most of two":              {[]uint64{top - 1, 1}, []uint64{1, top - 1}, api.OK},
		"one more than the most comes": {[]uint64{top, 1}, []uint64{5}, api.ErrOver},
		"two halves come":              {[]uint64{1 << 63, 1 << 63}, []uint64{0}, api.ErrOver},
		"too many come, as many go":    {[]uint64{top, top}, []uint64{top}, api.ErrOver},
	} {
		w := newWorld(t)
		var tx Tx
		for _, n := range x.come {
			tx.Ins = append(tx.Ins, In{At: w.coins(n)})
		}
		for _, n := range x.gone {
			tx.Outs = append(tx.Outs, paid(n, free(bob)))
		}
		if e := w.Try(w.allowed(tx)); e != x.e {
			t.Errorf("Try of %s: %d, want %d", name, e, x.e)
		}
		if e := w.Send(w.allowed(tx)); e != x.e {
			t.Errorf("Send of %s: %d, want %d", name, e, x.e)
		}
	}
}

// faulty are inputs whose errors differ, and one that may be, at the end; the coins of the first two don't fit.
func faulty(w *world) (map[api.Errno]In, api.Point) {
	gone := w.coins(1)
	w.sent(w.pay(1, gone))
	w.Mine(nil)
	return map[api.Errno]In{
		api.ErrSpent: {At: gone},
		api.ErrNone:  {At: api.Point{Tx: hash(99)}},
		api.ErrArg:   {At: w.coins(top), Path: 1},
		api.ErrOwner: {At: w.given(paid(top, free(hash(88))))},
		api.ErrTime:  {At: w.given(paid(top, Path{Owner: token.Owner(alice), Until: 50}))},
	}, w.coins(top)
}

// TestFirstInputCounts has inputs with two errors: the first one's is told, and ahead of the sums.
func TestFirstInputCounts(t *testing.T) {
	w := newWorld(t)
	bad, good := faulty(w)
	for a, x := range bad {
		for b, y := range bad {
			ins := []In{{At: good}, x}
			if a != b {
				ins = append(ins, y)
			}
			tx := w.allowed(Tx{Ins: ins, Outs: []Out{paid(top, free(alice))}})
			if e := w.Try(tx); e != a {
				t.Errorf("Try with %d ahead of %d: %d", a, b, e)
			}
			want := a
			if a == api.ErrTime {
				want = api.OK
			}
			if e := w.Send(tx); e != want {
				t.Errorf("Send with %d ahead of %d: %d", a, b, e)
			}
		}
	}
	// The sum that comes in is told ahead of what goes out, and both behind all inputs.
	tx := w.allowed(Tx{Ins: []In{{At: good}, {At: w.coins(1)}}, Outs: []Out{paid(0, free(alice))}})
	if e := w.Try(tx); e != api.ErrOver {
		t.Errorf("Try with too many coins: %d", e)
	}
	if e := w.Send(tx); e != api.ErrOver {
		t.Errorf("Send with too many coins: %d", e)
	}
}

func TestSend(t *testing.T) {
	w := newWorld(t)
	at := w.coins(5)
	tx := w.pay(5, at)
	id := w.sent(tx)
	if !slices.Equal(w.Waits(), []api.Hash{id}) {
		t.Errorf("Waits: %x", w.Waits())
	}
	if e := w.Try(tx); e != api.OK {
		t.Errorf("Try of what waits: %d", e)
	}
	if e := w.Send(tx); e != api.ErrHave {
		t.Errorf("Send of what waits: %d", e)
	}
	other := w.pay(5, at)
	other.Ins[0].Secret = hash(5)
	if e := w.Send(other); e != api.ErrHave {
		t.Errorf("Send of another with the Id of what waits: %d", e)
	}
	other.Ins[0].Token = api.Hash{}
	if e := w.Send(other); e != api.ErrOwner {
		t.Errorf("Send of one that isn't allowed with the Id of what waits: %d", e)
	}
	// Another one that spends the same may wait, too.
	second := w.sent(w.pay(4, at))
	if !slices.Equal(w.Waits(), []api.Hash{id, second}) {
		t.Errorf("Waits: %x", w.Waits())
	}
	if h, ok := w.Get(at); !ok || h.Out.Coins != 5 || len(w.Held()) != 1 {
		t.Error("what waits spends already")
	}
	if _, ok := w.Get(api.Point{Tx: id}); ok {
		t.Error("an output of what waits is held already")
	}
	if _, _, ok := w.Done(id); ok {
		t.Error("what waits is Done already")
	}
}

func TestSendOfMany(t *testing.T) {
	w := newWorld(t)
	at := w.coins(1000)
	var ids []api.Hash
	for n := range 256 {
		ids = append(ids, w.sent(w.pay(uint64(n), at)))
	}
	more, late := w.pay(256, at), w.pay(1, w.given(paid(1, Path{Owner: token.Owner(alice), Wait: 5})))
	if e := w.Send(more); e != api.ErrMany {
		t.Errorf("Send of the 257th: %d", e)
	}
	if e := w.Send(late); e != api.ErrMany {
		t.Errorf("Send of the 257th, which must wait: %d", e)
	}
	if e := w.Send(w.pay(255, at)); e != api.ErrHave {
		t.Errorf("Send of what waits, where 256 wait: %d", e)
	}
	if e := w.Send(w.pay(1001, at)); e != api.ErrCoins {
		t.Errorf("Send of too much, where 256 wait: %d", e)
	}
	if !slices.Equal(w.Waits(), ids) {
		t.Error("Waits isn't what was sent, in order")
	}
	if came := w.Mine(nil); !slices.Equal(came, ids[:1]) || len(w.Waits()) != 0 {
		t.Errorf("Mine of 256 that spend the same: %d came, %d wait", len(came), len(w.Waits()))
	}
	if e := w.Send(late); e != api.OK {
		t.Errorf("Send, where none wait any more: %d", e)
	}
}

// P10.5

func TestMine(t *testing.T) {
	w := newWorld(t)
	a, b := w.coins(100), w.coins(50)
	w.blocks(2)
	tx := w.allowed(Tx{Ins: []In{{At: b}, {At: a}}, Outs: []Out{paid(20, free(bob)), {Coins: 70, Paths: []Path{free(alice), free(bob)}, Anchor: hash(6)}}})
	id := w.sent(tx)
	if came := w.Mine(nil); !slices.Equal(came, []api.Hash{id}) || w.Height() != 3 || len(w.Waits()) != 0 {
		t.Errorf("Mine: %x, Height %d, Waits %x", came, w.Height(), w.Waits())
	}
	for _, at := range []api.Point{a, b} {
		if by, ok := w.Spent(at); !ok || by != id {
			t.Errorf("Spent: %x %v", by, ok)
		}
		if h, ok := w.Get(at); ok || !sameHeld(h, Held{}) {
			t.Errorf("Get of what is spent: %v", h)
		}
	}
	held := map[api.Point]Held{{Tx: id, Out: 0}: {tx.Outs[0], 3}, {Tx: id, Out: 1}: {tx.Outs[1], 3}}
	if !maps.EqualFunc(w.Held(), held, sameHeld) {
		t.Errorf("Held: %v", w.Held())
	}
	for at, h := range held {
		if got, ok := w.Get(at); !ok || !sameHeld(got, h) {
			t.Errorf("Get: %v %v", got, ok)
		}
		if by, ok := w.Spent(at); ok || by != (api.Hash{}) {
			t.Errorf("Spent of what is held: %x", by)
		}
	}
	w.blocks(4)
	if got, height, ok := w.Done(id); !ok || height != 3 || !sameTx(got, tx) {
		t.Errorf("Done: %v %d %v", got, height, ok)
	}
	if h, ok := w.Get(api.Point{Tx: id, Out: 1}); !ok || h.Height != 3 {
		t.Errorf("Get four blocks later: %v %v", h, ok)
	}
	if e := w.Send(tx); e != api.ErrSpent {
		t.Errorf("Send of what has come: %d", e)
	}
	if e := w.Try(w.pay(1, a)); e != api.ErrSpent {
		t.Errorf("Try of what spends the same: %d", e)
	}
}

func TestMineOfNothing(t *testing.T) {
	w := newWorld(t)
	for n := range 10 {
		if w.Height() != n || len(w.Mine(nil)) != 0 {
			t.Errorf("Height %d behind %d blocks", w.Height(), n)
		}
	}
}

// TestPick: each of what waits is asked for once, in order; what isn't picked waits on.
func TestPick(t *testing.T) {
	w := newWorld(t)
	var ids []api.Hash
	for n := range 6 {
		ids = append(ids, w.sent(w.pay(uint64(n), w.coins(10))))
	}
	var asked []api.Hash
	came := w.Mine(func(id api.Hash) bool {
		asked = append(asked, id)
		return len(asked)%2 == 0
	})
	if !slices.Equal(asked, ids) || !slices.Equal(came, []api.Hash{ids[1], ids[3], ids[5]}) {
		t.Errorf("asked for %x, came %x of %x", asked, came, ids)
	}
	if !slices.Equal(w.Waits(), []api.Hash{ids[0], ids[2], ids[4]}) || w.Height() != 1 {
		t.Errorf("Waits: %x of %x", w.Waits(), ids)
	}
	w.blocks(1)
	seventh := w.sent(w.pay(7, w.coins(10)))
	if came := w.Mine(nil); !slices.Equal(came, []api.Hash{ids[0], ids[2], ids[4], seventh}) || w.Height() != 3 {
		t.Errorf("then came %x of %x", came, ids)
	}
	if _, height, ok := w.Done(ids[0]); !ok || height != 3 {
		t.Errorf("Done at %d", height)
	}
}

// TestSameIsSpent: of those that spend one output the first that is picked comes; the others wait no longer.
func TestSameIsSpent(t *testing.T) {
	w := newWorld(t)
	a, b, c := w.coins(10), w.coins(10), w.coins(10)
	first := w.sent(w.pay(1, a))
	second := w.sent(w.pay(2, a, b))
	third := w.sent(w.pay(3, b))
	fourth := w.sent(w.pay(4, c))
	came := w.Mine(func(id api.Hash) bool { return id != first && id != fourth })
	if !slices.Equal(came, []api.Hash{second}) || !slices.Equal(w.Waits(), []api.Hash{fourth}) {
		t.Errorf("came %x, Waits %x", came, w.Waits())
	}
	for at, by := range map[api.Point]api.Hash{a: second, b: second} {
		if got, ok := w.Spent(at); !ok || got != by {
			t.Errorf("Spent: %x %v", got, ok)
		}
	}
	for _, id := range []api.Hash{first, third} {
		if _, _, ok := w.Done(id); ok {
			t.Error("what spends the same is Done")
		}
	}
}

// TestTimeComes: what must wait waits till its block.
func TestTimeComes(t *testing.T) {
	w := newWorld(t)
	id := w.sent(w.pay(5, w.given(paid(5, Path{Owner: token.Owner(alice), Wait: 3}))))
	for range 2 {
		if came := w.Mine(nil); len(came) != 0 || !slices.Equal(w.Waits(), []api.Hash{id}) {
			t.Errorf("at height %d: came %x, Waits %x", w.Height(), came, w.Waits())
		}
	}
	if came := w.Mine(nil); !slices.Equal(came, []api.Hash{id}) || w.Height() != 3 || len(w.Waits()) != 0 {
		t.Errorf("at height %d: came %x, Waits %x", w.Height(), came, w.Waits())
	}
}

// TestTimeHides: what waits for its time is asked behind the block that comes whether it has another fault then.
func TestTimeHides(t *testing.T) {
	w := newWorld(t)
	late := w.given(paid(5, Path{Owner: token.Owner(alice), Until: 3}))
	gone := w.coins(5)
	ids := []api.Hash{
		w.sent(w.pay(6, late)),
		w.sent(w.pay(5, late, gone)),
		w.sent(w.pay(5, late, api.Point{Tx: hash(9)})),
		w.sent(w.pay(5, late)),
	}
	w.sent(w.pay(1, gone))
	if came := w.Mine(nil); len(came) != 1 || !slices.Equal(w.Waits(), ids) {
		t.Errorf("came %x, Waits %x", came, w.Waits())
	}
	// The next block's height is 3 then: nothing hides any more what is wrong with the first three.
	if came := w.Mine(nil); len(came) != 0 || !slices.Equal(w.Waits(), ids[3:]) {
		t.Errorf("came %x, Waits %x", came, w.Waits())
	}
	if came := w.Mine(nil); !slices.Equal(came, ids[3:]) {
		t.Errorf("came %x", came)
	}
}

// TestNotYetHeld: an output of what waits may be spent behind its block alone.
func TestNotYetHeld(t *testing.T) {
	w := newWorld(t)
	first := w.sent(w.pay(5, w.coins(5)))
	second := w.pay(4, api.Point{Tx: first})
	if a, b := w.Try(second), w.Send(second); a != api.ErrNone || b != api.ErrNone {
		t.Errorf("of what spends an output of what waits: Try %d, Send %d", a, b)
	}
	w.Mine(nil)
	w.sent(second)
	if came := w.Mine(nil); !slices.Equal(came, []api.Hash{second.Id()}) {
		t.Errorf("came %x", came)
	}
}

func TestMaxHeight(t *testing.T) {
	w := newWorld(t)
	at := w.coins(5)
	w.height = api.MaxHeight - 1
	late := w.sent(w.pay(5, w.given(paid(5, Path{Owner: token.Owner(alice), Wait: 2}))))
	last := w.sent(w.pay(5, at))
	if came := w.Mine(func(id api.Hash) bool { return id == last }); !slices.Equal(came, []api.Hash{last}) || w.Height() != api.MaxHeight {
		t.Errorf("the last block: %x, Height %d", came, w.Height())
	}
	pick := func(api.Hash) bool { t.Error("pick is asked"); return true }
	for range 3 {
		if came := w.Mine(pick); len(came) != 0 || w.Height() != api.MaxHeight || !slices.Equal(w.Waits(), []api.Hash{late}) {
			t.Errorf("a block behind the last one: %x, Height %d, Waits %x", came, w.Height(), w.Waits())
		}
	}
	if e := w.Try(w.pay(5, api.Point{Tx: last})); e != api.OK {
		t.Errorf("Try behind the last block: %d", e)
	}
}

// TestPickCalls: pick may look at the ledger, send, and let a block come itself.
func TestPickCalls(t *testing.T) {
	w := newWorld(t)
	first, second := w.sent(w.pay(1, w.coins(5))), w.sent(w.pay(2, w.coins(5)))
	ids := []api.Hash{first, second}
	more := w.pay(3, w.coins(5))
	came := w.Mine(func(id api.Hash) bool {
		if _, _, ok := w.Done(first); ok || w.Height() != 0 || !slices.Equal(w.Waits()[:2], ids) {
			t.Error("a block has begun ahead of what is picked")
		}
		w.Send(more)
		return true
	})
	if !slices.Equal(came, ids) || !slices.Equal(w.Waits(), []api.Hash{more.Id()}) {
		t.Errorf("came %x, Waits %x", came, w.Waits())
	}
	ids = []api.Hash{more.Id(), w.sent(w.pay(4, w.coins(5)))}
	var asked []api.Hash
	came = w.Mine(func(id api.Hash) bool {
		asked = append(asked, id)
		w.Mine(nil)
		return true
	})
	if len(came) != 0 || !slices.Equal(asked, ids) || w.Height() != 4 || len(w.Waits()) != 0 {
		t.Errorf("a block within a block: %x, asked for %x, Height %d, Waits %x", came, asked, w.Height(), w.Waits())
	}
}

func TestNothingIsChangedOrKept(t *testing.T) {
	w := newWorld(t)
	room := []Path{free(alice), free(bob), free(bob)}
	at := w.given(Out{Coins: 5, Paths: room[:2]})
	if room[2] != free(bob) {
		t.Error("Give changes the room behind paths")
	}
	clear(room)
	kept := Held{Out: Out{Coins: 5, Paths: []Path{free(alice), free(bob)}}}
	spoil := func(h Held) { clear(h.Out.Paths[:cap(h.Out.Paths)]) }
	for range 2 {
		h, _ := w.Get(at)
		if all := w.Held(); !sameHeld(h, kept) || !sameHeld(all[at], kept) || len(all) != 1 {
			t.Fatalf("Get: %v, Held: %v", h, all)
		} else {
			spoil(all[at])
			delete(all, at)
			all[api.Point{Out: 7}] = Held{}
		}
		spoil(h)
	}
	tx, sent := w.pay(5, at), w.pay(5, at)
	id := tx.Id()
	w.Try(tx)
	w.Send(tx)
	if !sameTx(tx, sent) {
		t.Error("Send changes what is sent")
	}
	clear(tx.Outs[0].Paths)
	clear(tx.Ins)
	clear(tx.Outs)
	clear(w.Waits())
	clear(w.Mine(nil))
	for range 2 {
		got, _, ok := w.Done(id)
		if !ok || !sameTx(got, sent) {
			t.Fatalf("Done: %v", got)
		}
		h, _ := w.Get(api.Point{Tx: id})
		if !sameOut(h.Out, sent.Outs[0]) {
			t.Fatalf("Get: %v", h)
		}
		clear(got.Outs[0].Paths)
		clear(got.Ins)
		clear(got.Outs)
		spoil(h)
	}
}

// P10.6

// model is a ledger that keeps a list of all outputs there ever were.
type model struct {
	office *token.Office
	height int
	all    []modelOut
	waits  []Tx
}

type modelOut struct {
	at     api.Point
	o      Out
	height int
	by     api.Hash
}

func (m *model) find(at api.Point) *modelOut {
	i := slices.IndexFunc(m.all, func(x modelOut) bool { return x.at == at })
	if i < 0 {
		return nil
	}
	return &m.all[i]
}

func (m *model) try(t Tx) api.Errno {
	come := uint64(0)
	for _, i := range t.Ins {
		x := m.find(i.At)
		switch {
		case x == nil:
			return api.ErrNone
		case x.by != api.Hash{}:
			return api.ErrSpent
		case i.Path >= len(x.o.Paths):
			return api.ErrArg
		}
		p := x.o.Paths[i.Path]
		if !m.office.Allowed(p.Owner, t.Id(), i.Token) {
			return api.ErrOwner
		}
		if m.height+1 < max(p.Until, x.height+p.Wait) {
			return api.ErrTime
		}
		come += x.o.Coins
	}
	for _, o := range t.Outs {
		if o.Coins > come {
			return api.ErrCoins
		}
		come -= o.Coins
	}
	return api.OK
}

func (m *model) mine(picked []api.Hash) []api.Hash {
	var came []api.Hash
	for _, t := range m.waits {
		if !slices.Contains(picked, t.Id()) || m.try(t) != api.OK {
			continue
		}
		came = append(came, t.Id())
		for _, i := range t.Ins {
			m.find(i.At).by = t.Id()
		}
		for n, o := range t.Outs {
			m.all = append(m.all, modelOut{at: api.Point{Tx: t.Id(), Out: n}, o: o, height: m.height + 1})
		}
	}
	m.height++
	var left []Tx
	for _, t := range m.waits {
		if e := m.try(t); !slices.Contains(came, t.Id()) && (e == api.OK || e == api.ErrTime) {
			left = append(left, t)
		}
	}
	m.waits = left
	return came
}

// some is a transaction of up to three outputs that there ever were, most often allowed, most often of as many coins.
func (m *model) some(r *rand.Rand) Tx {
	var t Tx
	come := uint64(0)
	for range 1 + r.Intn(3) {
		x := m.all[max(0, len(m.all)-1-r.Intn(10))]
		if !spends(t.Ins, x.at) {
			t.Ins = append(t.Ins, In{At: x.at, Path: r.Intn(2) * r.Intn(3)})
			come += x.o.Coins
		}
	}
	come += uint64(r.Intn(6) / 5)
	for range 1 + r.Intn(3) {
		part := come / uint64(1+r.Intn(2))
		come -= part
		o := Out{Coins: part}
		for range 1 + r.Intn(2) {
			o.Paths = append(o.Paths, Path{Owner: token.Owner(alice), Wait: r.Intn(3) * r.Intn(3), Until: r.Intn(2) * (m.height + r.Intn(5))})
		}
		t.Outs = append(t.Outs, o)
	}
	for i := range t.Ins {
		if r.Intn(12) > 0 {
			t.Ins[i].Token = m.office.Allow(alice, t.Id())
		}
	}
	return t
}

// held and waiting are what the ledger's Held and Waits should be.
func (m *model) held() map[api.Point]Held {
	all := map[api.Point]Held{}
	for _, x := range m.all {
		if x.by == (api.Hash{}) {
			all[x.at] = Held{Out: x.o, Height: x.height}
		}
	}
	return all
}

func (m *model) ids() []api.Hash {
	var ids []api.Hash
	for _, t := range m.waits {
		ids = append(ids, t.Id())
	}
	return ids
}

// compare holds the ledger against the model.
func (m *model) compare(t *testing.T, c *Chain) {
	t.Helper()
	if c.Height() != m.height || !slices.Equal(c.Waits(), m.ids()) || !maps.EqualFunc(c.Held(), m.held(), sameHeld) {
		t.Fatalf("Height %d, want %d; %d wait, want %d; %d are held, want %d", c.Height(), m.height, len(c.Waits()), len(m.waits), len(c.Held()), len(m.held()))
	}
	for _, x := range m.all {
		if by, ok := c.Spent(x.at); by != x.by || ok != (x.by != api.Hash{}) {
			t.Fatalf("Spent: %x %v, want %x", by, ok, x.by)
		}
		if tx, height, ok := c.Done(x.at.Tx); ok && (height != x.height || tx.Id() != x.at.Tx) {
			t.Fatalf("Done: at height %d, want %d", height, x.height)
		}
	}
}

// TestScripts holds the ledger against the model by scripts, and counts the coins.
func TestScripts(t *testing.T) {
	told := map[api.Errno]int{}
	blocks := 0
	for seed := range 40 {
		r := rand.New(rand.NewSource(int64(seed)))
		o := token.New()
		c, m := New(o), &model{office: o}
		given := uint64(0)
		for range 120 {
			switch k := r.Intn(10); {
			case k == 0 || len(m.all) == 0:
				out := paid(uint64(r.Intn(1000)), free(alice))
				at, _ := c.Give(out)
				m.all = append(m.all, modelOut{at: at, o: out, height: m.height})
				given += out.Coins
			case k < 8:
				tx := m.some(r)
				e := m.try(tx)
				if got := c.Try(tx); got != e {
					t.Fatalf("seed %d: Try %d, want %d", seed, got, e)
				}
				if e == api.OK || e == api.ErrTime {
					e = api.OK
					if slices.Contains(m.ids(), tx.Id()) {
						e = api.ErrHave
					} else {
						m.waits = append(m.waits, tx)
					}
				}
				if got := c.Send(tx); got != e {
					t.Fatalf("seed %d: Send %d, want %d", seed, got, e)
				}
				told[e]++
			default:
				var picked []api.Hash
				got := c.Mine(func(id api.Hash) bool {
					if r.Intn(3) > 0 {
						picked = append(picked, id)
						return true
					}
					return false
				})
				if want := m.mine(picked); !slices.Equal(got, want) {
					t.Fatalf("seed %d: came %x, want %x", seed, got, want)
				}
				blocks += len(got)
			}
			m.compare(t, c)
			sum := uint64(0)
			for _, h := range c.Held() {
				sum += h.Out.Coins
			}
			if sum > given {
				t.Fatalf("seed %d: %d coins are held of %d", seed, sum, given)
			}
		}
	}
	for _, e := range []api.Errno{api.OK, api.ErrSpent, api.ErrArg, api.ErrOwner, api.ErrCoins} {
		if told[e] < 20 {
			t.Errorf("too few of %d: %d", e, told[e])
		}
	}
	if blocks < 300 {
		t.Error("too few came:", blocks)
	}
}

// TestExample: of 100 coins that are given 90 go to an output of the next block.
func TestExample(t *testing.T) {
	w := newWorld(t)
	id := w.sent(w.pay(90, w.coins(100)))
	if came := w.Mine(nil); !slices.Equal(came, []api.Hash{id}) {
		t.Errorf("came %x", came)
	}
	if h, ok := w.Get(api.Point{Tx: id}); !ok || h.Out.Coins != 90 || len(w.Held()) != 1 {
		t.Errorf("Held: %v", w.Held())
	}
}

func BenchmarkMineOfNothing(b *testing.B) {
	c := New(token.New())
	for b.Loop() {
		c.Mine(nil)
	}
}
