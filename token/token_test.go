package token

import (
	"bytes"
	"crypto/sha256"
	"sync"
	"testing"

	"moneyer/api"
)

// hash is one of a number; no two have one.
func hash(n int) api.Hash { return sha256.Sum256([]byte{byte(n), byte(n >> 8)}) }

// want is the digest for a purpose, by the library.
func want(purpose string, parts ...[]byte) api.Hash {
	name := sha256.Sum256([]byte(purpose))
	return sha256.Sum256(bytes.Join(append([][]byte{name[:], name[:]}, parts...), nil))
}

// some are secrets, and things to be allowed: noughts are as good as any.
func some() []api.Hash {
	return []api.Hash{{}, {31: 1}, {1}, hash(1), hash(2), api.Hash(bytes.Repeat([]byte{255}, 32))}
}

// P9.1

func TestOwner(t *testing.T) {
	for _, s := range some() {
		if got := Owner(s); got != want("moneyer/owner", s[:]) {
			t.Errorf("Owner of %x: %x, want %x", s, got, want("moneyer/owner", s[:]))
		}
	}
}

func TestAllow(t *testing.T) {
	o := New()
	for _, s := range some() {
		for _, w := range some() {
			if got := o.Allow(s, w); got != want("moneyer/token", s[:], w[:]) {
				t.Errorf("Allow of %x and %x: %x, want %x", s, w, got, want("moneyer/token", s[:], w[:]))
			}
		}
	}
}

// TestAllowedJustFor asks for each owner and each thing whether each token was given for them.
func TestAllowedJustFor(t *testing.T) {
	o := New()
	for _, s := range some() {
		for _, w := range some() {
			o.Allow(s, w)
		}
	}
	for _, s := range some() {
		for _, w := range some() {
			tok := want("moneyer/token", s[:], w[:])
			for _, owner := range some() {
				for _, what := range some() {
					if got := o.Allowed(Owner(owner), what, tok); got != (owner == s && what == w) {
						t.Errorf("the token of %x for %x is Allowed to %x for %x: %v", s, w, owner, what, got)
					}
				}
			}
		}
	}
}

func TestAllowedRefuses(t *testing.T) {
	o := New()
	secret, what := hash(1), hash(2)
	tok := o.Allow(secret, what)
	turned := tok
	turned[31] ^= 1
	for name, x := range map[string]struct{ owner, what, t api.Hash }{
		"the secret as owner":    {secret, what, tok},
		"another's owner":        {Owner(hash(3)), what, tok},
		"another thing":          {Owner(secret), hash(3), tok},
		"owner and thing turned": {what, Owner(secret), tok},
		"no owner":               {api.Hash{}, what, tok},
		"nothing":                {Owner(secret), api.Hash{}, tok},
		"a token turned":         {Owner(secret), what, turned},
		"no token":               {Owner(secret), what, api.Hash{}},
		"the owner as token":     {Owner(secret), what, Owner(secret)},
		"noughts":                {},
	} {
		if o.Allowed(x.owner, x.what, x.t) {
			t.Errorf("Allowed with %s", name)
		}
	}
	if !o.Allowed(Owner(secret), what, tok) {
		t.Error("what was given isn't Allowed any more")
	}
}

// TestFirstGiftCounts lets one token be given twice for what differs, as if two had one digest.
func TestFirstGiftCounts(t *testing.T) {
	o := New()
	first, second := gift{Owner(hash(1)), hash(2)}, gift{Owner(hash(3)), hash(4)}
	o.note(hash(9), first)
	o.note(hash(9), second)
	if !o.Allowed(first.owner, first.what, hash(9)) || o.Allowed(second.owner, second.what, hash(9)) || o.Count() != 1 {
		t.Errorf("of two gifts of one token not the first counts; Count %d", o.Count())
	}
}

func TestCount(t *testing.T) {
	o := New()
	if o.Count() != 0 {
		t.Errorf("Count of a new one: %d", o.Count())
	}
	n := 0
	for _, s := range some() {
		for _, w := range some() {
			n++
			for range 3 {
				tok := o.Allow(s, w)
				o.Allowed(Owner(s), w, tok)
				o.Allowed(Owner(w), s, hash(n))
				Owner(s)
			}
			if o.Count() != n {
				t.Fatalf("Count behind %d tokens, each given three times: %d", n, o.Count())
			}
		}
	}
}

func TestNilAndZero(t *testing.T) {
	var none *Office
	tok := New().Allow(hash(1), hash(2))
	if got := none.Allow(hash(1), hash(2)); got != (api.Hash{}) {
		t.Errorf("Allow of a nil one: %x", got)
	}
	if none.Allowed(Owner(hash(1)), hash(2), tok) || none.Allowed(api.Hash{}, api.Hash{}, api.Hash{}) || none.Count() != 0 {
		t.Errorf("a nil one allows something, or has a Count: %d", none.Count())
	}
	var zero Office
	if zero.Allowed(api.Hash{}, api.Hash{}, api.Hash{}) || zero.Count() != 0 {
		t.Error("the zero one allows something, or has a Count")
	}
	if got := zero.Allow(hash(1), hash(2)); got != tok || !zero.Allowed(Owner(hash(1)), hash(2), tok) || zero.Count() != 1 {
		t.Error("the zero one doesn't allow as a new one does")
	}
}

func TestSeveralAsk(t *testing.T) {
	const askers, things = 8, 200
	o := New()
	var all sync.WaitGroup
	for i := range askers {
		all.Go(func() {
			for w := range things {
				secret := hash(i % 2)
				tok := o.Allow(secret, hash(w))
				if !o.Allowed(Owner(secret), hash(w), tok) || o.Count() < 1 {
					t.Errorf("asker %d, thing %d: not allowed", i, w)
				}
			}
		})
	}
	all.Wait()
	if o.Count() != 2*things {
		t.Errorf("Count: %d, want %d", o.Count(), 2*things)
	}
}

// P9.2

func TestNeverGiven(t *testing.T) {
	a, b := New(), New()
	tok := a.Allow(hash(1), hash(2))
	if b.Allowed(Owner(hash(1)), hash(2), tok) || b.Count() != 0 {
		t.Error("one Office allows what another gave")
	}
	for _, owner := range append(some(), Owner(hash(1)), Owner(api.Hash{})) {
		for _, what := range some() {
			for _, x := range append(some(), want("moneyer/token", owner[:], what[:])) {
				if a.Allowed(owner, what, x) {
					t.Errorf("%x, which was never given, is allowed to %x for %x", x, owner, what)
				}
			}
		}
	}
}

// TestExample: what Allow gives is for one owner and one thing.
func TestExample(t *testing.T) {
	o := New()
	s, w := hash(5), hash(6)
	tok := o.Allow(s, w)
	if !o.Allowed(Owner(s), w, tok) || o.Allowed(Owner(s), hash(7), tok) {
		t.Error("Allowed")
	}
}
