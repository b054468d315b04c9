package sip_test

import (
	"math"
	"testing"

	"plenum/api"
	"plenum/sip"
)

// known is the secret of the published vectors.
var known = api.Secret{K0: 0x0706050403020100, K1: 0x0f0e0d0c0b0a0908}

// tags has the tags of the bytes 0, 1, 2, .. (modulo 256) under the known secret.
var tags = []struct {
	n   int
	tag uint64
}{
	{0, 0x726fdb47dd0e0e31},
	{1, 0x74f839c593dc67fd},
	{7, 0xab0200f58b01d137},
	{8, 0x93f5f5799a932462},
	{9, 0x9e0082df0ba9e4b0},
	{15, 0xa129ca6149be45e5},
	{16, 0x3f2acc7f57c29bdb},
	{63, 0x958a324ceb064572},
	{255, 0xa9c169fec74db21a},
	{256, 0x999d0526d2a7bfd7},
	{257, 0x8a817b8d55b29748},
	{1000, 0xdb9b3ed69e31c9a6},
}

func upTo(n int) []byte {
	b := make([]byte, n)
	for i := range b {
		b[i] = byte(i)
	}
	return b
}

// P3.1
func TestTag(t *testing.T) {
	for _, x := range tags {
		if tag := sip.Tag(known, upTo(x.n)); tag != x.tag {
			t.Errorf("Tag of %d bytes = %#x, want %#x", x.n, tag, x.tag)
		}
	}
	for k, want := range map[api.Secret]uint64{
		{}:                           0x3fc884964770eede,
		{K0: known.K1, K1: known.K0}: 0xa3ad6a76813fbcb7,
		known:                        0x5dbcfa53aa2007a5,
	} {
		if tag := sip.Tag(k, []byte("abc")); tag != want {
			t.Errorf("Tag under %v = %#x, want %#x", k, tag, want)
		}
	}
}

// P3.1
func TestCheck(t *testing.T) {
	for _, x := range tags {
		b := upTo(x.n)
		if !sip.Check(known, b, x.tag) {
			t.Errorf("Check of %d bytes denies their tag", x.n)
		}
		for bit := range 64 {
			if sip.Check(known, b, x.tag^1<<bit) {
				t.Errorf("Check of %d bytes takes another tag", x.n)
			}
		}
		if sip.Check(known, append(b, 0), x.tag) || sip.Check(api.Secret{K0: known.K0}, upTo(x.n), x.tag) {
			t.Errorf("Check of %d bytes takes other bytes or another secret", x.n)
		}
	}
}

// P3.2
func TestHasher(t *testing.T) {
	h := sip.New(known)
	next := 0
	for _, x := range tags {
		for ; next < x.n; next++ {
			h.Add([]byte{byte(next)})
		}
		if h.Count() != x.n {
			t.Errorf("Count = %d, want %d", h.Count(), x.n)
		}
		for range 2 {
			if tag := h.Tag(); tag != x.tag {
				t.Errorf("Tag after %d bytes = %#x, want %#x", x.n, tag, x.tag)
			}
		}
		if h.Count() != x.n {
			t.Errorf("Count after Tag = %d, want %d", h.Count(), x.n)
		}
	}
}

// P3.2: what was added stays as it was.
func TestHasherCopies(t *testing.T) {
	h := sip.New(known)
	b := upTo(15)
	h.Add(b)
	clear(b)
	if tag := h.Tag(); tag != 0xa129ca6149be45e5 {
		t.Errorf("Tag = %#x after the argument was changed", tag)
	}
	if g := sip.New(known); g.Count() != 0 || g.Tag() != 0x726fdb47dd0e0e31 {
		t.Error("a new hasher has received something")
	}
}

// P3.4
func TestPieces(t *testing.T) {
	whole := upTo(40)
	for n := 0; n <= len(whole); n++ {
		want := sip.Tag(known, whole[:n])
		for i := 0; i <= n; i++ {
			for _, j := range []int{i, (i + n) / 2, n} {
				h := sip.New(known)
				h.Add(whole[:i])
				h.Add(nil)
				h.Add(whole[i:j])
				h.Tag()
				h.Add(whole[j:n])
				if h.Tag() != want || h.Count() != n {
					t.Fatalf("%d bytes in the pieces 0, %d, %d: %#x, want %#x", n, i, j, h.Tag(), want)
				}
			}
		}
	}
}

// P3.3
func TestPair(t *testing.T) {
	for _, x := range []struct {
		from, to int
		want     api.Secret
	}{
		{0, 0, api.Secret{K0: 0x98a0d3c0ef557701, K1: 0xad46f6034bd4b856}},
		{1, 2, api.Secret{K0: 0x37382fc97ba06c65, K1: 0x9229a50274ce9d6b}},
		{2, 1, api.Secret{K0: 0x68677b77f2619ba1, K1: 0xa74a1c8e2e5702a2}},
		{-1, 300, api.Secret{K0: 0x8ae3f7ec6dc1d74e, K1: 0x38c0ad27bf52c2f0}},
		{math.MaxInt, math.MinInt, api.Secret{K0: 0xe6a8cf9ea0c44220, K1: 0x811bf158e0abbd2e}},
	} {
		if k := sip.Pair(known, x.from, x.to); k != x.want {
			t.Errorf("Pair(%d, %d) = %#x, want %#x", x.from, x.to, k, x.want)
		}
	}
	if sip.Pair(known, 1, 2) == sip.Pair(api.Secret{}, 1, 2) {
		t.Error("Pair does not depend on its secret")
	}
}
