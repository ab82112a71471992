package varint_test

import (
	"encoding/binary"
	"math"
	"slices"
	"strings"
	"testing"

	"domino/api"
	"domino/varint"
)

// form is a number, and its varint written out by hand.
type form struct {
	n uint64
	s string
}

// forms has the first and the last number of each length, and some between.
func forms() []form {
	return []form{
		{0, "\x00"},
		{1, "\x01"},
		{37, "\x25"},
		{1<<6 - 1, "\x3f"},
		{1 << 6, "\x40\x40"},
		{255, "\x40\xff"},
		{256, "\x41\x00"},
		{15293, "\x7b\xbd"},
		{1<<14 - 1, "\x7f\xff"},
		{1 << 14, "\x80\x00\x40\x00"},
		{1<<16 + 2, "\x80\x01\x00\x02"},
		{494878333, "\x9d\x7f\x3e\x7d"},
		{1<<30 - 1, "\xbf\xff\xff\xff"},
		{1 << 30, "\xc0\x00\x00\x00\x40\x00\x00\x00"},
		{1 << 32, "\xc0\x00\x00\x01\x00\x00\x00\x00"},
		{151288809941952652, "\xc2\x19\x7c\x5e\xff\x14\xe8\x8c"},
		{1 << 61, "\xe0\x00\x00\x00\x00\x00\x00\x00"},
		{1<<62 - 1, "\xff\xff\xff\xff\xff\xff\xff\xff"},
	}
}

// tooGreat has numbers that no varint has.
func tooGreat() []uint64 {
	return []uint64{1 << 62, 1<<62 + 1, 1<<62 + 1<<6, 1 << 63, 1<<63 + 1, math.MaxUint64}
}

// many numbers of all magnitudes: those about each power of two, and some that a fixed rule strews.
func many() []uint64 {
	var l []uint64
	for bit := range 62 {
		for _, n := range []uint64{1<<bit - 1, 1 << bit, 1<<bit + 1} {
			l = append(l, n)
		}
	}
	x := uint64(1)
	for i := range 2000 {
		x = x*6364136223846793005 + 1442695040888963407
		l = append(l, x>>(2+i%62))
	}
	return append(l, api.MaxVarint)
}

// tails stand behind a varint; none of them may be taken for a part of it.
func tails() []string {
	return []string{"", "\x00", "ab", "\xff", "\xff\xff\xff\xff\xff\xff\xff\xff\xff", strings.Repeat("z", 2000)}
}

// P1.1

func TestSizeOfEachLength(t *testing.T) {
	for _, x := range forms() {
		if w := varint.Size(x.n); w != len(x.s) {
			t.Errorf("Size(%d) = %d, not %d", x.n, w, len(x.s))
		}
	}
}

func TestSizeAtTheEdges(t *testing.T) {
	for _, x := range []struct {
		bits, below, from int
	}{{6, 1, 2}, {14, 2, 4}, {30, 4, 8}, {62, 8, 0}} {
		edge := uint64(1) << x.bits
		if w := varint.Size(edge - 1); w != x.below {
			t.Errorf("Size(2^%d - 1) = %d, not %d", x.bits, w, x.below)
		}
		if w := varint.Size(edge); w != x.from {
			t.Errorf("Size(2^%d) = %d, not %d", x.bits, w, x.from)
		}
	}
}

func TestPutWritesTheBytes(t *testing.T) {
	for _, x := range forms() {
		if s, e := varint.Put(x.n); s != x.s || e != api.OK {
			t.Errorf("Put(%d) = %x %d, not %x", x.n, s, e, x.s)
		}
	}
}

func TestWhatIsTooGreatHasNoBytes(t *testing.T) {
	for _, n := range tooGreat() {
		if w := varint.Size(n); w != 0 {
			t.Errorf("Size(%d) = %d", n, w)
		}
		if s, e := varint.Put(n); s != "" || e != api.ErrArg {
			t.Errorf("Put(%d) = %x %d", n, s, e)
		}
	}
}

// P1.2

func TestGetTellsNumberAndRest(t *testing.T) {
	for _, x := range forms() {
		for _, tail := range tails() {
			n, rest, e := varint.Get(x.s + tail)
			if n != x.n || rest != tail || e != api.OK {
				t.Errorf("Get(%x and %d more) = %d %q %d", x.s, len(tail), n, rest, e)
			}
		}
	}
}

func TestGetOfTooFewBytes(t *testing.T) {
	for _, x := range forms() {
		for have := range len(x.s) {
			if n, rest, e := varint.Get(x.s[:have]); n != 0 || rest != "" || e != api.ErrShort {
				t.Errorf("Get(%x) = %d %q %d", x.s[:have], n, rest, e)
			}
		}
	}
}

func TestGetTakesMoreBytesThanSizeTells(t *testing.T) {
	for _, x := range []form{
		{0, "\x40\x00"},
		{37, "\x40\x25"},
		{1<<6 - 1, "\x40\x3f"},
		{0, "\x80\x00\x00\x00"},
		{37, "\x80\x00\x00\x25"},
		{1<<14 - 1, "\x80\x00\x3f\xff"},
		{0, "\xc0\x00\x00\x00\x00\x00\x00\x00"},
		{37, "\xc0\x00\x00\x00\x00\x00\x00\x25"},
		{1<<30 - 1, "\xc0\x00\x00\x00\x3f\xff\xff\xff"},
	} {
		if n, rest, e := varint.Get(x.s + "ab"); n != x.n || rest != "ab" || e != api.OK {
			t.Errorf("Get(%x) = %d %q %d", x.s, n, rest, e)
		}
	}
}

// Of each first byte: the length that its highest two bits tell, and no less.
func TestGetOfEachFirstByte(t *testing.T) {
	for first := range 256 {
		wide := 1 << (first >> 6)
		s := string([]byte{byte(first), 1, 2, 3, 4, 5, 6, 7, 8})
		want := uint64(first & 0x3f)
		for i := 1; i < wide; i++ {
			want = want<<8 + uint64(i)
		}
		if n, rest, e := varint.Get(s); n != want || rest != s[wide:] || e != api.OK {
			t.Errorf("Get(%x) = %x %x %d", s, n, rest, e)
		}
		if n, rest, e := varint.Get(s[:wide-1]); n != 0 || rest != "" || e != api.ErrShort {
			t.Errorf("Get(%x) = %x %x %d", s[:wide-1], n, rest, e)
		}
	}
}

// P1.3

func TestPutsOneBehindTheOther(t *testing.T) {
	for _, x := range []struct {
		l []uint64
		s string
	}{
		{nil, ""},
		{[]uint64{}, ""},
		{[]uint64{0}, "\x00"},
		{[]uint64{5, 64, 0}, "\x05\x40\x40\x00"},
		{[]uint64{0, 64, 5}, "\x00\x40\x40\x05"},
		{[]uint64{1<<62 - 1, 1 << 14, 7, 7}, "\xff\xff\xff\xff\xff\xff\xff\xff\x80\x00\x40\x00\x07\x07"},
	} {
		kept := slices.Clone(x.l)
		if s, e := varint.Puts(x.l...); s != x.s || e != api.OK {
			t.Errorf("Puts(%d) = %x %d, not %x", x.l, s, e, x.s)
		}
		if !slices.Equal(x.l, kept) {
			t.Errorf("Puts changed %d to %d", kept, x.l)
		}
	}
	if s, e := varint.Puts(); s != "" || e != api.OK {
		t.Errorf("Puts() = %x %d", s, e)
	}
}

func TestPutsOfWhatIsTooGreat(t *testing.T) {
	for _, n := range tooGreat() {
		for _, l := range [][]uint64{{n}, {n, 5}, {5, n}, {5, 64, n, 0}, {n, n}, {1<<62 - 1, n}} {
			if s, e := varint.Puts(l...); s != "" || e != api.ErrArg {
				t.Errorf("Puts(%d) = %x %d", l, s, e)
			}
		}
	}
}

func TestGetsTellsSoMany(t *testing.T) {
	s := "\x05\x40\x40\x00\x80\x00\x40\x00"
	for _, x := range []struct {
		many int
		l    []uint64
		rest string
	}{
		{1, []uint64{5}, s[1:]},
		{2, []uint64{5, 64}, s[3:]},
		{3, []uint64{5, 64, 0}, s[4:]},
		{4, []uint64{5, 64, 0, 1 << 14}, ""},
	} {
		l, rest, e := varint.Gets(s, x.many)
		if !slices.Equal(l, x.l) || rest != x.rest || e != api.OK {
			t.Errorf("Gets(.., %d) = %d %x %d", x.many, l, rest, e)
		}
	}
}

func TestGetsOfNone(t *testing.T) {
	for _, s := range []string{"", "\x05", "ab", "\xff"} {
		for _, none := range []int{0, -1, -8, math.MinInt} {
			if l, rest, e := varint.Gets(s, none); len(l) != 0 || rest != s || e != api.OK {
				t.Errorf("Gets(%x, %d) = %d %x %d", s, none, l, rest, e)
			}
		}
	}
}

func TestGetsOfTooFewBytes(t *testing.T) {
	for _, x := range []struct {
		s    string
		many int
	}{
		{"", 1},
		{"", math.MaxInt},
		{"\x40", 1},
		{"\xff\xff\xff\xff\xff\xff\xff", 1},
		{"\x05", 2},
		{"\x05\x40", 2},
		{"\x05\x40\x40\x00", 4},
		{"\x05\x40\x40\x80\x00\x40", 3},
		{strings.Repeat("\x05", 2000), 2001},
		{strings.Repeat("\x05", 2000), math.MaxInt},
	} {
		if l, rest, e := varint.Gets(x.s, x.many); len(l) != 0 || rest != "" || e != api.ErrShort {
			t.Errorf("Gets(%x, %d) = %d %x %d", x.s, x.many, l, rest, e)
		}
	}
}

func TestGetsAnswersNewLists(t *testing.T) {
	first, _, _ := varint.Gets("\x05\x06", 2)
	second, _, _ := varint.Gets("\x05\x06", 2)
	first[0], first[1] = 9, 9
	third, _, _ := varint.Gets("\x05\x06", 2)
	for _, l := range [][]uint64{second, third} {
		if !slices.Equal(l, []uint64{5, 6}) {
			t.Errorf("a list that was answered was written over: %d", l)
		}
	}
}

// P1.4

func TestFixedOfEachWidth(t *testing.T) {
	n := uint64(0x0123456789abcdef)
	all := "\x01\x23\x45\x67\x89\xab\xcd\xef"
	for wide := range 9 {
		if s := varint.Fixed(n, wide); s != all[8-wide:] {
			t.Errorf("Fixed(%x, %d) = %x", n, wide, s)
		}
	}
	for _, wide := range []int{-1, -2, -8, -9, math.MinInt} {
		if s := varint.Fixed(n, wide); s != "" {
			t.Errorf("Fixed(%x, %d) = %x", n, wide, s)
		}
	}
	for _, wide := range []int{9, 10, 16, 64, 2000, math.MaxInt} {
		if s := varint.Fixed(n, wide); s != all {
			t.Errorf("Fixed(%x, %d) = %x", n, wide, s)
		}
	}
}

// Fixed takes every number: also those that no varint has.
func TestFixedOfLeastAndGreatest(t *testing.T) {
	for wide := range 9 {
		if s := varint.Fixed(0, wide); s != strings.Repeat("\x00", wide) {
			t.Errorf("Fixed(0, %d) = %x", wide, s)
		}
		if s := varint.Fixed(math.MaxUint64, wide); s != strings.Repeat("\xff", wide) {
			t.Errorf("Fixed(2^64 - 1, %d) = %x", wide, s)
		}
	}
}

func TestBackOfEachLength(t *testing.T) {
	for _, x := range []struct {
		s string
		n uint64
	}{
		{"", 0},
		{"\x00", 0},
		{"\x02", 2},
		{"\xff", 255},
		{"\x01\x02", 258},
		{"\x00\x00\x01\x02", 258},
		{"\x01\x02\x03", 0x010203},
		{"\x01\x23\x45\x67\x89\xab\xcd", 0x0123456789abcd},
		{"\x01\x23\x45\x67\x89\xab\xcd\xef", 0x0123456789abcdef},
		{"\xff\xff\xff\xff\xff\xff\xff\xff", math.MaxUint64},
		{"\x09\x01\x23\x45\x67\x89\xab\xcd\xef", 0x0123456789abcdef},
		{"\xff\x00\x00\x00\x00\x00\x00\x00\x00", 0},
		{strings.Repeat("\xff", 1992) + "\x00\x00\x00\x00\x00\x00\x01\x02", 258},
	} {
		if n := varint.Back(x.s); n != x.n {
			t.Errorf("Back(%x) = %x, not %x", x.s, n, x.n)
		}
	}
}

// P1.5

func TestWhatIsPutIsGotBack(t *testing.T) {
	for _, n := range many() {
		s, e := varint.Put(n)
		if e != api.OK || len(s) != varint.Size(n) {
			t.Fatalf("Put(%d) = %x %d", n, s, e)
		}
		for _, tail := range tails() {
			if back, rest, e := varint.Get(s + tail); back != n || rest != tail || e != api.OK {
				t.Fatalf("%d came back as %d %q %d", n, back, rest, e)
			}
		}
	}
}

func TestAllThatIsPutIsGotBack(t *testing.T) {
	l := many()
	for _, tail := range tails() {
		s, e := varint.Puts(l...)
		if e != api.OK {
			t.Fatal(e)
		}
		back, rest, e := varint.Gets(s+tail, len(l))
		if !slices.Equal(back, l) || rest != tail || e != api.OK {
			t.Fatalf("%d of %d came back, %d", len(back), len(l), e)
		}
	}
}

func TestWhatIsFixedComesBack(t *testing.T) {
	for _, n := range append(many(), tooGreat()...) {
		if s := varint.Fixed(n, 8); s != string(binary.BigEndian.AppendUint64(nil, n)) || varint.Back(s) != n {
			t.Fatalf("%d came back as %d by %x", n, varint.Back(s), s)
		}
		for wide := range 8 {
			if low := n & (1<<(8*wide) - 1); varint.Back(varint.Fixed(n, wide)) != low {
				t.Fatalf("the lowest %d bytes of %x: %x", wide, n, varint.Fixed(n, wide))
			}
		}
	}
}
