package ranges_test

import (
	"math"
	"slices"
	"testing"

	"domino/ranges"
)

type (
	R = ranges.Range
	S = ranges.Set
)

// top is the greatest number of a set.
const top = 1<<63 - 1

// empties have no number: Hi is below Lo.
func empties() []R {
	return []R{{1, 0}, {2, 1}, {5, 3}, {9, 2}, {1000, 0}, {top, top - 1}, {top, 0}, {1 << 63, 0}, {1 << 63, top}, {math.MaxUint64, 0}}
}

// alike tells whether two sets are the same, range by range; sets without ranges and nil ones are alike.
func alike(a, b S) bool {
	return slices.Equal(a, b)
}

// width is how many numbers the small sets of these tests are made of, from a base on.
const width = 7

// bases are where those numbers begin: at 0, between, and so that the last one is the greatest of all.
func bases() []uint64 {
	return []uint64{0, 1000, 1<<32 - 3, top - width + 1}
}

// listed tells the set of the numbers of base and above whose bits are ones, built number by number.
func listed(base uint64, bits int) S {
	var s S
	for i := range uint64(width) {
		switch here, before := bits>>i&1 == 1, i > 0 && bits>>(i-1)&1 == 1; {
		case here && before:
			s[len(s)-1].Hi++
		case here:
			s = append(s, R{base + i, base + i})
		}
	}
	return s
}

// bitsOf tells which of the numbers from base on r has.
func bitsOf(base uint64, r R) int {
	bits := 0
	for i := range uint64(width) {
		if r.Lo <= base+i && base+i <= r.Hi {
			bits |= 1 << i
		}
	}
	return bits
}

// smallRanges has all ranges between two of the numbers from base on: also those that have none.
func smallRanges(base uint64) []R {
	var l []R
	for lo := range uint64(width) {
		for hi := range uint64(width) {
			l = append(l, R{base + lo, base + hi})
		}
	}
	return l
}

// smallLists has all lists of up to two ranges between some numbers from base on, and many of three.
func smallLists(base uint64) [][]R {
	l := [][]R{nil, {}}
	all := smallRanges(base)
	for i, a := range all {
		l = append(l, []R{a})
		for j, b := range all {
			l = append(l, []R{a, b})
			for k := (i + j) % 3; k < len(all); k += 3 {
				l = append(l, []R{a, b, all[k]})
			}
		}
	}
	return l
}

// P3.1

func TestMayOfSets(t *testing.T) {
	for _, s := range []S{
		nil, {},
		{{0, 0}}, {{7, 7}}, {{0, 5}}, {{3, 9}},
		{{top, top}}, {{0, top}}, {{5, top}},
		{{0, 0}, {2, 2}}, {{0, 0}, {2, 2}, {4, 4}}, {{1, 3}, {6, 6}}, {{0, 5}, {7, 9}, {100, 200}},
		{{0, 0}, {top, top}}, {{0, top - 2}, {top, top}}, {{5, top - 3}, {top - 1, top}},
	} {
		if !ranges.May(s) {
			t.Errorf("May(%d) is false", s)
		}
	}
}

func TestMayOfWhatIsNoSet(t *testing.T) {
	for name, l := range map[string][]S{
		"a range without numbers": {
			{{1, 0}}, {{5, 4}}, {{9, 2}}, {{top, 0}}, {{top, top - 1}},
			{{1, 0}, {5, 6}}, {{1, 2}, {6, 5}}, {{1, 2}, {9, 4}}, {{1, 2}, {4, 3}, {6, 7}}, {{0, 1}, {9, 8}},
		},
		"ranges that touch":           {{{1, 2}, {3, 4}}, {{0, 0}, {1, 1}}, {{0, 0}, {2, 2}, {3, 3}}, {{0, top - 1}, {top, top}}, {{top - 1, top - 1}, {top, top}}},
		"ranges that overlap":         {{{1, 5}, {3, 9}}, {{1, 5}, {5, 9}}, {{0, top}, {5, top}}, {{0, 1}, {4, 7}, {6, 8}}},
		"ranges within one another":   {{{1, 9}, {3, 5}}, {{3, 5}, {1, 9}}, {{0, top}, {top, top}}, {{0, top}, {0, 0}}, {{1, 9}, {9, 9}}, {{1, 9}, {1, 1}}},
		"ranges that come again":      {{{1, 2}, {1, 2}}, {{7, 7}, {7, 7}}, {{0, 0}, {0, 0}}, {{1, 2}, {5, 6}, {5, 6}}, {{top, top}, {top, top}}},
		"ranges in another order":     {{{5, 6}, {1, 2}}, {{2, 2}, {0, 0}}, {{1, 2}, {9, 9}, {5, 6}}, {{5, 6}, {9, 9}, {1, 2}}, {{top, top}, {0, 0}}},
		"a number of 2^63 or above":   {{{0, 1 << 63}}, {{1 << 63, 1 << 63}}, {{top, 1 << 63}}, {{0, math.MaxUint64}}, {{1<<63 + 5, 1<<63 + 9}}, {{math.MaxUint64, math.MaxUint64}}},
		"one such, behind others":     {{{0, 5}, {1 << 63, 1 << 63}}, {{0, 5}, {7, 1 << 63}}, {{0, 0}, {9, 9}, {20, math.MaxUint64}}},
		"one such, ahead of others":   {{{5, math.MaxUint64}, {1, 1}}, {{5, math.MaxUint64}, {7, 8}}, {{3, math.MaxUint64 - 1}, {0, 0}}, {{1 << 63, 1 << 63}, {1<<63 + 2, 1<<63 + 2}}},
		"no number, and a great Lo":   {{{1 << 63, 0}}, {{1 << 63, top}}, {{math.MaxUint64, 0}}, {{math.MaxUint64, 1 << 63}}},
		"the last ones touch at last": {{{0, 0}, {2, 2}, {4, 4}, {6, 6}, {7, 7}}, {{0, 0}, {2, 2}, {4, 4}, {6, 6}, {5, 5}}},
	} {
		for _, s := range l {
			if ranges.May(s) {
				t.Errorf("%s: May(%d) is true", name, s)
			}
		}
	}
}

// Sets have just one form: of all lists of ranges those that are built number by number may be, and no others.
func TestMayOfAllSmallLists(t *testing.T) {
	for _, base := range bases() {
		for _, l := range smallLists(base) {
			bits := 0
			for _, r := range l {
				bits |= bitsOf(base, r)
			}
			if may := ranges.May(l); may != alike(l, listed(base, bits)) {
				t.Fatalf("May(%d) = %t", l, may)
			}
		}
	}
}

// P3.2

func TestHas(t *testing.T) {
	s := S{{0, 0}, {2, 4}, {6, 6}, {100, 200}, {top - 2, top}}
	for _, n := range []uint64{0, 2, 3, 4, 6, 100, 101, 150, 199, 200, top - 2, top - 1, top} {
		if !ranges.Has(s, n) {
			t.Errorf("%d is not in it", n)
		}
	}
	for _, n := range []uint64{1, 5, 7, 8, 99, 201, 1 << 40, top - 3, top + 1, math.MaxUint64} {
		if ranges.Has(s, n) {
			t.Errorf("%d is in it", n)
		}
	}
	for _, n := range []uint64{0, 1, 5, top} {
		if ranges.Has(nil, n) || ranges.Has(S{}, n) {
			t.Errorf("%d is in a set without ranges", n)
		}
		if !ranges.Has(S{{0, top}}, n) || !ranges.Has(S{{n, n}}, n) {
			t.Errorf("%d is not in it", n)
		}
		if ranges.Has(S{{n + 1, n + 1}}, n) || n > 0 && ranges.Has(S{{n - 1, n - 1}}, n) {
			t.Errorf("%d is in one beside it", n)
		}
	}
}

// changes are a set and a range, and what the three calls that take both answer, worked out by hand.
type changes struct {
	name      string
	s         S
	r         R
	add       S
	cut, gaps S
}

func changed() []changes {
	return []changes{
		{"no set", nil, R{3, 5}, S{{3, 5}}, nil, S{{3, 5}}},
		{"a set without ranges", S{}, R{3, 5}, S{{3, 5}}, nil, S{{3, 5}}},
		{"no set, 0", nil, R{0, 0}, S{{0, 0}}, nil, S{{0, 0}}},
		{"no set, the greatest", nil, R{top, top}, S{{top, top}}, nil, S{{top, top}}},
		{"no set, all numbers", nil, R{0, top}, S{{0, top}}, nil, S{{0, top}}},
		{"the same", S{{3, 5}}, R{3, 5}, S{{3, 5}}, nil, nil},
		{"it touches from below", S{{3, 4}}, R{1, 2}, S{{1, 4}}, S{{3, 4}}, S{{1, 2}}},
		{"it touches from above", S{{1, 2}}, R{3, 4}, S{{1, 4}}, S{{1, 2}}, S{{3, 4}}},
		{"one apart below", S{{4, 5}}, R{1, 2}, S{{1, 2}, {4, 5}}, S{{4, 5}}, S{{1, 2}}},
		{"one apart above", S{{1, 2}}, R{4, 5}, S{{1, 2}, {4, 5}}, S{{1, 2}}, S{{4, 5}}},
		{"it fills a gap of one", S{{1, 2}, {4, 5}}, R{3, 3}, S{{1, 5}}, S{{1, 2}, {4, 5}}, S{{3, 3}}},
		{"in a gap, and apart", S{{1, 2}, {8, 9}}, R{5, 5}, S{{1, 2}, {5, 5}, {8, 9}}, S{{1, 2}, {8, 9}}, S{{5, 5}}},
		{"in a gap, it touches the lower one", S{{1, 2}, {8, 9}}, R{3, 5}, S{{1, 5}, {8, 9}}, S{{1, 2}, {8, 9}}, S{{3, 5}}},
		{"in a gap, it touches the higher one", S{{1, 2}, {8, 9}}, R{5, 7}, S{{1, 2}, {5, 9}}, S{{1, 2}, {8, 9}}, S{{5, 7}}},
		{"it overlaps from below", S{{3, 6}}, R{1, 4}, S{{1, 6}}, S{{5, 6}}, S{{1, 2}}},
		{"it overlaps from above", S{{3, 6}}, R{5, 9}, S{{3, 9}}, S{{3, 4}}, S{{7, 9}}},
		{"it overlaps by one number", S{{3, 6}}, R{6, 9}, S{{3, 9}}, S{{3, 5}}, S{{7, 9}}},
		{"within", S{{1, 9}}, R{3, 5}, S{{1, 9}}, S{{1, 2}, {6, 9}}, nil},
		{"within, from its start", S{{1, 9}}, R{1, 5}, S{{1, 9}}, S{{6, 9}}, nil},
		{"within, to its end", S{{1, 9}}, R{5, 9}, S{{1, 9}}, S{{1, 4}}, nil},
		{"within, one number", S{{1, 3}}, R{2, 2}, S{{1, 3}}, S{{1, 1}, {3, 3}}, nil},
		{"it has the set within", S{{3, 5}}, R{1, 9}, S{{1, 9}}, nil, S{{1, 2}, {6, 9}}},
		{"it has three within", S{{2, 2}, {4, 5}, {8, 8}}, R{1, 9}, S{{1, 9}}, nil, S{{1, 1}, {3, 3}, {6, 7}, {9, 9}}},
		{"from one into another", S{{1, 3}, {5, 5}, {7, 9}}, R{2, 8}, S{{1, 9}}, S{{1, 1}, {9, 9}}, S{{4, 4}, {6, 6}}},
		{"to just one's end, from just one's start", S{{1, 3}, {5, 5}, {7, 9}}, R{1, 5}, S{{1, 5}, {7, 9}}, S{{7, 9}}, S{{4, 4}}},
		{"one number, at a range's edge", S{{1, 3}, {7, 9}}, R{7, 7}, S{{1, 3}, {7, 9}}, S{{1, 3}, {8, 9}}, nil},
		{"ahead of all", S{{5, 6}, {8, 8}}, R{0, 0}, S{{0, 0}, {5, 6}, {8, 8}}, S{{5, 6}, {8, 8}}, S{{0, 0}}},
		{"behind all", S{{5, 6}, {8, 8}}, R{top, top}, S{{5, 6}, {8, 8}, {top, top}}, S{{5, 6}, {8, 8}}, S{{top, top}}},
		{"all numbers", S{{5, 6}, {8, 8}}, R{0, top}, S{{0, top}}, nil, S{{0, 4}, {7, 7}, {9, top}}},
		{"a set of all numbers", S{{0, top}}, R{5, 6}, S{{0, top}}, S{{0, 4}, {7, top}}, nil},
		{"a set of all numbers, 0", S{{0, top}}, R{0, 0}, S{{0, top}}, S{{1, top}}, nil},
		{"a set of all numbers, the greatest", S{{0, top}}, R{top, top}, S{{0, top}}, S{{0, top - 1}}, nil},
		{"a set of all numbers, and all", S{{0, top}}, R{0, top}, S{{0, top}}, nil, nil},
		{"both ends", S{{0, 0}, {top, top}}, R{1, top - 1}, S{{0, top}}, S{{0, 0}, {top, top}}, S{{1, top - 1}}},
		{"both ends, and all", S{{0, 0}, {top, top}}, R{0, top}, S{{0, top}}, nil, S{{1, top - 1}}},
		{"it touches the greatest", S{{top, top}}, R{top - 1, top - 1}, S{{top - 1, top}}, S{{top, top}}, S{{top - 1, top - 1}}},
		{"the greatest touches it", S{{top - 1, top - 1}}, R{top, top}, S{{top - 1, top}}, S{{top - 1, top - 1}}, S{{top, top}}},
	}
}

func TestAddCutAndGaps(t *testing.T) {
	for _, x := range changed() {
		if s := ranges.Add(x.s, x.r); !alike(s, x.add) {
			t.Errorf("%s: Add(%d, %d) = %d, not %d", x.name, x.s, x.r, s, x.add)
		}
		if s := ranges.Cut(x.s, x.r); !alike(s, x.cut) {
			t.Errorf("%s: Cut(%d, %d) = %d, not %d", x.name, x.s, x.r, s, x.cut)
		}
		if s := ranges.Gaps(x.s, x.r); !alike(s, x.gaps) {
			t.Errorf("%s: Gaps(%d, %d) = %d, not %d", x.name, x.s, x.r, s, x.gaps)
		}
	}
}

// A range without numbers adds none, cuts none, and has no gaps, wherever it stands.
func TestRangesWithoutNumbers(t *testing.T) {
	for _, s := range []S{nil, {}, {{0, 0}}, {{1, 9}}, {{0, 2}, {4, 4}, {top, top}}, {{0, top}}, {{top, top}}} {
		for _, r := range empties() {
			if a := ranges.Add(s, r); !alike(a, s) {
				t.Errorf("Add(%d, %d) = %d", s, r, a)
			}
			if a := ranges.Cut(s, r); !alike(a, s) {
				t.Errorf("Cut(%d, %d) = %d", s, r, a)
			}
			if a := ranges.Gaps(s, r); len(a) != 0 {
				t.Errorf("Gaps(%d, %d) = %d", s, r, a)
			}
			if a := ranges.Of(append(slices.Clone(s), r)...); !alike(a, s) {
				t.Errorf("Of(%d, and %d) = %d", s, r, a)
			}
		}
	}
}

func TestMeet(t *testing.T) {
	for _, x := range []struct{ a, b, both S }{
		{nil, nil, nil}, {nil, S{}, nil}, {S{}, S{}, nil},
		{nil, S{{0, top}}, nil}, {S{}, S{{3, 3}}, nil},
		{S{{3, 5}}, S{{3, 5}}, S{{3, 5}}},
		{S{{1, 2}}, S{{3, 4}}, nil}, {S{{1, 2}}, S{{4, 5}}, nil},
		{S{{1, 5}}, S{{3, 9}}, S{{3, 5}}}, {S{{1, 5}}, S{{5, 9}}, S{{5, 5}}},
		{S{{1, 9}}, S{{3, 5}}, S{{3, 5}}}, {S{{1, 9}}, S{{1, 1}, {9, 9}}, S{{1, 1}, {9, 9}}},
		{S{{1, 9}}, S{{0, 0}, {2, 3}, {5, 5}, {9, 12}}, S{{2, 3}, {5, 5}, {9, 9}}},
		{S{{1, 3}, {5, 7}, {9, 11}}, S{{2, 6}, {10, 10}}, S{{2, 3}, {5, 6}, {10, 10}}},
		{S{{0, 0}, {2, 2}, {4, 4}}, S{{1, 1}, {3, 3}, {5, 5}}, nil},
		{S{{0, 2}, {4, 6}}, S{{2, 4}}, S{{2, 2}, {4, 4}}},
		{S{{0, top}}, S{{0, 0}, {7, 9}, {top, top}}, S{{0, 0}, {7, 9}, {top, top}}},
		{S{{0, top}}, S{{0, top}}, S{{0, top}}},
		{S{{0, 0}, {top, top}}, S{{top - 1, top}}, S{{top, top}}},
		{S{{0, top - 1}}, S{{top, top}}, nil},
	} {
		if s := ranges.Meet(x.a, x.b); !alike(s, x.both) {
			t.Errorf("Meet(%d, %d) = %d, not %d", x.a, x.b, s, x.both)
		}
		if s := ranges.Meet(x.b, x.a); !alike(s, x.both) {
			t.Errorf("Meet(%d, %d) = %d, not %d", x.b, x.a, s, x.both)
		}
	}
}

func TestCount(t *testing.T) {
	for _, x := range []struct {
		s S
		n uint64
	}{
		{nil, 0}, {S{}, 0},
		{S{{0, 0}}, 1}, {S{{9, 9}}, 1}, {S{{top, top}}, 1},
		{S{{0, 5}}, 6}, {S{{3, 9}}, 7}, {S{{1, 2}, {4, 4}, {10, 19}}, 13},
		{S{{0, 0}, {top, top}}, 2}, {S{{0, top}}, 1 << 63}, {S{{1, top}}, top}, {S{{0, top - 2}, {top, top}}, top},
	} {
		if n := ranges.Count(x.s); n != x.n {
			t.Errorf("Count(%d) = %d, not %d", x.s, n, x.n)
		}
	}
}

func TestOf(t *testing.T) {
	if s := ranges.Of(); len(s) != 0 {
		t.Errorf("Of() = %d", s)
	}
	for _, x := range []struct {
		name string
		l    []R
		s    S
	}{
		{"the example", []R{{1, 2}, {3, 4}, {7, 6}}, S{{1, 4}}},
		{"no range", []R{}, nil},
		{"one range", []R{{3, 5}}, S{{3, 5}}},
		{"one number", []R{{0, 0}}, S{{0, 0}}},
		{"the greatest", []R{{top, top}}, S{{top, top}}},
		{"just ranges without numbers", []R{{1, 0}, {9, 3}, {top, 0}}, nil},
		{"ranges without numbers among others", []R{{1, 0}, {5, 6}, {9, 3}, {1, 2}, {4, 3}}, S{{1, 2}, {5, 6}}},
		{"in order", []R{{1, 2}, {4, 5}, {9, 9}}, S{{1, 2}, {4, 5}, {9, 9}}},
		{"the last one first", []R{{9, 9}, {4, 5}, {1, 2}}, S{{1, 2}, {4, 5}, {9, 9}}},
		{"in another order", []R{{4, 5}, {9, 9}, {1, 2}, {7, 7}}, S{{1, 2}, {4, 5}, {7, 7}, {9, 9}}},
		{"they touch, in another order", []R{{5, 6}, {1, 2}, {3, 4}}, S{{1, 6}}},
		{"they come again", []R{{1, 2}, {5, 6}, {1, 2}, {5, 6}, {1, 2}}, S{{1, 2}, {5, 6}}},
		{"they overlap", []R{{1, 5}, {3, 9}, {8, 12}}, S{{1, 12}}},
		{"within one another", []R{{1, 20}, {3, 5}, {7, 7}, {22, 23}}, S{{1, 20}, {22, 23}}},
		{"within one another, the greater one last", []R{{3, 5}, {7, 7}, {1, 20}, {22, 23}}, S{{1, 20}, {22, 23}}},
		{"from one number on, the longer one first", []R{{1, 9}, {1, 4}, {11, 11}}, S{{1, 9}, {11, 11}}},
		{"from one number on, the shorter one first", []R{{1, 4}, {1, 9}, {11, 11}}, S{{1, 9}, {11, 11}}},
		{"both ends", []R{{top, top}, {0, 0}}, S{{0, 0}, {top, top}}},
		{"the ends touch all between", []R{{top, top}, {0, 0}, {1, top - 1}}, S{{0, top}}},
		{"all numbers, again and again", []R{{0, top}, {5, 6}, {0, top}, {top, top}}, S{{0, top}}},
	} {
		if s := ranges.Of(x.l...); !alike(s, x.s) {
			t.Errorf("%s: Of(%d) = %d, not %d", x.name, x.l, s, x.s)
		}
	}
}

// Of all small sets and ranges, at both ends of the numbers too: the calls answer what is reckoned number by number.
func TestAllSmallSetsAndRanges(t *testing.T) {
	for _, base := range bases() {
		for bits := range 1 << width {
			s := listed(base, bits)
			for i := range uint64(width) {
				if n := base + i; ranges.Has(s, n) != (bits>>i&1 == 1) {
					t.Fatalf("Has(%d, %d) = %t", s, n, ranges.Has(s, n))
				}
			}
			for _, r := range smallRanges(base) {
				has := bitsOf(base, r)
				checkSmall(t, "Add", s, r, ranges.Add(s, r), listed(base, bits|has))
				checkSmall(t, "Cut", s, r, ranges.Cut(s, r), listed(base, bits&^has))
				checkSmall(t, "Gaps", s, r, ranges.Gaps(s, r), listed(base, has&^bits))
			}
			for other := range 1 << width {
				b := listed(base, other)
				checkSmall(t, "Meet", s, b, ranges.Meet(s, b), listed(base, bits&other))
			}
		}
	}
}

func checkSmall(t *testing.T, call string, s S, with any, got, want S) {
	t.Helper()
	if !alike(got, want) {
		t.Fatalf("%s(%d, %d) = %d, not %d", call, s, with, got, want)
	}
}

func TestOfAllSmallLists(t *testing.T) {
	for _, base := range bases() {
		for _, l := range smallLists(base) {
			bits := 0
			for _, r := range l {
				bits |= bitsOf(base, r)
			}
			want := listed(base, bits)
			checkSmall(t, "Of", l, "", ranges.Of(l...), want)
			numbers := uint64(0)
			for i := range width {
				numbers += uint64(bits >> i & 1)
			}
			if n := ranges.Count(want); n != numbers {
				t.Fatalf("Count(%d) = %d, not %d", want, n, numbers)
			}
		}
	}
}

// P3.3

// strewn tells so many numbers below the limit, by a fixed rule that the seed begins.
func strewn(seed uint64, many int, limit uint64) []uint64 {
	var l []uint64
	x := seed*2862933555777941757 + 3037000493
	for range many {
		x = x*6364136223846793005 + 1442695040888963407
		l = append(l, (x>>7)%limit)
	}
	return l
}

// strewnRanges tells so many ranges of numbers below the limit, some of them without a number.
func strewnRanges(seed uint64, many int, limit, longest uint64) []R {
	var l []R
	starts, lengths := strewn(seed, many, limit), strewn(seed+1, many, longest)
	for i, lo := range starts {
		r := R{lo, min(lo+lengths[i], limit-1)}
		if i%11 == 10 {
			r = R{lo + 1, lo}
		}
		l = append(l, r)
	}
	return l
}

// world is a set, reckoned number by number, of the 400 numbers from a base on.
type world struct {
	base uint64
	has  [400]bool
}

// lay makes all numbers of r such that the world has them, or that it has not.
func (w *world) lay(r R, has bool) {
	for i := range w.has {
		if n := w.base + uint64(i); r.Lo <= n && n <= r.Hi {
			w.has[i] = has
		}
	}
}

func (w *world) check(t *testing.T, call string, s S) {
	t.Helper()
	many := uint64(0)
	for i, has := range w.has {
		if n := w.base + uint64(i); ranges.Has(s, n) != has {
			t.Fatalf("behind %s: Has(%d, %d) = %t", call, s, n, !has)
		}
		if has {
			many++
		}
	}
	if n := ranges.Count(s); n != many {
		t.Fatalf("behind %s: Count(%d) = %d, not %d", call, s, n, many)
	}
	if !ranges.May(s) {
		t.Fatalf("behind %s: %d may not be", call, s)
	}
}

// Calls are done one behind the other, on what the one ahead answered.
func TestSetsStaySetsThroughManyCalls(t *testing.T) {
	for _, base := range []uint64{0, 1 << 40, top - 399} {
		var s S
		w := world{base: base}
		for i, r := range strewnRanges(base, 600, 400, 25) {
			r = R{base + r.Lo, base + r.Hi}
			switch i % 5 {
			case 0, 2:
				s = ranges.Cut(s, r)
				w.lay(r, false)
				w.check(t, "Cut", s)
			case 1, 3, 4:
				s = ranges.Add(s, r)
				w.lay(r, true)
				w.check(t, "Add", s)
			}
			if i%40 == 39 {
				all := R{base, base + 399}
				s = ranges.Gaps(s, all)
				for j := range w.has {
					w.has[j] = !w.has[j]
				}
				w.check(t, "Gaps", s)
			}
			if i%50 == 49 {
				other := ranges.Of(R{base + 3, base + 180}, R{base + 200, base + 388})
				s = ranges.Meet(s, other)
				w.lay(R{base, base + 2}, false)
				w.lay(R{base + 181, base + 199}, false)
				w.lay(R{base + 389, base + 399}, false)
				w.check(t, "Meet", s)
			}
		}
	}
}

// Laws of sets, of long lists of ranges that lie all over the numbers.
func TestLawsOfSets(t *testing.T) {
	for seed := range uint64(40) {
		limit := uint64(1) << (8 + seed%3*5)
		if seed%4 == 3 {
			limit = 1 << 63
		}
		a := ranges.Of(strewnRanges(seed, 120, limit, limit/200+3)...)
		b := ranges.Of(strewnRanges(seed+100, 120, limit, limit/100+3)...)
		both := ranges.Meet(a, b)
		sum, less := a, a
		for _, r := range b {
			sum, less = ranges.Add(sum, r), ranges.Cut(less, r)
		}
		for _, s := range []S{a, b, both, sum, less} {
			if !ranges.May(s) {
				t.Fatalf("%d may not be", s)
			}
		}
		if !alike(sum, ranges.Of(slices.Concat(b, a)...)) || !alike(both, ranges.Meet(b, a)) {
			t.Fatalf("the order of %d and %d counts", a, b)
		}
		if ranges.Count(a) != ranges.Count(both)+ranges.Count(less) || ranges.Count(sum) != ranges.Count(b)+ranges.Count(less) {
			t.Fatalf("numbers of %d and %d are lost", a, b)
		}
		if !alike(a, ranges.Of(slices.Concat(less, both)...)) || len(ranges.Meet(less, b)) != 0 {
			t.Fatalf("%d comes out of %d wrong", b, a)
		}
		for _, r := range strewnRanges(seed+200, 50, limit, limit) {
			in, gaps := ranges.Meet(a, ranges.Of(r)), ranges.Gaps(a, r)
			if !ranges.May(in) || !ranges.May(gaps) || !alike(ranges.Of(slices.Concat(gaps, in)...), ranges.Of(r)) || len(ranges.Meet(in, gaps)) != 0 {
				t.Fatalf("%d: its gaps in %d are %d", a, r, gaps)
			}
		}
	}
}

// Adding the ranges one by one, in whatever order, comes to what Of tells of all.
func TestAddComesToWhatOfTells(t *testing.T) {
	for seed := range uint64(20) {
		l := strewnRanges(seed, 120, 2000, 12)
		var up, down S
		for i := range l {
			up, down = ranges.Add(up, l[i]), ranges.Add(down, l[len(l)-1-i])
		}
		if s := ranges.Of(l...); !alike(up, s) || !alike(down, s) {
			t.Fatalf("Of(%d) = %d; one by one %d and %d", l, s, up, down)
		}
	}
}

// R1, R4

// roomy tells a list like l, with room behind it where a mark stands.
func roomy(l []R) []R {
	return append(slices.Clone(l), R{77, 77}, R{88, 88})[:len(l)]
}

// whole tells a list and what stands in its room.
func whole(l []R) []R {
	return slices.Clone(l[:cap(l)])
}

// calls are those that answer a set, of the same two lists and a range.
func calls(a, b []R, r R) []S {
	return []S{ranges.Add(a, r), ranges.Cut(a, r), ranges.Meet(a, b), ranges.Gaps(a, r), ranges.Of(a...), ranges.Of(slices.Concat(a, b, []R{r})...)}
}

func TestNothingHandedInIsChanged(t *testing.T) {
	for _, a := range [][]R{nil, {}, {{3, 5}}, {{0, top}}, {{1, 2}, {4, 5}, {9, 9}}, {{0, 0}, {7, 8}, {top, top}}} {
		for _, b := range [][]R{nil, {{3, 5}}, {{2, 9}}, {{0, 0}, {2, 4}, {8, top}}} {
			for _, r := range append(empties(), R{0, 0}, R{3, 3}, R{2, 8}, R{10, 12}, R{top, top}, R{0, top}) {
				x, y := roomy(a), roomy(b)
				xAll, yAll := whole(x), whole(y)
				first := calls(x, y, r)
				kept := make([]S, len(first))
				for i, s := range first {
					kept[i] = slices.Clone(s)
					// Written over, and lengthened into its room, an answer must be nobody else's.
					for j := range s {
						s[j] = R{99, 99}
					}
					_ = append(s, R{99, 99}, R{99, 99})
				}
				ranges.May(x)
				ranges.Has(x, 5)
				ranges.Count(x)
				if !slices.Equal(whole(x), xAll) || !slices.Equal(whole(y), yAll) {
					t.Fatalf("%d and %d were changed to %d and %d", xAll, yAll, whole(x), whole(y))
				}
				for i, s := range calls(x, y, r) {
					if !alike(s, kept[i]) {
						t.Fatalf("call %d of %d, %d and %d: %d, and then %d", i, a, b, r, kept[i], s)
					}
				}
			}
		}
	}
}

func TestOfLeavesItsListInOrder(t *testing.T) {
	l := []R{{9, 9}, {5, 6}, {7, 6}, {1, 2}, {3, 4}, {5, 6}}
	kept := slices.Clone(l)
	s := ranges.Of(l...)
	if !slices.Equal(l, kept) {
		t.Errorf("Of changed %d to %d", kept, l)
	}
	s[0] = R{99, 99}
	if !slices.Equal(l, kept) {
		t.Errorf("%d was written over by the answer", l)
	}
}

// An answer stays when what was handed in is written over.
func TestAnswersKeepNothingOfWhatWasHandedIn(t *testing.T) {
	a, b := []R{{1, 2}, {5, 9}}, []R{{0, 7}}
	l := calls(a, b, R{20, 30})
	for i := range a {
		a[i] = R{99, 99}
	}
	b[0] = R{99, 99}
	for i, want := range []S{{{1, 2}, {5, 9}, {20, 30}}, {{1, 2}, {5, 9}}, {{1, 2}, {5, 7}}, {{20, 30}}, {{1, 2}, {5, 9}}, {{0, 9}, {20, 30}}} {
		if !alike(l[i], want) {
			t.Errorf("call %d: %d, not %d", i, l[i], want)
		}
	}
}

// Of sets that may not be, and of great numbers, no answer is promised, but all calls end.
func TestWhatMayNotBeEnds(t *testing.T) {
	odd := []R{{0, 0}, {1, 0}, {3, 9}, {4, 5}, {0, top}, {top, 0}, {5, 1 << 63}, {1 << 63, 1 << 63}, {0, math.MaxUint64}, {math.MaxUint64, math.MaxUint64}, {math.MaxUint64, 0}, {math.MaxUint64 - 1, math.MaxUint64}}
	for _, x := range odd {
		for _, y := range odd {
			for _, z := range odd {
				s := S{x, y, z}
				ranges.May(s)
				ranges.Count(s)
				for _, r := range odd {
					calls(s, S{r, x}, r)
					ranges.Has(s, r.Lo)
					ranges.Has(s, r.Hi)
				}
			}
		}
	}
}
