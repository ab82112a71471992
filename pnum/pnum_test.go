package pnum_test

import (
	"math"
	"testing"

	"domino/api"
	"domino/pnum"
)

// end is the least number that is none of a packet.
const end = api.MaxNumber + 1

// windowOf is 2 to the power of 8 wide, for wide from 1 to 4.
func windowOf(wide int) uint64 {
	return []uint64{0, 256, 65536, 16777216, 4294967296}[wide]
}

// odd has widths that may not be, and what each of them counts as.
func odd() map[int]int {
	return map[int]int{
		0: 1, -1: 1, -2: 1, -4: 1, -8: 1, math.MinInt: 1,
		5: 4, 6: 4, 7: 4, 8: 4, 9: 4, 64: 4, math.MaxInt: 4,
	}
}

// strewn has so many numbers of all magnitudes, by a fixed rule.
func strewn(many int) []uint64 {
	var l []uint64
	x := uint64(1)
	for i := range many {
		x = x*6364136223846793005 + 1442695040888963407
		l = append(l, x>>(2+i%62))
	}
	return l
}

// bases has numbers to count from: near 0, about windows' edges, in the middle, and near the end.
func bases() []uint64 {
	l := []uint64{0, 1, 2, 1000, 0xa82f30ea, 1<<40 + 12345, 1<<61 - 1, end / 2}
	for wide := 1; wide <= 4; wide++ {
		w := windowOf(wide)
		for _, n := range []uint64{w / 2, w, 3 * w, end - 2*w, end - w, end - w/2} {
			l = append(l, n-1, n, n+1)
		}
	}
	return append(l, end-3, end-2, end-1)
}

// P2.1

// Half a window is too far; just less is not.
func TestBytesAtHalfAWindow(t *testing.T) {
	for _, x := range []struct {
		distance uint64
		wide     int
	}{
		{1, 1}, {2, 1}, {64, 1},
		{127, 1}, {128, 2}, {129, 2},
		{255, 2}, {256, 2}, {257, 2},
		{32767, 2}, {32768, 3}, {32769, 3},
		{65535, 3}, {65536, 3}, {65537, 3},
		{1<<23 - 1, 3}, {1 << 23, 4}, {1<<23 + 1, 4},
		{1 << 24, 4}, {1<<31 - 1, 4},
	} {
		if w := pnum.Bytes(x.distance-1, 0, false); w != x.wide {
			t.Errorf("Bytes(%d, none) = %d, not %d", x.distance-1, w, x.wide)
		}
		for _, acked := range bases() {
			full := acked + x.distance
			if w := pnum.Bytes(full, acked, true); full < end && w != x.wide {
				t.Errorf("Bytes(%d, %d) = %d, not %d", full, acked, w, x.wide)
			}
		}
	}
}

func TestBytesWhereNoWindowIsWideEnough(t *testing.T) {
	for _, distance := range []uint64{1 << 31, 1<<31 + 1, 1 << 32, 1<<32 + 1, 1 << 40, 1 << 61, end - 1} {
		if w := pnum.Bytes(distance-1, 0, false); w != 4 {
			t.Errorf("Bytes(%d, none) = %d", distance-1, w)
		}
		if w := pnum.Bytes(distance, 0, true); w != 4 {
			t.Errorf("Bytes(%d, 0) = %d", distance, w)
		}
		if w := pnum.Bytes(end-1, end-1-distance, true); w != 4 {
			t.Errorf("Bytes(%d, %d) = %d", uint64(end-1), end-1-distance, w)
		}
	}
	if w := pnum.Bytes(end-1, 0, false); w != 4 {
		t.Errorf("Bytes(%d, none) = %d", uint64(end-1), w)
	}
}

// One that is not below the number is one away, however far it is.
func TestBytesOfAckedAtAndAbove(t *testing.T) {
	for _, full := range bases() {
		for _, above := range []uint64{0, 1, 2, 127, 128, 129, 32768, 1 << 23, 1 << 31, 1 << 40, end - 1} {
			if w := pnum.Bytes(full, full+above, true); full+above < end && w != 1 {
				t.Errorf("Bytes(%d, %d) = %d", full, full+above, w)
			}
		}
		if w := pnum.Bytes(full, end-1, true); full < end-1 && w != 1 {
			t.Errorf("Bytes(%d, %d) = %d", full, uint64(end-1), w)
		}
	}
}

func TestBytesAboutTheAckedOne(t *testing.T) {
	for _, x := range []struct {
		full, acked uint64
		wide        int
	}{
		{1000, 871, 2}, {1000, 872, 2}, {1000, 873, 1}, {1000, 999, 1}, {1000, 1000, 1}, {1000, 1001, 1}, {1000, 5000, 1},
		{0, 0, 1}, {0, 1, 1}, {1, 0, 1},
		{0xac5c02, 0xabe8b3, 2}, {0xace8fe, 0xabe8b3, 3},
	} {
		if w := pnum.Bytes(x.full, x.acked, true); w != x.wide {
			t.Errorf("Bytes(%d, %d) = %d, not %d", x.full, x.acked, w, x.wide)
		}
	}
}

// Where there is none, the number that stands in its place says nothing.
func TestBytesWithNoAckedOne(t *testing.T) {
	for _, x := range []struct {
		full uint64
		wide int
	}{
		{0, 1}, {1, 1}, {125, 1}, {126, 1}, {127, 2}, {128, 2},
		{32765, 2}, {32766, 2}, {32767, 3}, {32768, 3},
		{1<<23 - 2, 3}, {1<<23 - 1, 4}, {1 << 23, 4}, {1<<31 - 2, 4}, {1<<31 - 1, 4}, {1 << 40, 4},
	} {
		for _, acked := range []uint64{0, 1, x.full - min(x.full, 1), x.full, x.full + 1, end - 1} {
			if w := pnum.Bytes(x.full, acked, false); w != x.wide {
				t.Errorf("Bytes(%d, none, but %d) = %d, not %d", x.full, acked, w, x.wide)
			}
		}
	}
}

// P2.2

func TestCutOfEachWidth(t *testing.T) {
	for wide, low := range []uint64{0x32, 0x32, 0x9b32, 0x2f9b32, 0xa82f9b32} {
		if n := pnum.Cut(0x1a82f9b32, wide); n != low {
			t.Errorf("Cut(.., %d) = %x, not %x", wide, n, low)
		}
	}
}

func TestCutAtTheWindows(t *testing.T) {
	for wide := 1; wide <= 4; wide++ {
		w := windowOf(wide)
		for _, x := range []struct{ full, low uint64 }{
			{0, 0}, {1, 1}, {w/2 - 1, w/2 - 1}, {w / 2, w / 2}, {w - 1, w - 1},
			{w, 0}, {w + 1, 1}, {2*w - 1, w - 1}, {2 * w, 0}, {3*w + 7, 7},
			{end - w - 1, w - 1}, {end - w, 0}, {end - w + 1, 1}, {end - 2, w - 2}, {end - 1, w - 1},
		} {
			if n := pnum.Cut(x.full, wide); n != x.low {
				t.Errorf("Cut(%d, %d) = %d, not %d", x.full, wide, n, x.low)
			}
		}
	}
}

func TestCutOfOddWidths(t *testing.T) {
	for wide, as := range odd() {
		for _, full := range append(bases(), 0x7a82f9b32) {
			if n := pnum.Cut(full, wide); n != full%windowOf(as) {
				t.Errorf("Cut(%d, %d) = %d", full, wide, n)
			}
		}
	}
}

// P2.3

// expansion is a call, and its answer worked out by hand.
type expansion struct {
	largest, cut uint64
	wide         int
	want         uint64
}

func checkExpansions(t *testing.T, any bool, l []expansion) {
	t.Helper()
	for _, x := range l {
		if n := pnum.Expand(x.largest, any, x.cut, x.wide); n != x.want {
			t.Errorf("Expand(%d, %t, %d, %d) = %d, not %d", x.largest, any, x.cut, x.wide, n, x.want)
		}
	}
}

func TestExpandOfTheExample(t *testing.T) {
	checkExpansions(t, true, []expansion{{0xa82f30ea, 0x9b32, 2, 0xa82f9b32}})
}

func TestExpandAboutTheExpectedOne(t *testing.T) {
	checkExpansions(t, true, []expansion{
		// 1000 is expected: at it, and to either side of it.
		{999, 231, 1, 999}, {999, 232, 1, 1000}, {999, 233, 1, 1001}, {999, 255, 1, 1023},
		// A candidate that is half a window below, or more, goes a window up.
		{999, 0, 1, 1024}, {999, 103, 1, 1127}, {999, 104, 1, 1128}, {999, 105, 1, 873},
		// 1030 is expected: one that is more than half a window above goes a window down.
		{1029, 133, 1, 1157}, {1029, 134, 1, 1158}, {1029, 135, 1, 903}, {1029, 255, 1, 1023},
		{1029, 0, 1, 1024}, {1029, 5, 1, 1029}, {1029, 6, 1, 1030}, {1029, 7, 1, 1031},
		// The expected one begins a window of its own.
		{1023, 0, 1, 1024}, {1023, 128, 1, 1152}, {1023, 129, 1, 897}, {1023, 255, 1, 1023},
		// It ends one.
		{1022, 255, 1, 1023}, {1022, 128, 1, 896}, {1022, 127, 1, 1151}, {1022, 0, 1, 1024},
	})
}

func TestExpandOfEachWidth(t *testing.T) {
	checkExpansions(t, true, []expansion{
		{0x1a82f30ea, 0x32, 1, 0x1a82f3132},
		{0x1a82f30ea, 0x9b32, 2, 0x1a82f9b32},
		{0x1a82f30ea, 0x2f9b32, 3, 0x1a82f9b32},
		{0x1a82f30ea, 0xa82f9b32, 4, 0x1a82f9b32},
		{0x2fffffff0, 5, 4, 0x300000005},
		{0x300000005, 0xfffffff0, 4, 0x2fffffff0},
		{0x2fffff0, 5, 3, 0x3000005},
		{0x3000005, 0xfffff0, 3, 0x2fffff0},
		{0x2fff0, 5, 2, 0x30005},
		{0x30005, 0xfff0, 2, 0x2fff0},
	})
}

func TestExpandNearZero(t *testing.T) {
	checkExpansions(t, true, []expansion{
		// There is nothing a window below.
		{0, 0, 1, 0}, {0, 1, 1, 1}, {0, 2, 1, 2}, {0, 129, 1, 129}, {0, 130, 1, 130}, {0, 255, 1, 255},
		{5, 133, 1, 133}, {5, 134, 1, 134}, {5, 135, 1, 135}, {5, 255, 1, 255},
		{126, 0, 1, 0}, {127, 0, 1, 256}, {127, 1, 1, 1}, {128, 0, 1, 256}, {128, 1, 1, 257},
		{254, 127, 1, 383}, {254, 128, 1, 128}, {254, 255, 1, 255},
		// Here there is.
		{255, 0, 1, 256}, {255, 128, 1, 384}, {255, 129, 1, 129}, {255, 255, 1, 255},
		{0, 65535, 2, 65535}, {0, 16777215, 3, 16777215}, {0, 4294967295, 4, 4294967295},
		{65535, 65535, 2, 65535}, {16777215, 16777215, 3, 16777215}, {4294967295, 4294967295, 4, 4294967295},
	})
}

func TestExpandNearTheEnd(t *testing.T) {
	checkExpansions(t, true, []expansion{
		// There is nothing a window above.
		{end - 2, 0, 1, end - 256}, {end - 2, 1, 1, end - 255}, {end - 2, 127, 1, end - 129},
		{end - 2, 128, 1, end - 128}, {end - 2, 255, 1, end - 1},
		{end - 2, 0, 2, end - 65536}, {end - 2, 0, 3, end - 16777216}, {end - 2, 0, 4, end - 4294967296},
		{end - 129, 0, 1, end - 256}, {end - 130, 0, 1, end - 256},
		// Here there is.
		{end - 258, 0, 1, end - 256}, {end - 258, 126, 1, end - 130}, {end - 258, 127, 1, end - 129}, {end - 258, 128, 1, end - 384},
		{end - 258, 255, 1, end - 257},
		{end - 65538, 0, 2, end - 65536}, {end - 16777218, 0, 3, end - 16777216}, {end - 4294967298, 0, 4, end - 4294967296},
		// Of the last number the one expected is none.
		{end - 1, 255, 1, end - 1}, {end - 1, 129, 1, end - 127}, {end - 1, 65535, 2, end - 1}, {end - 1, 4294967295, 4, end - 1},
		{end - 1, 0, 1, end}, {end - 1, 128, 1, end + 128},
	})
}

// Where there is no largest one, 0 is expected, whatever stands in its place.
func TestExpandWithNoLargestOne(t *testing.T) {
	for _, largest := range []uint64{0, 1, 5, 127, 128, 255, 256, 5000, 1 << 40, end - 1} {
		checkExpansions(t, false, []expansion{
			{largest, 0, 1, 0}, {largest, 1, 1, 1}, {largest, 127, 1, 127}, {largest, 128, 1, 128},
			{largest, 129, 1, 129}, {largest, 255, 1, 255}, {largest, 256, 1, 0}, {largest, 32769, 2, 32769},
			{largest, 65535, 2, 65535}, {largest, 16777215, 3, 16777215}, {largest, 4294967295, 4, 4294967295},
		})
	}
}

// What is handed in is cut at first.
func TestExpandCutsAtFirst(t *testing.T) {
	checkExpansions(t, true, []expansion{
		{999, 256 + 103, 1, 1127}, {999, 1000, 1, 1000}, {999, 5*256 + 105, 1, 873}, {999, end - 256 + 104, 1, 1128},
		{0xa82f30ea, 0xa82f9b32, 2, 0xa82f9b32}, {0xa82f30ea, 0x119b32, 2, 0xa82f9b32},
		{0x2fffffff0, 0x700000005, 4, 0x300000005},
	})
}

func TestExpandOfOddWidths(t *testing.T) {
	for wide, as := range odd() {
		want := map[int]uint64{1: 0x2ffffff05, 4: 0x300000005}[as]
		if n := pnum.Expand(0x2ffffff40, true, 5, wide); n != want {
			t.Errorf("Expand(.., %d) = %x, not %x", wide, n, want)
		}
		for _, largest := range bases() {
			for _, cut := range []uint64{0, 1, 127, 128, 255, 1<<31 - 1, 1 << 31, 1<<32 - 1, 0xa82f9b32} {
				checkExpansions(t, true, []expansion{{largest, cut, wide, pnum.Expand(largest, true, cut, as)}})
			}
		}
	}
}

// closest tells the number that is cut like this one and is closest to the expected one, which is below the end; of two the greater one.
func closest(expected, cut, window uint64) uint64 {
	first := int64(expected - expected%window + cut%window)
	best, far := int64(-1), int64(math.MaxInt64)
	for _, n := range []int64{first - int64(window), first, first + int64(window)} {
		away := max(n-int64(expected), int64(expected)-n)
		if n >= 0 && n < end && away <= far {
			best, far = n, away
		}
	}
	return uint64(best)
}

func TestExpandTellsTheClosest(t *testing.T) {
	for wide := 1; wide <= 4; wide++ {
		w := windowOf(wide)
		for _, expected := range append(bases(), strewn(500)...) {
			cuts := []uint64{0, 1, w/2 - 1, w / 2, w/2 + 1, w - 2, w - 1}
			for _, near := range []uint64{expected, expected + w/2, expected - w/2} {
				cuts = append(cuts, (near-1)%w, near%w, (near+1)%w)
			}
			for _, cut := range append(cuts, strewn(70)...) {
				want := closest(expected, cut, w)
				if expected > 0 {
					checkExpansions(t, true, []expansion{{expected - 1, cut, wide, want}})
				} else {
					checkExpansions(t, false, []expansion{{7, cut, wide, want}})
				}
			}
		}
	}
}

// P2.4

// distances are those that a window is wide enough for: about the halves of windows, and between.
func distances() []uint64 {
	return []uint64{
		1, 2, 3, 64, 126, 127, 128, 129, 200, 255, 256, 257, 5000, 32766, 32767, 32768, 32769, 65535, 65536, 65537,
		1 << 20, 1<<23 - 2, 1<<23 - 1, 1 << 23, 1<<23 + 1, 1 << 24, 1 << 30, 1<<31 - 2, 1<<31 - 1,
	}
}

func checkPutRight(t *testing.T, full uint64, wide int, largest uint64, any bool) {
	t.Helper()
	if n := pnum.Expand(largest, any, pnum.Cut(full, wide), wide); n != full {
		t.Errorf("%d in %d bytes came to one who has %d (%t) as %d", full, wide, largest, any, n)
	}
}

func TestWhatIsCutIsPutRight(t *testing.T) {
	for _, acked := range append(bases(), strewn(500)...) {
		for _, far := range distances() {
			full := acked + far
			if full >= end {
				continue
			}
			wide := pnum.Bytes(full, acked, true)
			for _, step := range append(strewn(40), 0, 1, 2, far/2, far-2, far-1) {
				checkPutRight(t, full, wide, acked+step%far, true)
			}
		}
	}
}

// Whoever has none, or some that are below, puts right what was cut for one who has none.
func TestWhatIsCutForNobodyIsPutRight(t *testing.T) {
	for _, far := range distances() {
		full := far - 1
		wide := pnum.Bytes(full, 0, false)
		checkPutRight(t, full, wide, 0, false)
		for _, step := range append(strewn(40), 0, 1, full/2, full-min(full, 1)) {
			if full > 0 {
				checkPutRight(t, full, wide, step%full, true)
			}
		}
	}
}

// The one that was sent before comes again: it is cut for one who has it.
func TestTheAckedOneItselfIsPutRight(t *testing.T) {
	for _, n := range append(bases(), strewn(500)...) {
		checkPutRight(t, n, pnum.Bytes(n, n, true), n, true)
	}
}

// Numbers that are too great have no answer that is promised, but all calls end.
func TestGreatNumbersEnd(t *testing.T) {
	great := []uint64{end, end + 1, 1 << 63, math.MaxUint64 - 1, math.MaxUint64}
	for _, a := range great {
		for _, b := range append(great, 0, 1, end-1) {
			for _, wide := range []int{math.MinInt, -1, 0, 1, 2, 3, 4, 5, math.MaxInt} {
				for _, any := range []bool{false, true} {
					if w := pnum.Bytes(a, b, any); w < 1 || w > 4 {
						t.Errorf("Bytes(%d, %d, %t) = %d", a, b, any, w)
					}
					pnum.Cut(a, wide)
					pnum.Expand(a, any, b, wide)
					pnum.Expand(b, any, a, wide)
				}
			}
		}
	}
}
