package rtt_test

import (
	"fmt"
	"math"
	"math/big"
	"sync"
	"testing"

	"domino/rtt"
)

// far is the greatest that a number of ticks counts as.
const far = 1 << 40

// sample is what one is told by.
type sample struct{ latest, delay, most int }

// after tells the state that such samples lead to, from s on.
func after(s rtt.State, l ...sample) rtt.State {
	for _, x := range l {
		s = rtt.Sample(s, x.latest, x.delay, x.most)
	}
	return s
}

// of tells the state that samples lead to whose answers were not held back.
func of(latest ...int) rtt.State {
	s := rtt.New()
	for _, n := range latest {
		s = rtt.Sample(s, n, 0, 0)
	}
	return s
}

// strewn tells so many numbers by a fixed rule, of all magnitudes up to 2 to the power of bits, some of them below 0.
func strewn(seed uint64, many, bits int) []int {
	x := seed*0x9e3779b97f4a7c15 + 1
	l := make([]int, many)
	for i := range l {
		x = x*6364136223846793005 + 1442695040888963407
		l[i] = int(x >> 12 >> (52 - min(52, i%(bits+1))))
		if i%7 == 3 {
			l[i] = -l[i]
		}
	}
	return l
}

// strewnSamples tells so many samples by a fixed rule.
func strewnSamples(seed uint64, many, bits int) []sample {
	n := strewn(seed, 3*many, bits)
	l := make([]sample, many)
	for i := range l {
		l[i] = sample{n[3*i], n[3*i+1], n[3*i+2]}
	}
	return l
}

// whole tells n as a number of any size.
func whole(n int) *big.Int {
	return big.NewInt(int64(n))
}

// sum tells what all these are together.
func sum(l ...*big.Int) *big.Int {
	out := new(big.Int)
	for _, n := range l {
		out.Add(out, n)
	}
	return out
}

// times tells n so many times.
func times(many int, n *big.Int) *big.Int {
	return new(big.Int).Mul(whole(many), n)
}

// part tells n parted so often, without what is left.
func part(n *big.Int, by int) *big.Int {
	return new(big.Int).Div(n, whole(by))
}

// counted is a second reckoning of what a number counts as.
func counted(n, most int) int {
	if n < 0 {
		return 0
	}
	if n > most {
		return most
	}
	return n
}

// secondSample is a second reckoning of Sample.
func secondSample(s rtt.State, latest, delay, most int) rtt.State {
	latest, delay, most = counted(latest, far), counted(delay, far), counted(most, far)
	if !s.Any {
		s.Any, s.Latest, s.Smooth, s.Min = true, latest, latest, latest
		s.Var = int(part(whole(latest), 2).Int64())
		return s
	}
	s.Latest = latest
	if latest < s.Min {
		s.Min = latest
	}
	if most < delay {
		delay = most
	}
	adjusted := sum(whole(latest), whole(-delay))
	if adjusted.Cmp(whole(s.Min)) < 0 {
		adjusted = whole(latest)
	}
	apart := sum(whole(s.Smooth), times(-1, adjusted))
	s.Var = int(part(sum(times(3, whole(s.Var)), apart.Abs(apart)), 4).Int64())
	s.Smooth = int(part(sum(times(7, whole(s.Smooth)), adjusted), 8).Int64())
	return s
}

// secondPto is a second reckoning of Pto.
func secondPto(s rtt.State, most, probes int) int {
	variance := times(4, whole(s.Var))
	if variance.Sign() == 0 {
		variance = whole(1)
	}
	n := sum(whole(s.Smooth), variance, whole(counted(most, far)))
	for range counted(probes, 10) {
		n = sum(n, n)
	}
	return int(n.Int64())
}

// secondThreshold is a second reckoning of Threshold.
func secondThreshold(s rtt.State) int {
	n := s.Smooth
	if s.Latest > n {
		n = s.Latest
	}
	if out := part(times(9, whole(n)), 8); out.Sign() > 0 {
		return int(out.Int64())
	}
	return 1
}

// states are such as samples lead to: none, one, and many, small and great.
func states() []rtt.State {
	l := []rtt.State{rtt.New()}
	for _, n := range edges() {
		l = append(l, of(n), of(n, n), of(0, n), of(far, n), of(n, 7), of(n, n/2, n))
	}
	for seed := range uint64(20) {
		s := rtt.New()
		for _, x := range strewnSamples(seed, 12, 4+int(seed)*2) {
			s = rtt.Sample(s, x.latest, x.delay, x.most)
			l = append(l, s)
		}
	}
	return l
}

// edges are numbers about those where something ends.
func edges() []int {
	return []int{
		math.MinInt, math.MinInt + 1, -far - 1, -far, -8, -1, 0, 1, 2, 3, 4, 5, 7, 8, 9, 10, 11, 15, 16, 17, 100, 1000, 1 << 20,
		far/2 - 1, far / 2, far - 2, far - 1, far, far + 1, far + 2, 2 * far, 1 << 53, math.MaxInt - 1, math.MaxInt,
	}
}

// The chapter's example.
func TestTheExample(t *testing.T) {
	s := of(8, 16)
	if s.Smooth != 9 || s.Var != 5 {
		t.Errorf("Smooth %d, Var %d", s.Smooth, s.Var)
	}
	if want := (rtt.State{Any: true, Latest: 16, Smooth: 9, Var: 5, Min: 8}); s != want {
		t.Errorf("%+v, not %+v", s, want)
	}
}

// P11.1

func TestNew(t *testing.T) {
	if s := rtt.New(); s != (rtt.State{Smooth: 10, Var: 5}) {
		t.Errorf("%+v", s)
	}
}

// The first sample is all there is: neither what New tells of, nor delay and most, change anything.
func TestTheFirstSample(t *testing.T) {
	for _, x := range []struct{ latest, tells, half int }{
		{0, 0, 0}, {1, 1, 0}, {2, 2, 1}, {3, 3, 1}, {4, 4, 2}, {5, 5, 2}, {8, 8, 4}, {9, 9, 4}, {10, 10, 5}, {11, 11, 5}, {1001, 1001, 500},
		{-1, 0, 0}, {-2, 0, 0}, {-far, 0, 0}, {math.MinInt, 0, 0},
		{far - 1, far - 1, far/2 - 1}, {far, far, far / 2}, {far + 1, far, far / 2}, {2 * far, far, far / 2}, {math.MaxInt, far, far / 2},
	} {
		want := rtt.State{Any: true, Latest: x.tells, Smooth: x.tells, Var: x.half, Min: x.tells}
		for _, delay := range []int{math.MinInt, -1, 0, 1, 5, far, math.MaxInt} {
			for _, most := range []int{math.MinInt, -1, 0, 1, 3, far, math.MaxInt} {
				if s := rtt.Sample(rtt.New(), x.latest, delay, most); s != want {
					t.Errorf("of %d, %d, %d: %+v, not %+v", x.latest, delay, most, s, want)
				}
			}
		}
	}
}

// row is a sample behind others, and what it leads to.
type row struct {
	name   string
	before rtt.State
	by     sample
	want   rtt.State
}

func checkRows(t *testing.T, rows ...row) {
	t.Helper()
	for _, x := range rows {
		if s := after(x.before, x.by); s != x.want {
			t.Errorf("%s: %+v, not %+v", x.name, s, x.want)
		}
	}
}

// told tells a state behind a sample.
func told(latest, smooth, variance, least int) rtt.State {
	return rtt.State{Any: true, Latest: latest, Smooth: smooth, Var: variance, Min: least}
}

func TestASecondSample(t *testing.T) {
	s := of(80)
	if s != told(80, 80, 40, 80) {
		t.Fatalf("%+v", s)
	}
	checkRows(t,
		row{"the same again", s, sample{80, 0, 0}, told(80, 80, 30, 80)},
		row{"a greater one", s, sample{160, 0, 0}, told(160, 90, 50, 80)},
		row{"a smaller one", s, sample{40, 0, 0}, told(40, 75, 40, 40)},
		row{"none at all", s, sample{0, 0, 0}, told(0, 70, 50, 0)},
		row{"the greatest one", s, sample{far, 0, 0}, told(far, far/8+70, far/4+10, 80)},
	)
}

// Of delay and most the smaller one is taken off.
func TestTheSmallerOneOfDelayAndMost(t *testing.T) {
	s := of(80)
	less16, less8, whole := told(160, 88, 46, 80), told(160, 89, 48, 80), told(160, 90, 50, 80)
	checkRows(t,
		row{"a delay below most", s, sample{160, 16, 17}, less16},
		row{"a delay far below most", s, sample{160, 16, math.MaxInt}, less16},
		row{"a delay of most", s, sample{160, 16, 16}, less16},
		row{"a delay above most", s, sample{160, 17, 16}, less16},
		row{"a delay far above most", s, sample{160, math.MaxInt, 16}, less16},
		row{"a smaller most", s, sample{160, 16, 8}, less8},
		row{"a smaller delay", s, sample{160, 8, 16}, less8},
		row{"no delay", s, sample{160, 0, 16}, whole},
		row{"no most", s, sample{160, 16, 0}, whole},
		row{"neither", s, sample{160, 0, 0}, whole},
	)
}

// Min is 80: what would be less than it without the delay counts with it.
func TestTheDelayThatLeavesTooLittle(t *testing.T) {
	s := of(80)
	checkRows(t,
		row{"just above Min", s, sample{160, 79, 100}, told(160, 80, 30, 80)},
		row{"at Min", s, sample{160, 80, 100}, told(160, 80, 30, 80)},
		row{"just below Min", s, sample{160, 81, 100}, told(160, 90, 50, 80)},
		row{"just above Min, by most", s, sample{160, 100, 79}, told(160, 80, 30, 80)},
		row{"at Min, by most", s, sample{160, 100, 80}, told(160, 80, 30, 80)},
		row{"just below Min, by most", s, sample{160, 100, 81}, told(160, 90, 50, 80)},
		row{"all of it", s, sample{160, 160, 160}, told(160, 90, 50, 80)},
		row{"more than all of it", s, sample{160, 161, 161}, told(160, 90, 50, 80)},
	)
}

// The same edge, where Smooth and Var tell what is just above Min from Min itself.
func TestTheEdgeAtMin(t *testing.T) {
	s := told(80, 89, 41, 80)
	checkRows(t,
		row{"just above Min", s, sample{160, 79, 79}, told(160, 88, 32, 80)},
		row{"at Min", s, sample{160, 80, 80}, told(160, 87, 33, 80)},
		row{"just below Min", s, sample{160, 81, 81}, told(160, 97, 48, 80)},
	)
	great := told(800, 825, 40, 800)
	checkRows(t,
		row{"just above Min", great, sample{2000, 1199, 1199}, told(2000, 822, 36, 800)},
		row{"at Min", great, sample{2000, 1200, 1200}, told(2000, 821, 36, 800)},
		row{"just below Min", great, sample{2000, 1201, 1201}, told(2000, 971, 323, 800)},
	)
	for near := -20; near <= 20; near++ {
		want := secondSample(great, 2000, 1200+near, far)
		if s := rtt.Sample(great, 2000, 1200+near, far); s != want {
			t.Errorf("%d from the edge: %+v, not %+v", near, s, want)
		}
	}
}

// It is the new Min that the delay must leave: a sample that is the least one so far loses nothing by its delay.
func TestASampleThatMakesMinSmaller(t *testing.T) {
	s := of(80)
	checkRows(t,
		row{"without a delay", s, sample{72, 0, 0}, told(72, 79, 32, 72)},
		row{"with a delay", s, sample{72, 8, 8}, told(72, 79, 32, 72)},
		row{"with a delay of all", s, sample{72, 72, 72}, told(72, 79, 32, 72)},
		row{"of Min itself, with a delay", s, sample{80, 8, 8}, told(80, 80, 30, 80)},
		row{"just above Min, and back to it", s, sample{81, 1, 1}, told(81, 80, 30, 80)},
		row{"just above Min, and below it", s, sample{81, 2, 2}, told(81, 80, 30, 80)},
		row{"to 0", s, sample{0, 0, 0}, told(0, 70, 50, 0)},
		row{"to 0, with a delay", s, sample{0, 9, 9}, told(0, 70, 50, 0)},
		row{"behind 0, with a delay of all", of(0), sample{160, 160, 160}, told(160, 0, 0, 0)},
		row{"behind 0, with a delay of more", of(0), sample{160, 161, 161}, told(160, 20, 40, 0)},
	)
}

// Min stays where it was, whatever else comes; Latest does not.
func TestMinAndLatest(t *testing.T) {
	s := of(50, 40, 60, 40, 41, 39, 1000)
	if s.Min != 39 || s.Latest != 1000 {
		t.Errorf("Min %d, Latest %d", s.Min, s.Latest)
	}
	if s := of(3, 5); s.Min != 3 || s.Latest != 5 {
		t.Errorf("Min %d, Latest %d", s.Min, s.Latest)
	}
	if s := of(5, 3); s.Min != 3 || s.Latest != 3 {
		t.Errorf("Min %d, Latest %d", s.Min, s.Latest)
	}
}

// The whole sum is parted, and then rounded down, not each of its two numbers alone.
func TestQuartersAndEighths(t *testing.T) {
	for _, x := range []struct{ smooth, variance, latest, wantSmooth, wantVar int }{
		{8, 0, 8, 8, 0}, {8, 0, 9, 8, 0}, {8, 0, 11, 8, 0}, {8, 0, 12, 8, 1}, {8, 0, 15, 8, 1}, {8, 0, 16, 9, 2}, {8, 0, 17, 9, 2},
		{8, 1, 8, 8, 0}, {8, 1, 9, 8, 1}, {8, 1, 12, 8, 1}, {8, 1, 13, 8, 2}, {8, 2, 8, 8, 1}, {8, 2, 10, 8, 2}, {8, 3, 8, 8, 2}, {8, 3, 11, 8, 3},
		{9, 0, 8, 8, 0}, {9, 0, 5, 8, 1}, {9, 0, 1, 8, 2}, {9, 0, 0, 7, 2}, {9, 1, 8, 8, 1},
		{15, 0, 8, 14, 1}, {15, 0, 7, 14, 2}, {15, 0, 6, 13, 2}, {15, 7, 6, 13, 7}, {15, 7, 0, 13, 9},
		{1, 0, 0, 0, 0}, {1, 1, 0, 0, 1}, {1, 1, 1, 1, 0}, {7, 5, 4, 6, 4}, {3, 3, 6, 3, 3}, {2, 6, 5, 2, 5},
	} {
		s := rtt.Sample(told(x.smooth, x.smooth, x.variance, 0), x.latest, 0, 0)
		if want := told(x.latest, x.wantSmooth, x.wantVar, 0); s != want {
			t.Errorf("Smooth %d, Var %d, then %d: %+v, not %+v", x.smooth, x.variance, x.latest, s, want)
		}
	}
}

// Var goes by Smooth as it was: 80, and not by what it is then: 160 would be 70 from 90.
func TestVarGoesBySmoothAsItWas(t *testing.T) {
	checkRows(t,
		row{"an adjusted above it", told(80, 80, 0, 80), sample{160, 0, 0}, told(160, 90, 20, 80)},
		row{"an adjusted below it", told(80, 80, 0, 0), sample{0, 0, 0}, told(0, 70, 20, 0)},
		row{"an adjusted of it", told(80, 80, 0, 0), sample{80, 0, 0}, told(80, 80, 0, 0)},
		row{"an adjusted above it, held back", told(80, 80, 0, 80), sample{200, 40, 40}, told(200, 90, 20, 80)},
		row{"an adjusted below it, held back", told(80, 80, 0, 0), sample{100, 100, 100}, told(100, 70, 20, 0)},
		row{"an adjusted of it, held back", told(80, 80, 0, 0), sample{100, 20, 20}, told(100, 80, 0, 0)},
	)
}

// What is below 0 counts as 0, and what is above 2^40 as that.
func TestNumbersOfASampleWithinTheirBounds(t *testing.T) {
	s := of(80)
	checkRows(t,
		row{"latest -1", s, sample{-1, 0, 0}, told(0, 70, 50, 0)},
		row{"the least latest", s, sample{math.MinInt, 0, 0}, told(0, 70, 50, 0)},
		row{"the least latest, held back", s, sample{math.MinInt, math.MaxInt, math.MaxInt}, told(0, 70, 50, 0)},
		row{"latest just below 2^40", s, sample{far - 1, 0, 0}, told(far-1, far/8+69, far/4+9, 80)},
		row{"latest 2^40", s, sample{far, 0, 0}, told(far, far/8+70, far/4+10, 80)},
		row{"latest above 2^40", s, sample{far + 8, 0, 0}, told(far, far/8+70, far/4+10, 80)},
		row{"the greatest latest", s, sample{math.MaxInt, 0, 0}, told(far, far/8+70, far/4+10, 80)},
		row{"delay -16", s, sample{160, -16, 16}, told(160, 90, 50, 80)},
		row{"most -16", s, sample{160, 16, -16}, told(160, 90, 50, 80)},
		row{"both below 0", s, sample{160, -32, -16}, told(160, 90, 50, 80)},
		row{"the least delay", s, sample{160, math.MinInt, 16}, told(160, 90, 50, 80)},
		row{"the least most", s, sample{160, 16, math.MinInt}, told(160, 90, 50, 80)},
	)
	// Only where Min is 0, and latest 2^40, a delay of just 2^40 leaves enough.
	zero := of(0)
	none, all, one := told(far, 0, 0, 0), told(far, far/8, far/4, 0), told(far, 0, 0, 0)
	checkRows(t,
		row{"both 2^40", zero, sample{far, far, far}, none},
		row{"a delay above 2^40", zero, sample{far, far + 1, far}, none},
		row{"a most above 2^40", zero, sample{far, far, far + 1}, none},
		row{"both above 2^40", zero, sample{far, far + 1, far + 2}, none},
		row{"both the greatest", zero, sample{far, math.MaxInt, math.MaxInt}, none},
		row{"all above 2^40", zero, sample{far + 9, far + 1, far + 1}, none},
		row{"all the greatest", zero, sample{math.MaxInt, math.MaxInt, math.MaxInt}, none},
		row{"a delay just below 2^40", zero, sample{far, far - 1, far}, one},
		row{"a delay that leaves half", zero, sample{far, far / 2, far}, told(far, far/16, far/8, 0)},
		row{"both the least", zero, sample{far, math.MinInt, math.MinInt}, all},
		row{"latest just below 2^40, both of it", zero, sample{far - 1, far, far}, told(far-1, far/8-1, far/4-1, 0)},
	)
}

func TestSamplesByASecondReckoning(t *testing.T) {
	for _, s := range states() {
		for _, latest := range append(edges(), s.Min-1, s.Min, s.Min+1, s.Smooth-1, s.Smooth, s.Smooth+1) {
			for _, delay := range []int{math.MinInt, -1, 0, 1, 7, latest - s.Min - 1, latest - s.Min, latest - s.Min + 1, latest - s.Smooth, far - 1, far, far + 1, math.MaxInt} {
				for _, most := range []int{math.MinInt, -1, 0, 1, 7, delay - 1, delay, delay + 1, far - 1, far, far + 1, math.MaxInt} {
					want := secondSample(s, latest, delay, most)
					if got := rtt.Sample(s, latest, delay, most); got != want {
						t.Fatalf("%+v, then %d, %d, %d: %+v, not %+v", s, latest, delay, most, got, want)
					}
				}
			}
		}
	}
}

// All small states, and all small samples behind them.
func TestSmallSamplesByASecondReckoning(t *testing.T) {
	for n := range 10 * 10 * 10 {
		s := of(n%10, n/10%10, n/100)
		for m := range 14 * 7 * 7 {
			x := sample{m % 14, m / 14 % 7, m / 98}
			if got, want := after(s, x), secondSample(s, x.latest, x.delay, x.most); got != want {
				t.Fatalf("%+v, then %+v: %+v, not %+v", s, x, got, want)
			}
		}
	}
}

// P11.2

func checkPto(t *testing.T, s rtt.State, most, probes, want int) {
	t.Helper()
	if n := rtt.Pto(s, most, probes); n != want {
		t.Errorf("Pto of %+v, %d, %d: %d, not %d", s, most, probes, n, want)
	}
}

func TestPto(t *testing.T) {
	for _, x := range []struct {
		s                  rtt.State
		most, probes, want int
	}{
		{rtt.New(), 0, 0, 30}, {rtt.New(), 2, 0, 32}, {rtt.New(), 2, 1, 64}, {rtt.New(), 0, 3, 240},
		{of(8), 0, 0, 24}, {of(8, 16), 0, 0, 29}, {of(8, 16), 1, 0, 30}, {of(8, 16), 25, 2, 216}, {of(9), 0, 0, 25},
		{of(80, 160), 10, 0, 300}, {of(80, 160), 10, 4, 4800}, {of(1000000), 3, 9, 1536001536},
	} {
		checkPto(t, x.s, x.most, x.probes, x.want)
	}
}

// Where Var is 0, 1 stands in the place of four times it; where it is 1, that is 4.
func TestPtoOfNoVar(t *testing.T) {
	checkPto(t, of(0), 0, 0, 1)
	checkPto(t, of(1), 0, 0, 2)
	checkPto(t, of(1), 5, 0, 7)
	checkPto(t, of(1), 5, 3, 56)
	checkPto(t, of(0), 0, 10, 1024)
	checkPto(t, of(2), 0, 0, 6)
	checkPto(t, of(3), 0, 0, 7)
	checkPto(t, told(100, 100, 0, 100), 0, 0, 101)
	checkPto(t, told(100, 100, 1, 100), 0, 0, 104)
	checkPto(t, told(100, 100, 2, 100), 0, 0, 108)
}

func TestPtoOfProbes(t *testing.T) {
	for _, x := range []struct{ probes, power int }{
		{0, 1}, {1, 2}, {2, 4}, {3, 8}, {4, 16}, {5, 32}, {6, 64}, {7, 128}, {8, 256}, {9, 512}, {10, 1024},
		{11, 1024}, {12, 1024}, {63, 1024}, {64, 1024}, {65, 1024}, {far, 1024}, {far + 1, 1024}, {1<<32 + 1, 1024}, {math.MaxInt, 1024},
		{-1, 1}, {-2, 1}, {-10, 1}, {-64, 1}, {-far, 1}, {math.MinInt, 1},
	} {
		checkPto(t, rtt.New(), 0, x.probes, 30*x.power)
		checkPto(t, of(8, 16), 4, x.probes, 33*x.power)
		checkPto(t, of(0), 0, x.probes, x.power)
		checkPto(t, of(far), far, x.probes, 4*far*x.power)
	}
}

func TestPtoOfMost(t *testing.T) {
	for _, x := range []struct{ most, counts int }{
		{0, 0}, {1, 1}, {2, 2}, {25, 25}, {far - 1, far - 1}, {far, far}, {far + 1, far}, {far + 1000, far}, {2 * far, far}, {math.MaxInt, far},
		{-1, 0}, {-2, 0}, {-30, 0}, {-far, 0}, {math.MinInt, 0},
	} {
		checkPto(t, rtt.New(), x.most, 0, 30+x.counts)
		checkPto(t, rtt.New(), x.most, 1, 60+2*x.counts)
		checkPto(t, rtt.New(), x.most, 10, 30720+1024*x.counts)
		checkPto(t, of(0), x.most, 0, 1+x.counts)
	}
}

func TestPtosByASecondReckoning(t *testing.T) {
	for _, s := range states() {
		for _, most := range edges() {
			for _, probes := range append(edges(), 6, 12, 13, 62, 63, 64) {
				checkPto(t, s, most, probes, secondPto(s, most, probes))
			}
		}
	}
}

func checkThreshold(t *testing.T, s rtt.State, want int) {
	t.Helper()
	if n := rtt.Threshold(s); n != want {
		t.Errorf("Threshold of %+v: %d, not %d", s, n, want)
	}
}

func TestThreshold(t *testing.T) {
	// Smooth 10, and no sample: 90 / 8.
	checkThreshold(t, rtt.New(), 11)
	for _, x := range []struct{ first, want int }{
		{0, 1}, {1, 1}, {2, 2}, {3, 3}, {4, 4}, {6, 6}, {7, 7}, {8, 9}, {9, 10}, {15, 16}, {16, 18}, {17, 19}, {23, 25}, {24, 27}, {80, 90},
		{-1, 1}, {math.MinInt, 1}, {far - 1, far + far/8 - 2}, {far, far + far/8}, {far + 1, far + far/8}, {math.MaxInt, far + far/8},
	} {
		checkThreshold(t, of(x.first), x.want)
	}
}

func TestThresholdOfTheGreaterOne(t *testing.T) {
	checkThreshold(t, of(80, 160), 180)          // Smooth 90, Latest 160
	checkThreshold(t, of(80, 40), 84)            // Smooth 75, Latest 40
	checkThreshold(t, of(80, 80), 90)            // both 80
	checkThreshold(t, of(80, 0), 78)             // Smooth 70, Latest 0
	checkThreshold(t, of(0, 7), 7)               // Smooth 0, Latest 7
	checkThreshold(t, of(0, 8), 9)               // Smooth 1, Latest 8
	checkThreshold(t, of(1, 0), 1)               // both 0
	checkThreshold(t, of(0, 0), 1)               // both 0
	checkThreshold(t, of(far, 0), 1082331758592) // Smooth 7 / 8 of 2^40, and 9 / 8 of that
	checkThreshold(t, told(9, 10, 0, 1), 11)
	checkThreshold(t, told(10, 10, 0, 1), 11)
	checkThreshold(t, told(11, 10, 0, 1), 12)
	// Latest counts as it came, not as it was adjusted.
	checkThreshold(t, after(of(80), sample{160, 80, 80}), 180)
}

func TestThresholdsByASecondReckoning(t *testing.T) {
	for _, s := range states() {
		checkThreshold(t, s, secondThreshold(s))
	}
	for n := range 1000 {
		checkThreshold(t, of(n), secondThreshold(of(n)))
		checkThreshold(t, of(n, 100), secondThreshold(of(n, 100)))
	}
}

// P11.3

// checkBetween plays samples, and tells whether Min is the least one so far, and Smooth between that and the greatest one.
func checkBetween(t *testing.T, l []sample) {
	t.Helper()
	s, least, greatest := rtt.New(), far, 0
	for i, x := range l {
		s = after(s, x)
		n := counted(x.latest, far)
		least, greatest = min(least, n), max(greatest, n)
		if s.Min != least {
			t.Fatalf("%v: Min %d, not %d", l[:i+1], s.Min, least)
		}
		if s.Smooth < least || s.Smooth > greatest {
			t.Fatalf("%v: Smooth %d, not from %d to %d", l[:i+1], s.Smooth, least, greatest)
		}
		if !s.Any || s.Latest != n {
			t.Fatalf("%v: %+v", l[:i+1], s)
		}
	}
}

func TestMinIsTheLeastAndSmoothBetween(t *testing.T) {
	for bits := range 53 {
		for seed := range uint64(20) {
			checkBetween(t, strewnSamples(seed, 60, bits))
		}
	}
}

func TestMinAndSmoothOfFewSmallSamples(t *testing.T) {
	// All of up to three samples of 0 to 4, with delays of 0 to 3.
	for n := range 20 * 20 * 20 {
		var l []sample
		for m := n; m > 0; m /= 20 {
			l = append(l, sample{m % 20 % 5, m % 20 / 5, 2})
		}
		checkBetween(t, l)
	}
}

func TestMinAndSmoothOfSamplesAtTheEdges(t *testing.T) {
	for _, a := range edges() {
		for _, b := range edges() {
			for _, delay := range edges() {
				checkBetween(t, []sample{{a, delay, far}, {b, delay, far}, {a, delay, far}, {b, far, delay}})
			}
		}
	}
}

// Of samples that are all alike Smooth stays there, and Var goes to 0 in time.
func TestSamplesThatAreAllAlike(t *testing.T) {
	for _, n := range []int{0, 1, 2, 7, 8, 9, 1000, far - 1, far} {
		s := of(n)
		for range 200 {
			s = rtt.Sample(s, n, 0, 0)
		}
		if s != told(n, n, 0, n) {
			t.Errorf("of %d: %+v", n, s)
		}
	}
}

// Smooth comes to the least one, from above; from below it stops seven short of the greatest, for it is rounded down.
func TestSmoothNearsWhatComes(t *testing.T) {
	down, up := of(1000), of(0)
	for range 400 {
		down, up = rtt.Sample(down, 100, 0, 0), rtt.Sample(up, 100, 0, 0)
	}
	if down.Smooth != 100 || down.Min != 100 {
		t.Errorf("from above: %+v", down)
	}
	if up.Smooth != 93 || up.Min != 0 {
		t.Errorf("from below: %+v", up)
	}
}

// Rules

// A state that no sample leads to has no answer that is promised, but all calls end.
func TestOddStatesEnd(t *testing.T) {
	for _, any := range []bool{false, true} {
		for _, a := range edges() {
			for _, b := range edges() {
				s := rtt.State{Any: any, Latest: a, Smooth: b, Var: a, Min: b}
				for _, n := range edges() {
					rtt.Sample(s, n, a, b)
					rtt.Sample(s, a, n, b)
					rtt.Pto(s, n, a)
					rtt.Pto(s, a, n)
				}
				rtt.Threshold(s)
			}
		}
	}
}

func TestTheStateThatIsHandedInStays(t *testing.T) {
	s := of(80)
	one, two := rtt.Sample(s, 160, 16, 16), rtt.Sample(s, 40, 0, 0)
	if s != told(80, 80, 40, 80) {
		t.Errorf("%+v", s)
	}
	if one != told(160, 88, 46, 80) || two != told(40, 75, 40, 40) {
		t.Errorf("%+v, %+v", one, two)
	}
	if again := rtt.Sample(s, 160, 16, 16); again != one {
		t.Errorf("%+v, then %+v", one, again)
	}
}

func TestManyCallsAtOnce(t *testing.T) {
	var all sync.WaitGroup
	for seed := range uint64(16) {
		all.Go(func() {
			s, want := rtt.New(), rtt.New()
			for _, x := range strewnSamples(seed, 60, 40) {
				s = rtt.Sample(s, x.latest, x.delay, x.most)
				want = secondSample(want, x.latest, x.delay, x.most)
			}
			if s != want {
				t.Error(fmt.Sprint(seed, ": ", s, ", not ", want))
			}
		})
	}
	all.Wait()
}
