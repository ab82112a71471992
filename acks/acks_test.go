package acks_test

import (
	"fmt"
	"math"
	"slices"
	"sync"
	"testing"

	"domino/acks"
	"domino/api"
	"domino/frame"
	"domino/ranges"
)

type (
	R     = ranges.Range
	S     = ranges.Set
	State = acks.State
)

const (
	mostNumber = 1<<62 - 1
	farTick    = 1 << 40
	mostRanges = 32
	highest    = math.MaxUint64
)

// same tells whether all fields are alike; sets without ranges are, and nil ones.
func same(a, b State) bool {
	return slices.Equal(a.Set, b.Set) && a.Floor == b.Floor && a.Top == b.Top && a.Owed == b.Owed && a.Since == b.Since
}

// set tells a set by where its ranges begin and end.
func set(l ...uint64) S {
	var s S
	for i := 0; i < len(l); i += 2 {
		s = append(s, R{Lo: l[i], Hi: l[i+1]})
	}
	return s
}

// comb tells so many ranges of one number each, from first on, step apart.
func comb(first uint64, many int, step uint64) S {
	var s S
	for i := range uint64(many) {
		s = append(s, R{Lo: first + i*step, Hi: first + i*step})
	}
	return s
}

// got is a number that comes at a tick.
type got struct {
	num     uint64
	elicits bool
	tick    int
}

// play tells the state behind all these, and which of them are taken.
func play(s State, l ...got) (State, []bool) {
	var taken []bool
	for _, g := range l {
		var ok bool
		s, ok = acks.Got(s, g.num, g.elicits, g.tick)
		taken = append(taken, ok)
	}
	return s, taken
}

// came tells the state behind these numbers, that come at tick 0 and do not elicit.
func came(l ...uint64) State {
	var s State
	for _, n := range l {
		s, _ = acks.Got(s, n, false, 0)
	}
	return s
}

// combed tells the state behind so many numbers, from first on, step apart, that come at tick 0 and do not elicit.
func combed(first uint64, many int, step uint64) State {
	var l []uint64
	for i := range uint64(many) {
		l = append(l, first+i*step)
	}
	return came(l...)
}

// asked tells the state behind so many that elicit, which come at these ticks: 0, 1, 2 ..
func asked(ticks ...int) State {
	var s State
	for i, tick := range ticks {
		s, _ = acks.Got(s, uint64(i), true, tick)
	}
	return s
}

func checkState(t *testing.T, name string, s, want State) {
	t.Helper()
	if !same(s, want) {
		t.Errorf("%s: %+v, not %+v", name, s, want)
	}
}

// checkTaken gets what has to be taken, and tells whether that leads to want.
func checkTaken(t *testing.T, name string, s State, g got, want State) State {
	t.Helper()
	out, ok := acks.Got(s, g.num, g.elicits, g.tick)
	if !ok {
		t.Errorf("%s: %d is not taken", name, g.num)
	}
	checkState(t, name, out, want)
	return out
}

// checkRefused tells whether a number is not taken, and changes nothing, at any tick, whether it elicits or not.
func checkRefused(t *testing.T, name string, s State, l ...uint64) {
	t.Helper()
	for _, num := range l {
		for _, tick := range []int{0, 1, 1000, farTick} {
			for _, elicits := range []bool{false, true} {
				out, ok := acks.Got(s, num, elicits, tick)
				if ok {
					t.Errorf("%s: %d is taken", name, num)
				}
				checkState(t, fmt.Sprintf("%s: %d", name, num), out, s)
			}
		}
	}
}

// The chapter's example.
func TestTheExample(t *testing.T) {
	s, taken := play(State{}, got{num: 3}, got{num: 1}, got{num: 2}, got{num: 2})
	checkState(t, "3, 1, 2, 2", s, State{Set: set(1, 3)})
	if !slices.Equal(taken, []bool{true, true, true, false}) {
		t.Errorf("taken: %v", taken)
	}
}

// P13.1

func TestGotOfTheFirstOne(t *testing.T) {
	for _, num := range []uint64{0, 1, 2, 1000, 1 << 32, mostNumber - 1, mostNumber} {
		for _, tick := range []int{0, 1, 7, farTick} {
			name := fmt.Sprintf("%d at %d", num, tick)
			s := checkTaken(t, name, State{}, got{num, false, tick}, State{Set: set(num, num), Top: tick})
			checkRefused(t, name, s, num)
			s = checkTaken(t, name+", that elicits", State{}, got{num, true, tick}, State{Set: set(num, num), Top: tick, Owed: 1, Since: tick})
			checkRefused(t, name+", that elicits", s, num)
		}
	}
}

// Of each place that a number may have beside ranges: what Set is then.
func TestGotBesideRanges(t *testing.T) {
	s := came(10, 11, 12, 14, 20, 21)
	checkState(t, "10 to 12, 14, 20 to 21", s, State{Set: set(10, 12, 14, 14, 20, 21)})
	for _, x := range []struct {
		name string
		num  uint64
		want S
	}{
		{"apart, below all", 0, set(0, 0, 10, 12, 14, 14, 20, 21)},
		{"apart by one, below all", 8, set(8, 8, 10, 12, 14, 14, 20, 21)},
		{"just below the first range", 9, set(9, 12, 14, 14, 20, 21)},
		{"between two ranges, that are one then", 13, set(10, 14, 20, 21)},
		{"just above a range", 15, set(10, 12, 14, 15, 20, 21)},
		{"apart by one, above a range", 16, set(10, 12, 14, 14, 16, 16, 20, 21)},
		{"apart from both", 17, set(10, 12, 14, 14, 17, 17, 20, 21)},
		{"apart by one, below a range", 18, set(10, 12, 14, 14, 18, 18, 20, 21)},
		{"just below the last range", 19, set(10, 12, 14, 14, 19, 21)},
	} {
		out := checkTaken(t, x.name, s, got{x.num, false, 5}, State{Set: x.want})
		checkRefused(t, x.name, out, x.num, 10, 12, 14, 20, 21)
	}
	for _, x := range []struct {
		name string
		num  uint64
		want S
	}{
		{"just above the last range", 22, set(10, 12, 14, 14, 20, 22)},
		{"apart by one, above all", 23, set(10, 12, 14, 14, 20, 21, 23, 23)},
		{"apart, above all", 99, set(10, 12, 14, 14, 20, 21, 99, 99)},
		{"the last one", mostNumber, set(10, 12, 14, 14, 20, 21, mostNumber, mostNumber)},
	} {
		out := checkTaken(t, x.name, s, got{x.num, false, 5}, State{Set: x.want, Top: 5})
		checkRefused(t, x.name, out, x.num, 10, 12, 14, 20, 21)
	}
}

// What Set has is not taken, wherever it stands in its range.
func TestGotOfWhatCameAhead(t *testing.T) {
	s, _ := play(State{}, got{5, true, 3}, got{6, false, 4}, got{7, true, 5}, got{9, false, 6}, got{3, true, 7})
	checkState(t, "3, 5 to 7, 9", s, State{Set: set(3, 3, 5, 7, 9, 9), Top: 6, Owed: 3, Since: 3})
	checkRefused(t, "3, 5 to 7, 9", s, 3, 5, 6, 7, 9)
	checkRefused(t, "3, 5 to 7, 9, told", acks.Sent(s), 3, 5, 6, 7, 9)
	ends := came(0, 1, mostNumber-1, mostNumber)
	checkState(t, "both ends", ends, State{Set: set(0, 1, mostNumber-1, mostNumber)})
	checkRefused(t, "both ends", ends, 0, 1, mostNumber-1, mostNumber)
}

func TestGotOfTheFirstAndTheLastNumber(t *testing.T) {
	s := checkTaken(t, "the last one", State{}, got{mostNumber, true, 1}, State{Set: set(mostNumber, mostNumber), Top: 1, Owed: 1, Since: 1})
	s = checkTaken(t, "0", s, got{0, true, 2}, State{Set: set(0, 0, mostNumber, mostNumber), Top: 1, Owed: 2, Since: 1})
	s = checkTaken(t, "the last one but one", s, got{mostNumber - 1, true, 3}, State{Set: set(0, 0, mostNumber-1, mostNumber), Top: 1, Owed: 3, Since: 1})
	checkTaken(t, "1", s, got{1, true, 4}, State{Set: set(0, 1, mostNumber-1, mostNumber), Top: 1, Owed: 4, Since: 1})
}

// Top is when the greatest one came, not when the last one did.
func TestTop(t *testing.T) {
	s := checkTaken(t, "the first one", State{}, got{5, false, 3}, State{Set: set(5, 5), Top: 3})
	s = checkTaken(t, "a greater one, apart", s, got{9, false, 4}, State{Set: set(5, 5, 9, 9), Top: 4})
	s = checkTaken(t, "one below", s, got{2, false, 5}, State{Set: set(2, 2, 5, 5, 9, 9), Top: 4})
	s = checkTaken(t, "one just below the greatest", s, got{8, false, 6}, State{Set: set(2, 2, 5, 5, 8, 9), Top: 4})
	s = checkTaken(t, "one just above the greatest", s, got{10, false, 7}, State{Set: set(2, 2, 5, 5, 8, 10), Top: 7})
	s = checkTaken(t, "one between two ranges", s, got{7, false, 8}, State{Set: set(2, 2, 5, 5, 7, 10), Top: 7})
	s = checkTaken(t, "one that joins the last two", s, got{6, false, 9}, State{Set: set(2, 2, 5, 10), Top: 7})
	s = checkTaken(t, "0", s, got{0, false, 10}, State{Set: set(0, 0, 2, 2, 5, 10), Top: 7})
	s = checkTaken(t, "one that elicits, below", s, got{3, true, 11}, State{Set: set(0, 0, 2, 3, 5, 10), Top: 7, Owed: 1, Since: 11})
	s = acks.Sent(s)
	s = checkTaken(t, "the greatest of all", s, got{mostNumber, false, farTick}, State{Set: set(0, 0, 2, 3, 5, 10, mostNumber, mostNumber), Top: farTick})
	checkTaken(t, "the one below that", s, got{mostNumber - 1, false, farTick}, State{Set: set(0, 0, 2, 3, 5, 10, mostNumber-1, mostNumber), Top: farTick})
}

// At one tick, and at tick 0, Top is that tick, too.
func TestTopAtOneTick(t *testing.T) {
	s, _ := play(State{}, got{4, false, 0}, got{5, false, 0})
	checkState(t, "at 0", s, State{Set: set(4, 5)})
	s, _ = play(s, got{7, false, 6}, got{6, false, 6}, got{8, false, 6})
	checkState(t, "at 6", s, State{Set: set(4, 8), Top: 6})
}

// Since is when the first one came of those that are owed an answer.
func TestOwedAndSince(t *testing.T) {
	s := checkTaken(t, "one that does not elicit", State{}, got{0, false, 1}, State{Set: set(0, 0), Top: 1})
	s = checkTaken(t, "the first one that does", s, got{1, true, 2}, State{Set: set(0, 1), Top: 2, Owed: 1, Since: 2})
	s = checkTaken(t, "another one that does not", s, got{2, false, 3}, State{Set: set(0, 2), Top: 3, Owed: 1, Since: 2})
	s = checkTaken(t, "the second one that does", s, got{3, true, 4}, State{Set: set(0, 3), Top: 4, Owed: 2, Since: 2})
	s = checkTaken(t, "one more that does not", s, got{4, false, 5}, State{Set: set(0, 4), Top: 5, Owed: 2, Since: 2})
	s = checkTaken(t, "the third one that does", s, got{5, true, 6}, State{Set: set(0, 5), Top: 6, Owed: 3, Since: 2})
	checkRefused(t, "all of them again", s, 0, 1, 2, 3, 4, 5)
	s = acks.Sent(s)
	s = checkTaken(t, "told, one that does not elicit", s, got{6, false, 7}, State{Set: set(0, 6), Top: 7})
	s = checkTaken(t, "told, one that does", s, got{8, true, 8}, State{Set: set(0, 6, 8, 8), Top: 8, Owed: 1, Since: 8})
	checkTaken(t, "told, another one that does, below", s, got{7, true, 9}, State{Set: set(0, 8), Top: 8, Owed: 2, Since: 8})
}

// Whether one came at tick 0 is told by Owed, not by Since.
func TestSinceAtTheFirstTick(t *testing.T) {
	s := checkTaken(t, "at 0", State{}, got{0, true, 0}, State{Set: set(0, 0), Owed: 1})
	checkTaken(t, "then at 5", s, got{1, true, 5}, State{Set: set(0, 1), Top: 5, Owed: 2})
}

func TestOwedOfMany(t *testing.T) {
	var s State
	for i := range 200 {
		s = checkTaken(t, fmt.Sprint(i), s, got{uint64(i), true, 3 + i}, State{Set: set(0, uint64(i)), Top: 3 + i, Owed: i + 1, Since: 3})
	}
}

// 32 ranges stay; of 33 the first one goes.
func TestTheLastRangeThatThereIsRoomFor(t *testing.T) {
	s := combed(0, mostRanges-1, 2)
	checkState(t, "31", s, State{Set: comb(0, 31, 2)})
	s = checkTaken(t, "32", s, got{62, false, 1}, State{Set: comb(0, 32, 2), Top: 1})
	checkRefused(t, "32", s, 0, 2, 30, 62)
	checkTaken(t, "32, one just above the first", s, got{1, false, 2}, State{Set: append(set(0, 2), comb(4, 30, 2)...), Top: 1})
	checkTaken(t, "32, one just above the last", s, got{63, false, 2}, State{Set: append(comb(0, 31, 2), R{Lo: 62, Hi: 63}), Top: 2})
	s = checkTaken(t, "33", s, got{64, false, 2}, State{Set: comb(2, 32, 2), Floor: 1, Top: 2})
	s = checkTaken(t, "34", s, got{66, true, 3}, State{Set: comb(4, 32, 2), Floor: 3, Top: 3, Owed: 1, Since: 3})
	checkRefused(t, "34", s, 0, 1, 2, 4, 66)
}

// Below Floor nothing is taken, Floor itself is.
func TestFloor(t *testing.T) {
	s := combed(0, mostRanges+1, 3)
	checkState(t, "0, 3 to 96", s, State{Set: comb(3, 32, 3), Floor: 1})
	checkRefused(t, "below 1", s, 0)
	join := checkTaken(t, "above 1, beside 3", s, got{2, false, 7}, State{Set: append(set(2, 3), comb(6, 31, 3)...), Floor: 1})
	join = checkTaken(t, "1, beside 2", join, got{1, false, 8}, State{Set: append(set(1, 3), comb(6, 31, 3)...), Floor: 1})
	checkRefused(t, "1 to 3", join, 0, 1, 2, 3)
	// Apart from all, 1 is a range more: it is that one that goes.
	s = checkTaken(t, "1, apart", s, got{1, true, 9}, State{Set: comb(3, 32, 3), Floor: 2, Owed: 1, Since: 9})
	checkRefused(t, "below 2", s, 0, 1, 3)
	s = checkTaken(t, "2, beside 3", s, got{2, true, 10}, State{Set: append(set(2, 3), comb(6, 31, 3)...), Floor: 2, Owed: 2, Since: 9})
	s = checkTaken(t, "4, above it", s, got{4, false, 11}, State{Set: append(set(2, 4), comb(6, 31, 3)...), Floor: 2, Owed: 2, Since: 9})
	s = checkTaken(t, "a range more", s, got{200, false, 12}, State{Set: append(comb(6, 31, 3), R{Lo: 200, Hi: 200}), Floor: 5, Top: 12, Owed: 2, Since: 9})
	checkRefused(t, "below 5", s, 0, 1, 2, 3, 4)
	checkTaken(t, "5, beside 6", s, got{5, false, 13}, State{Set: append(append(set(5, 6), comb(9, 30, 3)...), R{Lo: 200, Hi: 200}), Floor: 5, Top: 12, Owed: 2, Since: 9})
}

// Floor is behind all of the range that goes, however many numbers it has, and far below the next one.
func TestFloorOfAWideRange(t *testing.T) {
	s := came(10, 11, 12, 13, 14)
	for i := range uint64(31) {
		s, _ = acks.Got(s, 100+2*i, false, 1)
	}
	checkState(t, "10 to 14, 100 to 160", s, State{Set: append(set(10, 14), comb(100, 31, 2)...), Top: 1})
	between := checkTaken(t, "one between", s, got{120 + 1, false, 2}, State{Set: append(append(append(set(10, 14), comb(100, 10, 2)...), R{Lo: 120, Hi: 122}), comb(124, 19, 2)...), Top: 1})
	checkTaken(t, "one between, and a range more", between, got{50, false, 2}, State{Set: append(append(append(set(10, 14, 50, 50), comb(100, 10, 2)...), R{Lo: 120, Hi: 122}), comb(124, 19, 2)...), Top: 1})
	s = checkTaken(t, "a range more, in the middle", s, got{16, false, 3}, State{Set: append(set(16, 16), comb(100, 31, 2)...), Floor: 15, Top: 1})
	checkRefused(t, "below 15", s, 0, 9, 10, 12, 14, 16)
	s = checkTaken(t, "15", s, got{15, false, 4}, State{Set: append(set(15, 16), comb(100, 31, 2)...), Floor: 15, Top: 1})
	checkRefused(t, "15, again", s, 14, 15)
}

// The number that makes a range too many, and is below all, goes with that: it is taken all the same, and only once.
func TestTheNumberThatGoesAtOnce(t *testing.T) {
	s := combed(100, mostRanges, 2)
	for _, x := range []struct {
		num   uint64
		floor uint64
	}{{0, 1}, {1, 2}, {50, 51}, {97, 98}, {98, 99}} {
		name := fmt.Sprint(x.num, " below 100")
		out := checkTaken(t, name, s, got{x.num, false, 5}, State{Set: comb(100, 32, 2), Floor: x.floor})
		checkRefused(t, name, out, x.num, 0, 100)
		out = checkTaken(t, name+", that elicits", s, got{x.num, true, 5}, State{Set: comb(100, 32, 2), Floor: x.floor, Owed: 1, Since: 5})
		checkRefused(t, name+", that elicits", out, x.num, 0, 100)
	}
	checkTaken(t, "99, beside 100", s, got{99, false, 5}, State{Set: append(set(99, 100), comb(102, 31, 2)...)})
	checkTaken(t, "101, between 100 and 102", s, got{101, false, 5}, State{Set: append(set(100, 102), comb(104, 30, 2)...)})
	// One by one, up to the first range.
	for num := range uint64(99) {
		s = checkTaken(t, fmt.Sprint(num), s, got{num, false, 6}, State{Set: comb(100, 32, 2), Floor: num + 1})
	}
	checkTaken(t, "99, behind all below", s, got{99, false, 6}, State{Set: append(set(99, 100), comb(102, 31, 2)...), Floor: 99})
}

// The greatest one is a range more: the first one goes, and Top is its tick.
func TestTheGreatestNumberMakesARangeTooMany(t *testing.T) {
	s := combed(0, mostRanges, 2)
	want := append(comb(2, 31, 2), R{Lo: mostNumber, Hi: mostNumber})
	s = checkTaken(t, "the last number", s, got{mostNumber, true, 8}, State{Set: want, Floor: 1, Top: 8, Owed: 1, Since: 8})
	checkRefused(t, "0, and the last number", s, 0, mostNumber)
	up := combed(mostNumber-2*mostRanges, mostRanges, 2)
	up = checkTaken(t, "the last one of a comb", up, got{mostNumber, false, 8}, State{Set: comb(mostNumber-62, 32, 2), Floor: mostNumber - 63, Top: 8})
	checkRefused(t, "far below the last number", up, 0, mostNumber-64)
	checkTaken(t, "Floor, below the last number", up, got{mostNumber - 63, false, 9}, State{Set: append(set(mostNumber-63, mostNumber-62), comb(mostNumber-60, 31, 2)...), Floor: mostNumber - 63, Top: 8})
}

// P13.2

func TestDue(t *testing.T) {
	for _, x := range []struct {
		name       string
		s          State
		tick, most int
		want       bool
	}{
		{"nothing", State{}, 0, 0, false},
		{"nothing, late", State{}, farTick, 0, false},
		{"nothing, a most below 0", State{}, farTick, -5, false},
		{"none that elicits", came(0, 1, 2), farTick, 0, false},
		{"one at 0, of 0, at 0", asked(0), 0, 0, true},
		{"one at 0, of 1, at 0", asked(0), 0, 1, false},
		{"one at 0, of 1, at 1", asked(0), 1, 1, true},
		{"one at 7, of 0, ahead", asked(7), 6, 0, false},
		{"one at 7, of 0, at once", asked(7), 7, 0, true},
		{"one at 7, of 0, late", asked(7), 8, 0, true},
		{"one at 7, of 3, just ahead", asked(7), 9, 3, false},
		{"one at 7, of 3, then", asked(7), 10, 3, true},
		{"one at 7, of 3, just behind", asked(7), 11, 3, true},
		{"one at 7, of -1, ahead", asked(7), 6, -1, false},
		{"one at 7, of -1, at once", asked(7), 7, -1, true},
		{"one at 7, of -7, at 0", asked(7), 0, -7, false},
		{"one at 7, of the least", asked(7), 6, math.MinInt, false},
		{"one at 7, of the least, at once", asked(7), 7, math.MinInt, true},
		{"one at 7, of much, just ahead", asked(7), farTick - 1, farTick - 7, false},
		{"one at 7, of much, then", asked(7), farTick, farTick - 7, true},
		{"one at 2^40, of 0", asked(farTick), farTick, 0, true},
		{"one at 2^40, of 1", asked(farTick), farTick, 1, false},
		{"two, at once", asked(7, 7), 7, 100, true},
		{"two, at once, of 0", asked(7, 7), 7, 0, true},
		{"two, at once, of less than 0", asked(7, 7), 7, -1, true},
		{"two, at once, of the greatest", asked(7, 7), 7, math.MaxInt, true},
		{"two, of which one came late", asked(7, 9), 9, farTick, true},
		{"three", asked(7, 8, 9), 9, 100, true},
		{"many", asked(0, 0, 0, 0, 0, 0, 0, 0, 0), 0, 5, true},
		{"two, told", acks.Sent(asked(7, 8)), farTick, 0, false},
		{"one, told", acks.Sent(asked(7)), farTick, 0, false},
	} {
		if due := acks.Due(x.s, x.tick, x.most); due != x.want {
			t.Errorf("%s: %v", x.name, due)
		}
	}
}

// It is the tick of the first one that elicits that counts, not that of the greatest one, nor of the last one.
func TestDueBySince(t *testing.T) {
	s, _ := play(State{}, got{9, false, 1}, got{5, true, 4}, got{12, false, 6}, got{3, false, 8})
	checkState(t, "one at 4", s, State{Set: set(3, 3, 5, 5, 9, 9, 12, 12), Top: 6, Owed: 1, Since: 4})
	for tick := range 20 {
		if due := acks.Due(s, tick, 5); due != (tick >= 9) {
			t.Errorf("at %d: %v", tick, due)
		}
	}
	s, _ = acks.Got(acks.Sent(s), 4, true, 10)
	for tick := range 30 {
		if due := acks.Due(s, tick, 5); due != (tick >= 15) {
			t.Errorf("told, at %d: %v", tick, due)
		}
	}
}

// All small ones, of no, one, two and three that are owed an answer.
func TestDueOfSmallNumbers(t *testing.T) {
	for owed := range 4 {
		for since := range 6 {
			s := asked(slices.Repeat([]int{since}, owed)...)
			for tick := range 20 {
				for most := -4; most < 14; most++ {
					want := owed >= 2 || owed == 1 && tick-since >= most && tick >= since
					if due := acks.Due(s, tick, most); due != want {
						t.Errorf("Owed %d since %d, at %d, of %d: %v", owed, since, tick, most, due)
					}
				}
			}
		}
	}
}

// R8: a sum goes round where it is too great.
func TestDueGoesRound(t *testing.T) {
	for _, x := range []struct {
		since, tick, most int
		want              bool
	}{
		{0, farTick, math.MaxInt, false}, {1, farTick, math.MaxInt - 1, false}, {1, 1, math.MaxInt, true}, {farTick, farTick, math.MaxInt, true},
	} {
		if due := acks.Due(asked(x.since), x.tick, x.most); due != x.want {
			t.Errorf("%+v: %v", x, due)
		}
	}
}

// checkFrame tells whether the Ack of s at a tick has these ranges and this Delay, and may be.
func checkFrame(t *testing.T, name string, s State, tick int, l S, delay uint64) {
	t.Helper()
	f, ok := acks.Frame(s, tick)
	if want := (frame.Frame{Kind: frame.Ack, Delay: delay, Set: l}); !ok || !frame.Same(f, want) {
		t.Errorf("%s: %+v, %v, not %+v", name, f, ok, want)
	}
	if f.Kind != 2 || !frame.May(f) {
		t.Errorf("%s: %+v may not be", name, f)
	}
}

func TestFrame(t *testing.T) {
	s, _ := play(State{}, got{1, true, 4}, got{2, true, 5}, got{6, true, 10}, got{3, true, 12})
	for _, x := range []struct {
		tick  int
		delay uint64
	}{{0, 0}, {8, 0}, {9, 0}, {10, 0}, {11, 1}, {12, 2}, {15, 5}, {1000, 990}, {farTick, farTick - 10}} {
		checkFrame(t, fmt.Sprint("at ", x.tick), s, x.tick, set(1, 3, 6, 6), x.delay)
		checkFrame(t, fmt.Sprint("told, at ", x.tick), acks.Sent(s), x.tick, set(1, 3, 6, 6), x.delay)
	}
	f, _ := acks.Frame(s, 10)
	if bytes, e := frame.Put(f); bytes != "\x02\x06\x00\x01\x00\x01\x02" || e != api.OK {
		t.Errorf("%x, %d", bytes, e)
	}
}

// One that asks for no answer is told, too.
func TestFrameOfWhatDoesNotElicit(t *testing.T) {
	checkFrame(t, "0", came(0), 3, set(0, 0), 3)
	checkFrame(t, "both ends", came(0, mostNumber), farTick, set(0, 0, mostNumber, mostNumber), farTick)
}

func TestFrameOfManyRanges(t *testing.T) {
	checkFrame(t, "32", combed(0, mostRanges, 2), 1, comb(0, 32, 2), 1)
	checkFrame(t, "33", combed(0, mostRanges+1, 2), 1, comb(2, 32, 2), 1)
	checkFrame(t, "50", combed(0, 50, 2), 1, comb(36, 32, 2), 1)
	s := combed(100, mostRanges, 2)
	s, _ = acks.Got(s, 4, true, 6)
	checkFrame(t, "33, of which the least one came last", s, 7, comb(100, 32, 2), 7)
}

func TestFrameOfNothing(t *testing.T) {
	for _, s := range []State{{}, {Set: S{}}, acks.Sent(State{})} {
		for _, tick := range []int{0, 1, farTick} {
			f, ok := acks.Frame(s, tick)
			if ok || !frame.Same(f, frame.Frame{}) || f.Set != nil {
				t.Errorf("at %d: %+v, %v", tick, f, ok)
			}
		}
	}
}

func TestSent(t *testing.T) {
	checkState(t, "the zero one", acks.Sent(State{}), State{})
	checkState(t, "none that elicits", acks.Sent(came(4, 9)), State{Set: set(4, 4, 9, 9)})
	checkState(t, "one", acks.Sent(asked(7)), State{Set: set(0, 0), Top: 7})
	checkState(t, "two", acks.Sent(asked(7, 9)), State{Set: set(0, 1), Top: 9})
	checkState(t, "many", acks.Sent(asked(1, 2, 3, 4, 5)), State{Set: set(0, 4), Top: 5})
	checkState(t, "twice", acks.Sent(acks.Sent(asked(7, 9))), State{Set: set(0, 1), Top: 9})
	full := combed(0, 40, 2)
	full, _ = acks.Got(full, 100, true, 6)
	checkState(t, "more than 32 ranges", acks.Sent(full), State{Set: append(comb(18, 31, 2), R{Lo: 100, Hi: 100}), Floor: 17, Top: 6})
}

func TestLargest(t *testing.T) {
	full := combed(0, 40, 2)
	full, _ = acks.Got(full, 15, false, 1)
	for _, x := range []struct {
		name string
		s    State
		num  uint64
		any  bool
	}{
		{"nothing", State{}, 0, false},
		{"a Set of no range", State{Set: S{}}, 0, false},
		{"0", came(0), 0, true},
		{"1", came(1), 1, true},
		{"0 to 2", came(0, 1, 2), 2, true},
		{"2 to 0", came(2, 1, 0), 2, true},
		{"2, 9, 4", came(2, 9, 4), 9, true},
		{"the last one", came(mostNumber), mostNumber, true},
		{"both ends", came(mostNumber, 0), mostNumber, true},
		{"two that elicit", asked(4, 5), 1, true},
		{"two that elicit, told", acks.Sent(asked(4, 5)), 1, true},
		{"40 ranges", full, 78, true},
	} {
		if num, ok := acks.Largest(x.s); num != x.num || ok != x.any {
			t.Errorf("%s: %d, %v", x.name, num, ok)
		}
	}
}

// book is a second reckoning: all numbers that were taken, each by itself.
type book struct {
	taken       []uint64
	floor       uint64
	top         int
	owed, since int
}

// runs tells the numbers from floor on, as ranges.
func (b *book) runs() S {
	l := slices.Clone(b.taken)
	slices.Sort(l)
	var out S
	for _, n := range l {
		switch last := len(out) - 1; {
		case n < b.floor:
		case last >= 0 && out[last].Hi+1 == n:
			out[last].Hi = n
		default:
			out = append(out, R{Lo: n, Hi: n})
		}
	}
	return out
}

func (b *book) state() State {
	return State{Set: b.runs(), Floor: b.floor, Top: b.top, Owed: b.owed, Since: b.since}
}

func (b *book) got(g got) bool {
	if g.num < b.floor || slices.Contains(b.taken, g.num) {
		return false
	}
	if len(b.taken) == 0 || g.num > slices.Max(b.taken) {
		b.top = g.tick
	}
	b.taken = append(b.taken, g.num)
	if g.elicits {
		if b.owed++; b.owed == 1 {
			b.since = g.tick
		}
	}
	if l := b.runs(); len(l) == 33 {
		b.floor = l[0].Hi + 1
	}
	return true
}

// dice tells numbers by a fixed rule; each seed has its own.
type dice struct{ x uint64 }

func newDice(seed uint64) *dice { return &dice{seed*0x9e3779b97f4a7c15 + 1} }

// below tells a number below n.
func (d *dice) below(n int) int {
	d.x = d.x*6364136223846793005 + 1442695040888963407
	return int(d.x >> 33 % uint64(n))
}

// player plays calls on a state and a book at once.
type player struct {
	t      *testing.T
	d      *dice
	s      State
	b      book
	now    int
	lo     uint64
	spread int
	told   map[uint64]int
}

// newPlayer tells one whose numbers are from lo on, fewer than spread.
func newPlayer(t *testing.T, seed, lo uint64, spread int) *player {
	return &player{t: t, d: newDice(seed), lo: lo, spread: spread, told: map[uint64]int{}}
}

// got plays a Got.
func (p *player) got() {
	g := got{p.lo + uint64(p.d.below(p.spread)), p.d.below(3) == 0, p.now}
	s, ok := acks.Got(p.s, g.num, g.elicits, g.tick)
	if want := p.b.got(g); ok != want {
		p.t.Fatalf("%+v of %+v: %v", g, p.s, ok)
	}
	if ok {
		p.told[g.num]++
	}
	p.s = s
}

// check holds all that is told of the state against the book.
func (p *player) check() {
	p.t.Helper()
	want := p.b.state()
	if !same(p.s, want) || !ranges.May(p.s.Set) || len(p.s.Set) > mostRanges {
		p.t.Fatalf("%+v, not %+v", p.s, want)
	}
	most := p.d.below(8) - 2
	late := p.b.owed > 0 && p.now >= p.b.since && p.now-p.b.since >= most
	if due := acks.Due(p.s, p.now, most); due != (late || p.b.owed > 1) {
		p.t.Fatalf("Due of %+v at %d, of %d: %v", p.s, p.now, most, due)
	}
	f, ok := acks.Frame(p.s, p.now)
	num, largest := acks.Largest(p.s)
	if len(p.b.taken) == 0 {
		if ok || largest || num != 0 || !frame.Same(f, frame.Frame{}) {
			p.t.Fatalf("%+v, %v, %d, %v of nothing", f, ok, num, largest)
		}
		return
	}
	if !ok || !frame.Same(f, frame.Frame{Kind: 2, Delay: uint64(p.now - p.b.top), Set: want.Set}) {
		p.t.Fatalf("Frame of %+v at %d: %+v, %v", p.s, p.now, f, ok)
	}
	if !largest || num != slices.Max(p.b.taken) {
		p.t.Fatalf("Largest of %+v: %d, %v", p.s, num, largest)
	}
}

// play plays so many calls, and tells how many numbers were taken.
func (p *player) play(calls int) int {
	p.t.Helper()
	for range calls {
		p.now += p.d.below(4)
		if p.d.below(8) == 0 {
			p.s = acks.Sent(p.s)
			p.b.owed, p.b.since = 0, 0
		} else {
			p.got()
		}
		p.check()
	}
	for n, times := range p.told {
		if times != 1 {
			p.t.Fatalf("%d is taken %d times", n, times)
		}
	}
	return len(p.told)
}

// P13.3, and all others by the second reckoning.

func TestPlaysByASecondReckoning(t *testing.T) {
	for _, spread := range []int{3, 10, 40, 70, 100, 300, 5000} {
		taken, floors := 0, 0
		for seed := range uint64(40) {
			for _, lo := range []uint64{0, 1 << 40, mostNumber - uint64(spread) + 1} {
				p := newPlayer(t, seed, lo, spread)
				taken += p.play(150)
				if p.s.Floor > 0 {
					floors++
				}
			}
		}
		if taken < 120*min(spread, 70)/2 || floors == 0 && spread > 100 {
			t.Errorf("below %d: %d taken, %d with a Floor", spread, taken, floors)
		}
	}
}

// Numbers that rise, with some that are left out, come late, or come again.
func TestARisingPlay(t *testing.T) {
	for seed := range uint64(40) {
		p := newPlayer(t, seed, 0, 80)
		for range 200 {
			p.play(1)
			p.lo += uint64(p.d.below(4))
		}
		if p.s.Floor == 0 {
			t.Errorf("seed %d: no Floor", seed)
		}
	}
}

// All calls of four numbers below 6, of which any elicit.
func TestSmallStatesByASecondReckoning(t *testing.T) {
	for n := range 6 * 6 * 6 * 6 * 16 {
		var s State
		var b book
		rest, elicits := n/16, n%16
		for i := range 4 {
			g := got{uint64(rest % 6), elicits>>i&1 != 0, 2 * i}
			rest /= 6
			out, ok := acks.Got(s, g.num, g.elicits, g.tick)
			if want := b.got(g); ok != want || !same(out, b.state()) {
				t.Fatalf("%+v of %+v: %+v, %v, not %+v, %v", g, s, out, ok, b.state(), want)
			}
			s = out
		}
	}
}

// Any two numbers behind as many ranges as there is room for, and one fewer and one more.
func TestFullStatesByASecondReckoning(t *testing.T) {
	for many := mostRanges - 1; many <= mostRanges+1; many++ {
		full := book{}
		s := State{}
		for i := range many {
			g := got{uint64(4 + 3*i), i == 5, i}
			s, _ = acks.Got(s, g.num, g.elicits, g.tick)
			full.got(g)
		}
		end := uint64(3*many + 8)
		for one := range end {
			first := full
			first.taken = slices.Clone(full.taken)
			out, ok := acks.Got(s, one, true, 50)
			if want := first.got(got{one, true, 50}); ok != want || !same(out, first.state()) {
				t.Fatalf("%d ranges, %d: %+v, %v, not %+v, %v", many, one, out, ok, first.state(), want)
			}
			for two := range end {
				second := first
				second.taken = slices.Clone(first.taken)
				both, ok := acks.Got(out, two, false, 60)
				if want := second.got(got{two, false, 60}); ok != want || !same(both, second.state()) {
					t.Fatalf("%d ranges, %d, %d: %+v, %v, not %+v, %v", many, one, two, both, ok, second.state(), want)
				}
			}
		}
	}
}

// No number is taken twice, also where all that Set had of it is long gone.
func TestTakenOnce(t *testing.T) {
	var s State
	taken := map[uint64]int{}
	for round := range 4 {
		for _, step := range []uint64{7, 3, 2, 1} {
			for i := range uint64(120) {
				num := i * step % 211
				var ok bool
				if s, ok = acks.Got(s, num, true, round); ok {
					taken[num]++
				}
				if taken[num] > 1 {
					t.Fatalf("%d is taken %d times", num, taken[num])
				}
			}
		}
	}
	if s.Floor == 0 || len(taken) < 100 {
		t.Errorf("Floor %d, %d taken", s.Floor, len(taken))
	}
}

// Rules

// R3, R4

// roomy tells a state whose Set has room behind it.
func roomy(s State) State {
	s.Set = append(make(S, 0, len(s.Set)+20), s.Set...)
	return s
}

// whole tells all that is in a set, also behind it.
func whole(s S) S {
	return slices.Clone(s[:cap(s)])
}

// scribble writes over a set, also behind it.
func scribble(s S) {
	s = s[:cap(s)]
	for i := range s {
		s[i] = R{Lo: 99, Hi: 98}
	}
}

// copied tells the same state in memory of its own.
func copied(s State) State {
	s.Set = slices.Clone(s.Set)
	return s
}

// calls are some of each: of numbers that are taken, join ranges, make one too many, or are not taken.
func calls() map[string]func(s State) State {
	l := map[string]func(s State) State{
		"Sent":  acks.Sent,
		"Frame": func(s State) State { f, _ := acks.Frame(s, 70); return State{Set: f.Set} },
	}
	for _, num := range []uint64{0, 1, 2, 3, 4, 5, 20, 21, 60, 62, 63, 64, 65, 66, 67, 90} {
		l[fmt.Sprint("Got of ", num)] = func(s State) State { s, _ = acks.Got(s, num, true, 70); return s }
	}
	return l
}

func TestWhatIsHandedInStays(t *testing.T) {
	for _, many := range []int{0, 1, 31, 32, 33} {
		for name, call := range calls() {
			name = fmt.Sprintf("%s, of %d ranges", name, many)
			s := roomy(combed(2, many, 2))
			fields, before := copied(s), whole(s.Set)
			out := call(s)
			after := copied(out)
			checkState(t, name, s, fields)
			if !slices.Equal(whole(s.Set), before) {
				t.Errorf("%s: %v, not %v", name, whole(s.Set), before)
			}
			// Writing over what was answered changes nothing.
			scribble(out.Set)
			if !slices.Equal(whole(s.Set), before) {
				t.Errorf("%s, written over: %v, not %v", name, whole(s.Set), before)
			}
			again := call(s)
			checkState(t, name+", again", again, after)
			// Nor does writing over what was handed in.
			scribble(s.Set)
			checkState(t, name+", of a state written over", again, after)
		}
	}
}

// Two that go on from one state do not meet.
func TestTwoOfOneState(t *testing.T) {
	s := roomy(came(1, 5))
	one, _ := acks.Got(s, 9, true, 3)
	two, _ := acks.Got(s, 7, false, 4)
	checkState(t, "one", one, State{Set: set(1, 1, 5, 5, 9, 9), Top: 3, Owed: 1, Since: 3})
	checkState(t, "two", two, State{Set: set(1, 1, 5, 5, 7, 7), Top: 4})
	checkState(t, "both are of", s, State{Set: set(1, 1, 5, 5)})
}

// R6: a Set without ranges is like none.
func TestASetOfNoRanges(t *testing.T) {
	s := State{Set: S{}}
	checkTaken(t, "0", s, got{0, true, 5}, State{Set: set(0, 0), Top: 5, Owed: 1, Since: 5})
	checkState(t, "Sent", acks.Sent(s), State{})
	if acks.Due(s, farTick, 0) {
		t.Error("Due")
	}
}

// R1: of odd states, numbers and ticks nothing is said, but all calls end.
func TestOddThingsEnd(t *testing.T) {
	sets := []S{nil, set(0, 0), set(5, 3), set(5, 9, 1, 2), set(0, highest), set(highest, highest), set(4, 4, 4, 4), set(1<<63, 1<<63+5), comb(0, 50, 2), comb(90, 50, 0), comb(highest-9, 40, 1)}
	ends := []int{math.MinInt, -farTick, -1, 0, 1, 5, farTick, farTick + 1, math.MaxInt}
	for _, l := range sets {
		for _, num := range []uint64{0, 1, 4, 5, 100, 1 << 62, 1<<63 - 1, 1 << 63, highest - 1, highest} {
			for _, a := range ends {
				for _, b := range ends {
					s := State{Set: l, Floor: num / 2, Top: a, Owed: b, Since: a}
					acks.Got(s, num, a < b, b)
					acks.Due(s, b, a)
					acks.Frame(s, b)
					acks.Sent(s)
					acks.Largest(s)
				}
			}
		}
	}
}

// R5
func TestManyCallsAtOnce(t *testing.T) {
	shared := combed(0, mostRanges, 2)
	var all sync.WaitGroup
	for seed := range uint64(16) {
		all.Go(func() {
			var s State
			var b book
			d := newDice(seed)
			for i := range 60 {
				g := got{uint64(d.below(90)), d.below(2) == 0, i}
				s, _ = acks.Got(s, g.num, g.elicits, g.tick)
				b.got(g)
				acks.Got(shared, g.num, true, i)
				acks.Frame(shared, i)
				acks.Sent(shared)
			}
			if !same(s, b.state()) {
				t.Error(fmt.Sprint(seed, ": ", s, ", not ", b.state()))
			}
		})
	}
	all.Wait()
	checkState(t, "what all call of", shared, State{Set: comb(0, 32, 2)})
}
