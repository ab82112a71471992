package gather_test

import (
	"fmt"
	"math"
	"slices"
	"strings"
	"sync"
	"testing"

	"domino/api"
	"domino/gather"
)

type (
	Part  = gather.Part
	State = gather.State
)

const (
	mostPlace = 1<<62 - 1
	highest   = math.MaxUint64
)

// parts tells parts by what Put is handed: a place, data, a place, data ..
func parts(l ...any) []Part {
	var out []Part
	for i := 0; i < len(l); i += 2 {
		out = append(out, Part{Off: place(l[i]), Data: l[i+1].(string)})
	}
	return out
}

// place tells a number that is written as an int, or as an uint64.
func place(x any) uint64 {
	if n, ok := x.(int); ok {
		return uint64(n)
	}
	return x.(uint64)
}

// same tells whether all fields are alike; lists without parts are, and nil ones.
func same(a, b State) bool {
	return a.Read == b.Read && a.Final == b.Final && a.Known == b.Known && slices.Equal(a.L, b.L)
}

func checkState(t *testing.T, name string, s, want State) {
	t.Helper()
	if !same(s, want) {
		t.Errorf("%s: %+v, not %+v", name, s, want)
	}
}

// may tells whether L's parts are such as the chapter has them.
func may(s State) bool {
	end, first := s.Read, true
	for _, p := range s.L {
		if p.Data == "" || p.Off < end || !first && p.Off == end {
			return false
		}
		end, first = p.Off+uint64(len(p.Data)), false
	}
	return end <= mostPlace && (!s.Known || end <= s.Final)
}

// checkPut puts what has to be taken, and tells whether that leads to want.
func checkPut(t *testing.T, name string, s State, off uint64, data string, fin bool, want State) State {
	t.Helper()
	out, e := gather.Put(s, off, data, fin)
	if e != api.OK {
		t.Errorf("%s: error %d", name, e)
	}
	checkState(t, name, out, want)
	return out
}

// checkRefused tells whether Put has an error, and leaves the state as it was.
func checkRefused(t *testing.T, name string, s State, off uint64, data string, fin bool, want api.Errno) {
	t.Helper()
	before := copied(s)
	out, e := gather.Put(s, off, data, fin)
	if e != want {
		t.Errorf("%s: error %d, not %d", name, e, want)
	}
	checkState(t, name+", the state that is told", out, before)
	checkState(t, name+", the state that was handed in", s, before)
}

// checkTake takes, and tells whether that is data, with which all is read, or not, and leads to want.
func checkTake(t *testing.T, name string, s State, n int, data string, all bool, want State) State {
	t.Helper()
	out, got, is := gather.Take(s, n)
	if got != data || is != all {
		t.Errorf("%s: %q, %v, not %q, %v", name, got, is, data, all)
	}
	checkState(t, name, out, want)
	return out
}

// put tells the state behind these parts, which have to be taken.
func put(s State, l ...any) State {
	for _, p := range parts(l...) {
		var e api.Errno
		if s, e = gather.Put(s, p.Off, p.Data, false); e != api.OK {
			panic(fmt.Sprint("Put: ", e))
		}
	}
	return s
}

// read tells the state of which so many bytes were read, and no others came.
func read(n int) State {
	s, data, _ := gather.Take(put(State{}, 0, strings.Repeat("r", n)), n)
	if len(data) != n {
		panic(fmt.Sprint("Take: ", len(data)))
	}
	return s
}

// ended tells s with an end, which has to be taken.
func ended(s State, final uint64) State {
	s, e := gather.Set(s, final)
	if e != api.OK {
		panic(fmt.Sprint("Set: ", e))
	}
	return s
}

// copied tells the same state in memory of its own.
func copied(s State) State {
	s.L = slices.Clone(s.L)
	return s
}

// The chapter's example.
func TestTheExample(t *testing.T) {
	s := checkPut(t, "cd", State{}, 2, "cd", false, State{L: parts(2, "cd")})
	s = checkPut(t, "ab", s, 0, "ab", false, State{L: parts(0, "abcd")})
	checkTake(t, "Take of 9", s, 9, "abcd", false, State{Read: 4})
}

// P14.1

func TestHighestAndHeld(t *testing.T) {
	for _, x := range []struct {
		name string
		s    State
		top  uint64
		held int
	}{
		{"nothing", State{}, 0, 0},
		{"a list of no parts", State{L: []Part{}}, 0, 0},
		{"one byte", put(State{}, 0, "a"), 1, 1},
		{"one byte that is far", put(State{}, 9, "a"), 10, 1},
		{"one part", put(State{}, 5, "abc"), 8, 3},
		{"three parts", put(State{}, 20, "abc", 2, "de", 10, "f"), 23, 6},
		{"bytes that came twice", put(State{}, 2, "abc", 3, "XYZ", 2, "VW"), 6, 4},
		{"all was read", read(7), 7, 0},
		{"all was read, and the end is there", ended(read(7), 7), 7, 0},
		{"all was read, and the end is farther", ended(read(7), 9), 9, 0},
		{"read, and a part behind that", put(read(7), 7, "a"), 8, 1},
		{"read, and parts that are far", put(read(7), 12, "ab", 9, "c"), 14, 3},
		{"the end alone, at 0", ended(State{}, 0), 0, 0},
		{"the end alone", ended(State{}, 6), 6, 0},
		{"the end behind the last part", ended(put(State{}, 1, "abc"), 6), 6, 3},
		{"the end one behind the last part", ended(put(State{}, 1, "abc"), 5), 5, 3},
		{"the end just at the last part's", ended(put(State{}, 1, "abc"), 4), 4, 3},
		{"the end alone, at the last place", ended(State{}, mostPlace), mostPlace, 0},
		{"a part that ends at the last place", put(State{}, 4, "a", uint64(mostPlace-2), "bc"), mostPlace, 3},
		{"a part that is read in part", func() State { s, _, _ := gather.Take(put(State{}, 0, "abcde", 8, "f"), 2); return s }(), 9, 4},
		{"an end that is not known is none", State{Final: 9}, 0, 0},
	} {
		if top := gather.Highest(x.s); top != x.top {
			t.Errorf("%s: Highest is %d, not %d", x.name, top, x.top)
		}
		if held := gather.Held(x.s); held != x.held {
			t.Errorf("%s: Held is %d, not %d", x.name, held, x.held)
		}
	}
}

// What was refused raises neither.
func TestHighestAndHeldOfWhatIsRefused(t *testing.T) {
	s := ended(put(State{}, 2, "abc"), 8)
	for _, off := range []uint64{6, mostPlace - 1, highest - 1} {
		out, e := gather.Put(s, off, "xyz", false)
		if e == api.OK || gather.Highest(out) != 8 || gather.Held(out) != 3 {
			t.Errorf("%d: error %d, %d, %d", off, e, gather.Highest(out), gather.Held(out))
		}
	}
}

// P14.2

func TestPutOfTheFirstBytes(t *testing.T) {
	for _, off := range []uint64{0, 1, 2, 100, 1 << 32, mostPlace - 3} {
		for _, data := range []string{"a", "ab", "abc", "\x00\xff\x80"} {
			checkPut(t, fmt.Sprintf("%q at %d", data, off), State{}, off, data, false, State{L: parts(off, data)})
		}
	}
	long := strings.Repeat("0123456789", 200)
	checkPut(t, "many", State{}, 7, long, false, State{L: parts(7, long)})
}

// Of four bytes that were read: what is put ahead of these, across their end, at it and behind it.
func TestPutBesideRead(t *testing.T) {
	s := read(4)
	checkState(t, "read", s, State{Read: 4})
	for _, x := range []struct {
		off  uint64
		data string
		want []Part
	}{
		{0, "A", nil},
		{0, "ABC", nil},
		{0, "ABCD", nil},
		{3, "A", nil},
		{1, "ABC", nil},
		{0, "ABCDE", parts(4, "E")},
		{0, "ABCDEFG", parts(4, "EFG")},
		{2, "ABC", parts(4, "C")},
		{3, "ABC", parts(4, "BC")},
		{4, "A", parts(4, "A")},
		{4, "ABC", parts(4, "ABC")},
		{5, "A", parts(5, "A")},
		{5, "ABC", parts(5, "ABC")},
		{99, "ABC", parts(99, "ABC")},
	} {
		name := fmt.Sprintf("%q at %d", x.data, x.off)
		out := checkPut(t, name, s, x.off, x.data, false, State{Read: 4, L: x.want})
		checkPut(t, name+", again", out, x.off, x.data, false, State{Read: 4, L: x.want})
		checkPut(t, name+", again, of other bytes", out, x.off, strings.Repeat("?", len(x.data)), false, State{Read: 4, L: x.want})
	}
}

// Of three parts: what is put beside one, between two, across them, and inside one; small letters are there already.
func TestPutBesideParts(t *testing.T) {
	s := put(read(2), 14, "f", 5, "abc", 10, "de")
	checkState(t, "three parts", s, State{Read: 2, L: parts(5, "abc", 10, "de", 14, "f")})
	for _, x := range []struct {
		name string
		off  uint64
		data string
		want []Part
	}{
		{"at Read, apart", 2, "AB", parts(2, "AB", 5, "abc", 10, "de", 14, "f")},
		{"up to the first part", 2, "ABC", parts(2, "ABCabc", 10, "de", 14, "f")},
		{"just ahead of the first part", 4, "A", parts(4, "Aabc", 10, "de", 14, "f")},
		{"ahead of the first part, and into it", 4, "ABC", parts(4, "Aabc", 10, "de", 14, "f")},
		{"ahead of the first part, and all of it", 3, "ABCDE", parts(3, "ABabc", 10, "de", 14, "f")},
		{"the first part's first byte", 5, "A", parts(5, "abc", 10, "de", 14, "f")},
		{"inside the first part", 6, "A", parts(5, "abc", 10, "de", 14, "f")},
		{"the first part's last byte", 7, "A", parts(5, "abc", 10, "de", 14, "f")},
		{"just the first part", 5, "ABC", parts(5, "abc", 10, "de", 14, "f")},
		{"out of the first part", 6, "ABC", parts(5, "abcC", 10, "de", 14, "f")},
		{"just behind the first part", 8, "A", parts(5, "abcA", 10, "de", 14, "f")},
		{"just between two parts", 8, "AB", parts(5, "abcABde", 14, "f")},
		{"just ahead of the second part", 9, "A", parts(5, "abc", 9, "Ade", 14, "f")},
		{"between two parts, and into both", 7, "ABCD", parts(5, "abcBCde", 14, "f")},
		{"one whole byte apart from both", 12, "A", parts(5, "abc", 10, "deA", 14, "f")},
		{"just between the last two", 12, "AB", parts(5, "abc", 10, "deABf")},
		{"across the first part", 4, "ABCDE", parts(4, "AabcE", 10, "de", 14, "f")},
		{"across the second part", 9, "ABCD", parts(5, "abc", 9, "AdeD", 14, "f")},
		{"across the last part", 13, "ABC", parts(5, "abc", 10, "de", 13, "AfC")},
		{"across the first two, apart from the last", 3, "ABCDEFGHIJ", parts(3, "ABabcFGdeJ", 14, "f")},
		{"across the first two, up to the last", 3, "ABCDEFGHIJK", parts(3, "ABabcFGdeJKf")},
		{"across all", 2, "ABCDEFGHIJKLMNO", parts(2, "ABCabcGHdeKLfNO")},
		{"across Read, and all", 0, "ABCDEFGHIJKLMNOP", parts(2, "CDEabcIJdeMNfP")},
		{"across Read, apart", 1, "ABC", parts(2, "BC", 5, "abc", 10, "de", 14, "f")},
		{"across Read, up to the first part", 0, "ABCDE", parts(2, "CDEabc", 10, "de", 14, "f")},
		{"ahead of Read", 0, "AB", parts(5, "abc", 10, "de", 14, "f")},
		{"just behind the last part", 15, "AB", parts(5, "abc", 10, "de", 14, "fAB")},
		{"out of the last part", 14, "ABC", parts(5, "abc", 10, "de", 14, "fBC")},
		{"behind the last part, apart", 16, "AB", parts(5, "abc", 10, "de", 14, "f", 16, "AB")},
		{"far behind", mostPlace - 2, "AB", parts(5, "abc", 10, "de", 14, "f", uint64(mostPlace-2), "AB")},
	} {
		out := checkPut(t, x.name, s, x.off, x.data, false, State{Read: 2, L: x.want})
		checkPut(t, x.name+", again", out, x.off, x.data, false, State{Read: 2, L: x.want})
		end := x.off + uint64(len(x.data))
		if end >= 15 {
			checkPut(t, x.name+", with the end", s, x.off, x.data, true, State{Read: 2, L: x.want, Final: end, Known: true})
		} else {
			checkRefused(t, x.name+", with the end", s, x.off, x.data, true, api.ErrFinal)
		}
	}
}

// Of a byte that came twice the first one stays, also where that is read ahead of the second one.
func TestAByteThatIsThereStays(t *testing.T) {
	s := put(State{}, 2, "ab", 0, "ABCDEF", 1, "??????")
	checkState(t, "three times", s, State{L: parts(0, "ABabEF?")})
	s = checkTake(t, "Take of 3", s, 3, "ABa", false, State{Read: 3, L: parts(3, "bEF?")})
	s = put(s, 0, "!!!!!!!!")
	checkTake(t, "Take of the rest", s, 9, "bEF?!", false, State{Read: 8})
}

func TestPutOfNoData(t *testing.T) {
	s := put(read(2), 5, "abc", 10, "de")
	for _, off := range []uint64{0, 1, 2, 3, 4, 5, 6, 8, 9, 10, 11, 12, 13, 99, mostPlace} {
		name := fmt.Sprint("nothing at ", off)
		checkPut(t, name+" of nothing", State{}, off, "", false, State{})
		checkPut(t, name, s, off, "", false, s)
		checkPut(t, name+" of nothing, with the end", State{}, off, "", true, State{Final: off, Known: true})
		if off < 12 {
			checkRefused(t, name+", with the end", s, off, "", true, api.ErrFinal)
		} else {
			checkPut(t, name+", with the end", s, off, "", true, State{Read: 2, L: s.L, Final: off, Known: true})
		}
	}
	checkRefused(t, "nothing above the last place", State{}, mostPlace+1, "", false, api.ErrArg)
	checkRefused(t, "nothing at the greatest number", s, highest, "", true, api.ErrArg)
}

// The end may be MaxVarint, no more; numbers whose sum goes round are above it, too.
func TestPutAtTheLastPlaces(t *testing.T) {
	s := put(read(2), 5, "abc")
	for _, fin := range []bool{false, true} {
		for n := range 6 {
			data := "ABCDEF"[:n]
			off := mostPlace - uint64(n)
			name := fmt.Sprintf("%d bytes, %v", n, fin)
			want := State{Read: 2, L: parts(5, "abc", off, data)}
			if n == 0 {
				want.L = parts(5, "abc")
			}
			if fin {
				want.Final, want.Known = mostPlace, true
			}
			out := checkPut(t, name, s, off, data, fin, want)
			for _, o := range []State{s, State{}, out} {
				checkRefused(t, name+", one above", o, off+1, data, fin, api.ErrArg)
				checkRefused(t, name+", two above", o, off+2, data, fin, api.ErrArg)
				checkRefused(t, name+", at 2^62", o, 1<<62, data, fin, api.ErrArg)
				checkRefused(t, name+", at 2^63", o, 1<<63, data, fin, api.ErrArg)
				for up := range uint64(8) {
					checkRefused(t, fmt.Sprint(name, ", below 2^64: ", up), o, highest-up, data, fin, api.ErrArg)
				}
			}
		}
	}
	long := strings.Repeat("x", 2000)
	checkPut(t, "many", State{}, mostPlace-2000, long, false, State{L: parts(uint64(mostPlace-2000), long)})
	checkRefused(t, "many, one above", State{}, mostPlace-1999, long, false, api.ErrArg)
	checkRefused(t, "many, that go round", State{}, highest-1000, long, false, api.ErrArg)
	checkRefused(t, "many, that go round to 0", State{}, highest-1999, long, true, api.ErrArg)
}

// Where the end is known, data may go up to it.
func TestPutBelowAKnownEnd(t *testing.T) {
	s := ended(put(read(2), 5, "abc"), 11)
	checkState(t, "with an end", s, State{Read: 2, L: parts(5, "abc"), Final: 11, Known: true})
	for _, x := range []struct {
		off  uint64
		data string
		want []Part
	}{
		{9, "A", parts(5, "abc", 9, "A")},
		{8, "AB", parts(5, "abcAB")},
		{10, "A", parts(5, "abc", 10, "A")},
		{8, "ABC", parts(5, "abcABC")},
		{0, "ABCDEFGHIJK", parts(2, "CDEabcIJK")},
		{10, "", parts(5, "abc")},
		{11, "", parts(5, "abc")},
		{0, "AB", parts(5, "abc")},
	} {
		name := fmt.Sprintf("%q at %d", x.data, x.off)
		want := State{Read: 2, L: x.want, Final: 11, Known: true}
		checkPut(t, name, s, x.off, x.data, false, want)
		if x.off+uint64(len(x.data)) == 11 {
			checkPut(t, name+", with the end", s, x.off, x.data, true, want)
		} else {
			checkRefused(t, name+", with the end", s, x.off, x.data, true, api.ErrFinal)
		}
	}
	for _, x := range []struct {
		off  uint64
		data string
	}{{11, "A"}, {10, "AB"}, {8, "ABCD"}, {0, "ABCDEFGHIJKL"}, {12, ""}, {12, "A"}, {99, "A"}, {mostPlace, ""}, {mostPlace - 1, "A"}} {
		name := fmt.Sprintf("%q at %d", x.data, x.off)
		checkRefused(t, name, s, x.off, x.data, false, api.ErrFinal)
		checkRefused(t, name+", with the end", s, x.off, x.data, true, api.ErrFinal)
	}
}

// An end of 0 is one, too: whether there is one is told by Known.
func TestPutWithAnEndOf0(t *testing.T) {
	s := checkPut(t, "nothing, with the end", State{}, 0, "", true, State{Known: true})
	checkPut(t, "again", s, 0, "", true, State{Known: true})
	checkPut(t, "again, without it", s, 0, "", false, State{Known: true})
	checkRefused(t, "a byte", s, 0, "A", false, api.ErrFinal)
	checkRefused(t, "a byte, with the end", s, 0, "A", true, api.ErrFinal)
	checkRefused(t, "nothing at 1", s, 1, "", false, api.ErrFinal)
	checkRefused(t, "nothing at 1, with the end", s, 1, "", true, api.ErrFinal)
}

// Where the end is not known, it may be Highest, or above, not below.
func TestPutWithTheEnd(t *testing.T) {
	for _, x := range []struct {
		name string
		s    State
		top  uint64
	}{
		{"nothing", State{}, 0},
		{"read", read(4), 4},
		{"a part", put(State{}, 3, "abc"), 6},
		{"read, and a part at that", put(read(4), 4, "ab"), 6},
		{"read, and two parts", put(read(4), 20, "ab", 6, "cd"), 22},
		{"a part that is far", put(State{}, uint64(mostPlace-9), "abc"), mostPlace - 6},
	} {
		for n := range 5 {
			data := "ABCD"[:n]
			for down := uint64(1); down <= 4 && down+uint64(n) <= x.top; down++ {
				checkRefused(t, fmt.Sprintf("%s: %d bytes, %d below", x.name, n, down), x.s, x.top-down-uint64(n), data, true, api.ErrFinal)
			}
			for up := range uint64(4) {
				if x.top+up < uint64(n) {
					continue
				}
				off := x.top + up - uint64(n)
				want, e := gather.Put(x.s, off, data, false)
				if e != api.OK {
					t.Errorf("%s: error %d", x.name, e)
				}
				want.Final, want.Known = x.top+up, true
				name := fmt.Sprintf("%s: %d bytes, %d above", x.name, n, up)
				out := checkPut(t, name, x.s, off, data, true, want)
				checkTwice(t, name, out)
			}
		}
	}
}

// checkTwice tells whether the end of s may be told again, and no other one.
func checkTwice(t *testing.T, name string, s State) {
	t.Helper()
	checkPut(t, name+", again", s, s.Final, "", true, s)
	if s.Final > 0 {
		checkRefused(t, name+", and one lower", s, s.Final-1, "", true, api.ErrFinal)
		full, e := gather.Put(s, s.Final-1, "Z", true)
		if e != api.OK || full.Final != s.Final || !full.Known || gather.Highest(full) != s.Final {
			t.Errorf("%s, again with a byte: error %d, %+v", name, e, full)
		}
	}
	checkRefused(t, name+", and one higher", s, s.Final+1, "", true, api.ErrFinal)
	checkRefused(t, name+", and a byte behind it", s, s.Final, "Z", false, api.ErrFinal)
	checkRefused(t, name+", and a byte behind it, with the end", s, s.Final, "Z", true, api.ErrFinal)
}

// Where ErrArg and ErrFinal both apply, it is ErrArg.
func TestWhichErrorIsFirst(t *testing.T) {
	known := ended(put(State{}, 3, "abc"), 9)
	for _, s := range []State{known, put(State{}, uint64(mostPlace-3), "abc"), ended(State{}, mostPlace), ended(State{}, 0)} {
		for _, fin := range []bool{false, true} {
			checkRefused(t, "one above the last place", s, mostPlace, "A", fin, api.ErrArg)
			checkRefused(t, "nothing above the last place", s, mostPlace+1, "", fin, api.ErrArg)
			checkRefused(t, "round to 0", s, highest, "A", fin, api.ErrArg)
			checkRefused(t, "round to 4", s, highest-1, "ABCDEF", fin, api.ErrArg)
		}
	}
	checkRefused(t, "at the last place", known, mostPlace-1, "A", false, api.ErrFinal)
}

func TestSet(t *testing.T) {
	for _, x := range []struct {
		name  string
		s     State
		final uint64
		want  api.Errno
	}{
		{"0 of nothing", State{}, 0, api.OK},
		{"5 of nothing", State{}, 5, api.OK},
		{"the last place of nothing", State{}, mostPlace, api.OK},
		{"above the last place", State{}, mostPlace + 1, api.ErrArg},
		{"the greatest number", State{}, highest, api.ErrArg},
		{"just below Read", read(4), 3, api.ErrFinal},
		{"0 below Read", read(4), 0, api.ErrFinal},
		{"Read", read(4), 4, api.OK},
		{"just above Read", read(4), 5, api.OK},
		{"just below where the last part ends", put(read(4), 6, "abc", 11, "d"), 11, api.ErrFinal},
		{"where the first part ends", put(read(4), 6, "abc", 11, "d"), 9, api.ErrFinal},
		{"where the last part ends", put(read(4), 6, "abc", 11, "d"), 12, api.OK},
		{"just above where the last part ends", put(read(4), 6, "abc", 11, "d"), 13, api.OK},
		{"the last place", put(read(4), 6, "abc", 11, "d"), mostPlace, api.OK},
		{"above the last place, with parts", put(read(4), 6, "abc"), mostPlace + 1, api.ErrArg},
		{"the same one again", ended(put(read(4), 6, "abc"), 12), 12, api.OK},
		{"a lower one", ended(put(read(4), 6, "abc"), 12), 11, api.ErrFinal},
		{"a lower one, where the last part ends", ended(put(read(4), 6, "abc"), 12), 9, api.ErrFinal},
		{"a higher one", ended(put(read(4), 6, "abc"), 12), 13, api.ErrFinal},
		{"above the last place, with another end", ended(put(read(4), 6, "abc"), 12), mostPlace + 1, api.ErrArg},
		{"the greatest number, with another end", ended(State{}, mostPlace), highest, api.ErrArg},
		{"0 again", ended(State{}, 0), 0, api.OK},
		{"1 behind 0", ended(State{}, 0), 1, api.ErrFinal},
	} {
		before := copied(x.s)
		want := copied(x.s)
		if x.want == api.OK {
			want.Final, want.Known = x.final, true
		}
		out, e := gather.Set(x.s, x.final)
		if e != x.want {
			t.Errorf("%s: error %d, not %d", x.name, e, x.want)
		}
		checkState(t, x.name, out, want)
		checkState(t, x.name+", handed in", x.s, before)
		likewise, e := gather.Put(x.s, x.final, "", true)
		if e != x.want || !same(likewise, out) {
			t.Errorf("%s: Put of no data: error %d, %+v", x.name, e, likewise)
		}
	}
}

// P14.3

func TestReady(t *testing.T) {
	for _, x := range []struct {
		name string
		s    State
		n    int
		all  bool
	}{
		{"nothing", State{}, 0, false},
		{"a list of no parts", State{L: []Part{}}, 0, false},
		{"nothing, and that is all", ended(State{}, 0), 0, true},
		{"nothing, of one byte", ended(State{}, 1), 0, false},
		{"one part", put(State{}, 0, "abc"), 3, false},
		{"one part, and that is all", ended(put(State{}, 0, "abc"), 3), 3, true},
		{"one part, of one byte more", ended(put(State{}, 0, "abc"), 4), 3, false},
		{"a gap, and one part", put(State{}, 1, "abc"), 0, false},
		{"a gap, and one part, that is the last", ended(put(State{}, 1, "abc"), 4), 0, false},
		{"a gap of the length of what is behind it", ended(put(State{}, 3, "abc"), 6), 0, false},
		{"two parts with a gap", put(State{}, 0, "abc", 4, "de"), 3, false},
		{"two parts with a gap, of which the last one is the last", ended(put(State{}, 0, "abc", 4, "de"), 6), 3, false},
		{"two parts without a gap", put(State{}, 0, "abc", 3, "de"), 5, false},
		{"two parts, and that is all", ended(put(State{}, 3, "de", 0, "abc"), 5), 5, true},
		{"all was read so far", read(4), 0, false},
		{"all was read", ended(read(4), 4), 0, true},
		{"all but one was read", ended(read(4), 5), 0, false},
		{"the last one is there", put(ended(read(4), 5), 4, "a"), 1, true},
		{"the last but one is there", put(ended(read(4), 6), 4, "a"), 1, false},
		{"the last one is there, with a gap ahead", put(ended(read(4), 6), 5, "a"), 0, false},
		{"read, and a part at that", put(read(4), 4, "abc", 9, "d"), 3, false},
		{"read, and a gap", put(read(4), 5, "abc"), 0, false},
		{"the end is not known, though Final is there", State{Read: 4, Final: 4}, 0, false},
		{"the end is not known, though Final is ready", State{L: parts(0, "abc"), Final: 3}, 3, false},
	} {
		before := copied(x.s)
		if n, all := gather.Ready(x.s); n != x.n || all != x.all {
			t.Errorf("%s: %d, %v, not %d, %v", x.name, n, all, x.n, x.all)
		}
		checkState(t, x.name, x.s, before)
	}
}

func TestTake(t *testing.T) {
	gap := put(State{}, 0, "abcde", 7, "fg")
	for _, n := range []int{math.MinInt, -1000, -1, 0} {
		name := fmt.Sprint("Take of ", n)
		checkTake(t, name, gap, n, "", false, gap)
		checkTake(t, name+", of nothing", State{}, n, "", false, State{})
		checkTake(t, name+", with an end", ended(gap, 9), n, "", false, ended(gap, 9))
		checkTake(t, name+", with an end that is read", ended(read(4), 4), n, "", true, State{Read: 4, Final: 4, Known: true})
		checkTake(t, name+", with all there", ended(put(State{}, 0, "abc"), 3), n, "", false, State{L: parts(0, "abc"), Final: 3, Known: true})
	}
	for n := 1; n < 5; n++ {
		want := State{Read: uint64(n), L: parts(n, "abcde"[n:], 7, "fg")}
		checkTake(t, fmt.Sprint("fewer than are there: ", n), gap, n, "abcde"[:n], false, want)
	}
	for _, n := range []int{5, 6, 7, 9, 1000, math.MaxInt} {
		name := fmt.Sprint("all that are there: ", n)
		checkTake(t, name, gap, n, "abcde", false, State{Read: 5, L: parts(7, "fg")})
		checkTake(t, name+", with an end", ended(gap, 9), n, "abcde", false, State{Read: 5, L: parts(7, "fg"), Final: 9, Known: true})
		checkTake(t, name+", alone", put(State{}, 0, "abcde"), n, "abcde", false, State{Read: 5})
		checkTake(t, name+", and that is all", ended(put(State{}, 0, "abcde"), 5), n, "abcde", true, State{Read: 5, Final: 5, Known: true})
		checkTake(t, name+", all but one", ended(put(State{}, 0, "abcde"), 6), n, "abcde", false, State{Read: 5, Final: 6, Known: true})
	}
}

// With a gap at Read nothing can be taken.
func TestTakeOfNothing(t *testing.T) {
	for _, n := range []int{-1, 0, 1, 3, math.MaxInt} {
		name := fmt.Sprint("Take of ", n)
		checkTake(t, name+" of nothing", State{}, n, "", false, State{})
		checkTake(t, name+" of a list of no parts", State{L: []Part{}}, n, "", false, State{})
		checkTake(t, name+" of nothing, and that is all", ended(State{}, 0), n, "", true, State{Known: true})
		checkTake(t, name+" of nothing, of one byte", ended(State{}, 1), n, "", false, State{Final: 1, Known: true})
		checkTake(t, name+" at a gap", put(State{}, 1, "abc"), n, "", false, State{L: parts(1, "abc")})
		checkTake(t, name+" at a gap behind what was read", put(read(4), 5, "abc"), n, "", false, State{Read: 4, L: parts(5, "abc")})
		checkTake(t, name+" at a gap, with the end", ended(put(read(4), 5, "abc"), 8), n, "", false, State{Read: 4, L: parts(5, "abc"), Final: 8, Known: true})
		checkTake(t, name+" behind the end", ended(read(4), 4), n, "", true, State{Read: 4, Final: 4, Known: true})
	}
}

func TestTakeOfTheLastByte(t *testing.T) {
	s := put(State{}, 0, "abc")
	s = checkTake(t, "not known: the first two", s, 2, "ab", false, State{Read: 2, L: parts(2, "c")})
	checkTake(t, "not known: the last one", s, 1, "c", false, State{Read: 3})
	s = ended(s, 3)
	s = checkTake(t, "known: none", s, 0, "", false, State{Read: 2, L: parts(2, "c"), Final: 3, Known: true})
	s = checkTake(t, "known: the last one", s, 1, "c", true, State{Read: 3, Final: 3, Known: true})
	checkTake(t, "known: none behind it", s, 1, "", true, State{Read: 3, Final: 3, Known: true})
	// The end comes alone, when all was read.
	s = checkPut(t, "the end alone", read(3), 3, "", true, State{Read: 3, Final: 3, Known: true})
	checkTake(t, "behind the end alone", s, 5, "", true, State{Read: 3, Final: 3, Known: true})
}

// A gap that is filled ends where the next part does.
func TestTakeAcrossAGapThatIsFilled(t *testing.T) {
	s := put(State{}, 0, "ab", 4, "ef", 8, "ij")
	s = checkTake(t, "ahead of the gap", s, 9, "ab", false, State{Read: 2, L: parts(4, "ef", 8, "ij")})
	s = put(s, 1, "bcd")
	s = checkTake(t, "across it", s, 3, "cde", false, State{Read: 5, L: parts(5, "f", 8, "ij")})
	s = put(s, 7, "h")
	s = checkTake(t, "up to the next one", s, 9, "f", false, State{Read: 6, L: parts(7, "hij")})
	s = checkPut(t, "the last ones", s, 6, "gHIJk", true, State{Read: 6, L: parts(6, "ghijk"), Final: 11, Known: true})
	checkTake(t, "all", s, 9, "ghijk", true, State{Read: 11, Final: 11, Known: true})
}

// P14.4

// book is a second reckoning: each byte by itself, from base on, below which none is put.
type book struct {
	base  uint64
	there []int // a byte, or -1
	read  uint64
	taken string
	final uint64
	known bool
}

func newBook(base uint64) *book { return &book{base: base} }

// reach sees to it that there is room for so many bytes.
func (b *book) reach(n uint64) {
	for uint64(len(b.there)) < n {
		b.there = append(b.there, -1)
	}
}

// top tells the place behind the last byte that is known of.
func (b *book) top() uint64 {
	top := b.read
	for i, x := range b.there {
		if at := b.base + uint64(i); x >= 0 && at >= b.read {
			top = max(top, at+1)
		}
	}
	if b.known {
		top = max(top, b.final)
	}
	return top
}

func (b *book) put(off uint64, data string, fin bool) api.Errno {
	n := uint64(len(data))
	if off > mostPlace || mostPlace-off < n {
		return api.ErrArg
	}
	end := off + n
	switch {
	case b.known && end > b.final, fin && b.known && end != b.final, fin && end < b.top():
		return api.ErrFinal
	}
	if n > 0 {
		b.reach(end - b.base)
	}
	for i := range n {
		at := off + i
		if x := &b.there[at-b.base]; at >= b.read && *x < 0 {
			*x = int(data[i])
		}
	}
	if fin {
		b.final, b.known = end, true
	}
	return api.OK
}

// ready tells the bytes from Read on, up to one that is not there.
func (b *book) ready() string {
	var out []byte
	for i := b.read - b.base; b.read >= b.base && i < uint64(len(b.there)) && b.there[i] >= 0; i++ {
		out = append(out, byte(b.there[i]))
	}
	return string(out)
}

func (b *book) take(n int) (string, bool) {
	data := b.ready()
	if n < len(data) {
		data = data[:max(n, 0)]
	}
	b.read += uint64(len(data))
	b.taken += data
	return data, b.known && b.read == b.final
}

// state tells the state that has these bytes, in runs.
func (b *book) state() State {
	s := State{Read: b.read, Final: b.final, Known: b.known}
	gap := true
	for i, x := range b.there {
		at := b.base + uint64(i)
		if x < 0 || at < b.read {
			gap = true
			continue
		}
		if gap {
			s.L = append(s.L, Part{Off: at})
		}
		s.L[len(s.L)-1].Data += string([]byte{byte(x)})
		gap = false
	}
	return s
}

// copied tells the same book in memory of its own.
func (b *book) copied() *book {
	out := *b
	out.there = slices.Clone(b.there)
	return &out
}

// disagree tells what is told of s otherwise than the book has it; "" for nothing.
func (b *book) disagree(s State) string {
	want := b.state()
	if !same(s, want) || !may(s) {
		return fmt.Sprintf("%+v, not %+v", s, want)
	}
	held := 0
	for _, p := range want.L {
		held += len(p.Data)
	}
	data := b.ready()
	n, all := gather.Ready(s)
	if n != len(data) || all != (b.known && b.read+uint64(len(data)) == b.final) {
		return fmt.Sprintf("Ready of %+v: %d, %v", s, n, all)
	}
	if got := gather.Held(s); got != held {
		return fmt.Sprintf("Held of %+v: %d", s, got)
	}
	if top := gather.Highest(s); top != b.top() {
		return fmt.Sprintf("Highest of %+v: %d, not %d", s, top, b.top())
	}
	return ""
}

// step is one call, of a state and of a book; it tells the state, and how the two answers differ, "" if they do not.
type step func(s State, b *book) (State, string)

func putStep(off uint64, data string, fin bool) step {
	return func(s State, b *book) (State, string) {
		out, e := gather.Put(s, off, data, fin)
		if want := b.put(off, data, fin); e != want {
			return out, fmt.Sprintf("Put of %q at %d, %v, of %+v: error %d, not %d", data, off, fin, s, e, want)
		}
		return out, b.disagree(out)
	}
}

func setStep(final uint64) step {
	return func(s State, b *book) (State, string) {
		out, e := gather.Set(s, final)
		if want := b.put(final, "", true); e != want {
			return out, fmt.Sprintf("Set of %d, of %+v: error %d, not %d", final, s, e, want)
		}
		return out, b.disagree(out)
	}
}

func takeStep(n int) step {
	return func(s State, b *book) (State, string) {
		out, data, all := gather.Take(s, n)
		if want, is := b.take(n); data != want || all != is {
			return out, fmt.Sprintf("Take of %d, of %+v: %q, %v, not %q, %v", n, s, data, all, want, is)
		}
		return out, b.disagree(out)
	}
}

// dice tells numbers by a fixed rule; each seed has its own.
type dice struct{ x uint64 }

func newDice(seed uint64) *dice { return &dice{seed*0x9e3779b97f4a7c15 + 1} }

// below tells a number below n.
func (d *dice) below(n int) int {
	d.x = d.x*6364136223846793005 + 1442695040888963407
	return int(d.x >> 33 % uint64(n))
}

// text tells n bytes of any value.
func (d *dice) text(n int) string {
	out := make([]byte, n)
	for i := range out {
		out[i] = byte(d.below(256))
	}
	return string(out)
}

// step tells a call of places from lo on, of which there are so many, and of so many bytes at most; some are those that are read next.
func (d *dice) step(s State, lo uint64, spread, long int) step {
	off, data, fin := lo+uint64(d.below(spread)), d.text(d.below(long+1)), d.below(30) == 0
	switch d.below(12) {
	case 0:
		if d.below(4) > 0 {
			return putStep(off, "", false)
		}
		return setStep(off + uint64(len(data)))
	case 1, 2, 3:
		return takeStep(d.below(2*long) - 1)
	case 4, 5:
		if s.Read >= lo {
			off = s.Read
		}
	}
	return putStep(off, data, fin)
}

// Strewn calls, of few places and of many, from 0 on and up to the last place and beyond it.
func TestPlaysByASecondReckoning(t *testing.T) {
	for _, x := range []struct{ spread, long int }{{4, 2}, {8, 4}, {20, 3}, {20, 12}, {60, 5}, {60, 30}, {200, 20}} {
		taken, ended, held := 0, 0, 0
		for seed := range uint64(60) {
			for _, lo := range []uint64{0, 1 << 40, mostPlace - uint64(x.spread)} {
				d, s, b := newDice(seed), State{}, newBook(lo)
				for range 80 {
					var fault string
					if s, fault = d.step(s, lo, x.spread, x.long)(s, b); fault != "" {
						t.Fatalf("below %d, seed %d: %s", x.spread, seed, fault)
					}
					held += len(s.L)
				}
				taken += len(b.taken)
				if s.Known && s.Read == s.Final {
					ended++
				}
			}
		}
		if taken < 60*x.spread/4 || ended == 0 || held < 60*80 {
			t.Errorf("below %d: %d taken, %d at their end, %d parts", x.spread, taken, ended, held)
		}
	}
}

// smallSteps are all calls of places below 5 and of two bytes at most, of this letter.
func smallSteps(letter string) []step {
	var out []step
	for off := range uint64(5) {
		for n := range 3 {
			for _, fin := range []bool{false, true} {
				out = append(out, putStep(off, strings.Repeat(letter, n), fin))
			}
		}
	}
	for final := range uint64(7) {
		out = append(out, setStep(final))
	}
	for n := -1; n < 4; n++ {
		out = append(out, takeStep(n))
	}
	return out
}

// All small states that three such calls lead to, and all answers of one call more.
func TestSmallStatesByASecondReckoning(t *testing.T) {
	var play func(s State, b *book, letters string)
	play = func(s State, b *book, letters string) {
		if letters == "" {
			return
		}
		for _, step := range smallSteps(letters[:1]) {
			now := b.copied()
			out, fault := step(s, now)
			if fault != "" {
				t.Fatal(fault)
			}
			// A call that changes nothing leads to no other state.
			if len(letters) < 4 && same(out, s) {
				continue
			}
			play(out, now, letters[1:])
		}
	}
	play(State{}, newBook(0), "abcd")
}

// Of each state of six places, whose bytes are there or not: all that Put can be handed.
func TestEachFormByASecondReckoning(t *testing.T) {
	for form := range 1 << 6 {
		for read := range 3 {
			s, b := State{}, newBook(0)
			for _, step := range formSteps(form, read) {
				var fault string
				if s, fault = step(s, b); fault != "" {
					t.Fatal(fault)
				}
			}
			for off := range uint64(11) {
				for n := range 11 {
					for _, fin := range []bool{false, true} {
						if _, fault := putStep(off, "ABCDEFGHIJ"[:n], fin)(s, b.copied()); fault != "" {
							t.Fatal(fault)
						}
					}
				}
			}
		}
	}
}

// formSteps lead to a state with so many bytes read, and with those behind them whose bits form has.
func formSteps(form, read int) []step {
	out := []step{putStep(0, "rrr"[:read], false), takeStep(read)}
	for i := range 6 {
		if form>>i&1 != 0 {
			out = append(out, putStep(uint64(read+i), "abcdef"[i:i+1], false))
		}
	}
	return out
}

// orders calls with all orders of the numbers below n.
func orders(n int, with func([]int)) {
	var add func(l []int)
	add = func(l []int) {
		if len(l) == n {
			with(l)
			return
		}
		for i := range n {
			if !slices.Contains(l, i) {
				add(append(slices.Clone(l), i))
			}
		}
	}
	add(nil)
}

// What is taken is the stream, in whatever order its parts came, whether it is taken on the way or at the end.
func TestAllOrders(t *testing.T) {
	stream := "the stream from its beginning on"
	for _, cuts := range [][]int{{0, 32}, {0, 9, 32}, {0, 1, 10, 31, 32}, {0, 5, 11, 16, 20, 32}, {0, 3, 4, 10, 11, 19, 20, 32}} {
		orders(len(cuts)-1, func(l []int) {
			for _, n := range []int{0, 1, 7, 99} {
				s, taken := State{}, ""
				for _, i := range l {
					var e api.Errno
					if s, e = gather.Put(s, uint64(cuts[i]), stream[cuts[i]:cuts[i+1]], cuts[i+1] == 32); e != api.OK || !may(s) {
						t.Fatalf("%v: error %d, %+v", l, e, s)
					}
					taken += drain(t, &s, stream[len(taken):], n)
				}
				taken += drain(t, &s, stream[len(taken):], 5)
				want := State{Read: 32, Final: 32, Known: true}
				if taken != stream || !same(s, want) {
					t.Fatalf("%v: %q, %+v", l, taken, s)
				}
			}
		})
	}
}

// drain takes n bytes at a time, until there are none (or n is 0), and tells them; left is all that there will be.
func drain(t *testing.T, s *State, left string, n int) string {
	t.Helper()
	taken := ""
	for n > 0 {
		ready, last := gather.Ready(*s)
		out, data, all := gather.Take(*s, n)
		*s = out
		taken += data
		if !strings.HasPrefix(left, taken) || len(data) != min(ready, n) {
			t.Fatalf("%q of %q: %q", taken, left, data)
		}
		if all != (taken == left && s.Known) || last != (s.Known && len(taken)-len(data)+ready == len(left)) {
			t.Fatalf("%q of %q: %v, %v", taken, left, last, all)
		}
		if data == "" {
			break
		}
	}
	return taken
}

// A stream that comes in strewn pieces, many of them more than once, is told all the same.
func TestAStreamInPieces(t *testing.T) {
	for seed := range uint64(100) {
		d := newDice(seed)
		stream := d.text(1 + d.below(2000))
		s, taken, ended := State{}, "", false
		for round := 0; !ended; round++ {
			if round > 10000 {
				t.Fatalf("seed %d: %d bytes of %d", seed, len(taken), len(stream))
			}
			from := d.below(len(stream) + 1)
			// From time to time the piece that is missed comes again.
			if d.below(6) == 0 {
				from = max(len(taken)-d.below(20), 0)
			}
			to := from + d.below(min(len(stream)-from, 90)+1)
			var e api.Errno
			if s, e = gather.Put(s, uint64(from), stream[from:to], to == len(stream)); e != api.OK || !may(s) {
				t.Fatalf("seed %d: error %d, %+v", seed, e, s)
			}
			var data string
			s, data, ended = gather.Take(s, d.below(120)-10)
			taken += data
		}
		if taken != stream || s.Read != uint64(len(stream)) || gather.Held(s) != 0 {
			t.Errorf("seed %d: %q, not %q", seed, taken, stream)
		}
	}
}

// Many parts of one byte, and one piece that fills all gaps.
func TestManyParts(t *testing.T) {
	s, b := State{}, newBook(0)
	for i := range uint64(400) {
		var fault string
		if s, fault = putStep(2*(i*77%400)+1, "x", false)(s, b); fault != "" {
			t.Fatal(fault)
		}
	}
	if len(s.L) != 400 || gather.Held(s) != 400 || gather.Highest(s) != 800 {
		t.Fatalf("%d parts, %d bytes, up to %d", len(s.L), gather.Held(s), gather.Highest(s))
	}
	s = checkPut(t, "one piece", s, 0, strings.Repeat("-", 900), true, State{L: parts(0, strings.Repeat("-x", 400)+strings.Repeat("-", 100)), Final: 900, Known: true})
	checkTake(t, "all", s, 900, strings.Repeat("-x", 400)+strings.Repeat("-", 100), true, State{Read: 900, Final: 900, Known: true})
}

// Rules

// R3, R4

// roomy tells a state whose L has room behind it.
func roomy(s State) State {
	s.L = append(make([]Part, 0, len(s.L)+9), s.L...)
	return s
}

// whole tells all that is in a list, also behind it.
func whole(l []Part) []Part {
	return slices.Clone(l[:cap(l)])
}

// scribble writes over a list, also behind it.
func scribble(l []Part) {
	l = l[:cap(l)]
	for i := range l {
		l[i] = Part{Off: 77, Data: "scribble"}
	}
}

// calls are some of each: of data that is laid beside parts, across them and nowhere, of errors, and of bytes that are taken.
func calls() map[string]func(s State) State {
	out := map[string]func(s State) State{}
	for _, p := range parts(0, "", 0, "AB", 2, "A", 3, "AB", 4, "ABCD", 9, "A", 9, "", 20, "A", 0, "ABCDEFGHIJKLMNOP", uint64(mostPlace), "A") {
		for _, fin := range []bool{false, true} {
			out[fmt.Sprintf("Put of %q at %d, %v", p.Data, p.Off, fin)] = func(s State) State { s, _ = gather.Put(s, p.Off, p.Data, fin); return s }
		}
	}
	for _, final := range []uint64{0, 6, 12, 16, 20, mostPlace, mostPlace + 1} {
		out[fmt.Sprint("Set of ", final)] = func(s State) State { s, _ = gather.Set(s, final); return s }
	}
	for _, n := range []int{-1, 0, 1, 2, 3, 99} {
		out[fmt.Sprint("Take of ", n)] = func(s State) State { s, _, _ = gather.Take(s, n); return s }
	}
	return out
}

func TestWhatIsHandedInStays(t *testing.T) {
	for _, first := range []State{
		{},
		{L: []Part{}},
		read(2),
		put(State{}, 0, "ab"),
		put(read(2), 2, "ab"),
		put(read(2), 2, "ab", 7, "cd", 11, "e"),
		put(read(2), 3, "ab", 7, "cd", 11, "e"),
		ended(put(read(2), 2, "ab", 7, "cd", 11, "e"), 12),
		ended(put(read(2), 2, "ab", 7, "cd", 11, "e"), 16),
	} {
		for name, call := range calls() {
			name = fmt.Sprintf("%s, of %+v", name, first)
			s := roomy(first)
			before := whole(s.L)
			out := call(s)
			after := copied(out)
			checkState(t, name, s, first)
			if !slices.Equal(whole(s.L), before) {
				t.Errorf("%s: %v, not %v", name, whole(s.L), before)
			}
			// Writing over what was answered changes nothing.
			scribble(out.L)
			if !slices.Equal(whole(s.L), before) {
				t.Errorf("%s, written over: %v, not %v", name, whole(s.L), before)
			}
			again := call(s)
			checkState(t, name+", again", again, after)
			// Nor does writing over what was handed in.
			scribble(s.L)
			checkState(t, name+", of a state written over", again, after)
		}
	}
}

// Two that go on from one state do not meet.
func TestTwoOfOneState(t *testing.T) {
	s := roomy(put(State{}, 0, "ab", 5, "cd"))
	one := put(s, 2, "A", 9, "B")
	two := put(s, 1, "UVWXYZ")
	three, data, _ := gather.Take(s, 1)
	four, all, _ := gather.Take(s, 9)
	checkState(t, "one", one, State{L: parts(0, "abA", 5, "cd", 9, "B")})
	checkState(t, "two", two, State{L: parts(0, "abVWXcd")})
	checkState(t, "three", three, State{Read: 1, L: parts(1, "b", 5, "cd")})
	checkState(t, "four", four, State{Read: 2, L: parts(5, "cd")})
	checkState(t, "all are of", s, State{L: parts(0, "ab", 5, "cd")})
	if data != "a" || all != "ab" {
		t.Errorf("%q, %q", data, all)
	}
}

// R6: a list of no parts is like none.
func TestAListOfNoParts(t *testing.T) {
	for name, call := range calls() {
		checkState(t, name, call(State{L: []Part{}}), call(State{}))
	}
}

// R1: of odd states nothing is said, but all calls end.
func TestOddThingsEnd(t *testing.T) {
	ends := []uint64{0, 1, 3, 5, 9, 1 << 40, mostPlace - 1, mostPlace, mostPlace + 1, 1 << 63, highest - 2, highest - 1, highest}
	lists := [][]Part{
		nil, parts(0, ""), parts(5, ""), parts(3, "abc", 3, "xyz"), parts(3, "abc", 4, "xyz"), parts(9, "abc", 3, "xyz"), parts(3, "", 3, "abc", 6, ""),
		parts(3, "abc", 6, "def"), parts(uint64(highest), "abc"), parts(uint64(highest-2), "abc", 0, "xyz"), parts(uint64(mostPlace), "abc"), parts(5, "", 1, "a", uint64(highest), "", 2, "b", 0, "cde"),
	}
	for _, l := range lists {
		for _, at := range ends {
			for _, final := range ends {
				s := State{Read: at, L: l, Final: final, Known: final%2 == 0}
				gather.Ready(s)
				gather.Highest(s)
				gather.Held(s)
				for _, off := range ends {
					gather.Put(s, off, "", final%3 == 0)
					gather.Put(s, off, "ABCDEFGH", at%2 == 0)
					gather.Set(s, off)
				}
				for _, n := range []int{math.MinInt, -1, 0, 1, 2, 5, math.MaxInt} {
					gather.Take(s, n)
				}
			}
		}
	}
}

// R5
func TestManyCallsAtOnce(t *testing.T) {
	shared := put(read(2), 2, "ab", 7, "cd", 11, "e")
	var all sync.WaitGroup
	for seed := range uint64(16) {
		all.Go(func() {
			d, s, b := newDice(seed), State{}, newBook(0)
			for range 60 {
				var fault string
				if s, fault = d.step(s, 0, 40, 8)(s, b); fault != "" {
					t.Error(seed, fault)
					return
				}
				for _, call := range calls() {
					call(shared)
				}
			}
		})
	}
	all.Wait()
	checkState(t, "what all call of", shared, State{Read: 2, L: parts(2, "ab", 7, "cd", 11, "e")})
}
