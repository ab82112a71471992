package sendq_test

import (
	"fmt"
	"math"
	"slices"
	"strings"
	"sync"
	"testing"

	"domino/ranges"
	"domino/sendq"
)

type (
	State = sendq.State
	Set   = ranges.Set
)

const (
	mostPlace = 1<<62 - 1
	mostBytes = 1 << 20
	highest   = math.MaxUint64
	room      = 4096
)

// set tells a set by where its ranges begin and end: lo, hi, lo, hi ..
func set(l ...uint64) Set {
	var out Set
	for i := 0; i < len(l); i += 2 {
		out = append(out, ranges.Range{Lo: l[i], Hi: l[i+1]})
	}
	return out
}

// same tells whether all fields are alike; sets without ranges are, and nil ones.
func same(a, b State) bool {
	return a.Base == b.Base && a.Top == b.Top && a.Data == b.Data && slices.Equal(a.Acked, b.Acked) && slices.Equal(a.Todo, b.Todo) &&
		a.Fin == b.Fin && a.FinTodo == b.FinTodo && a.FinAcked == b.FinAcked
}

func checkState(t *testing.T, name string, s, want State) {
	t.Helper()
	if !same(s, want) {
		t.Errorf("%s: %+v, not %+v", name, s, want)
	}
	if !may(s) {
		t.Errorf("%s: %+v is no state", name, s)
	}
}

// inside tells whether s is a set of places of Base at least, and below End.
func inside(s Set, base, end uint64) bool {
	return ranges.May(s) && (len(s) == 0 || s[0].Lo >= base && s[len(s)-1].Hi < end)
}

// may tells whether the parts of s are such as calls lead to.
func may(s State) bool {
	end := s.Base + uint64(len(s.Data))
	return inside(s.Acked, s.Base, end) && inside(s.Todo, s.Base, end) && len(ranges.Meet(s.Acked, s.Todo)) == 0 &&
		!ranges.Has(s.Acked, s.Base) && s.Top <= end && (s.Fin || !s.FinTodo && !s.FinAcked) && !(s.FinTodo && s.FinAcked)
}

// told is what Next tells.
type told struct {
	off     uint64
	data    string
	fin, is bool
}

func next(s State, most int, credit uint64) told {
	off, data, fin, is := sendq.Next(s, most, credit)
	return told{off, data, fin, is}
}

func checkNext(t *testing.T, name string, s State, most int, credit uint64, want told) {
	t.Helper()
	if got := next(s, most, credit); got != want {
		t.Errorf("%s: Next of %d, credit %d, of %+v is %v, not %v", name, most, credit, s, got, want)
	}
}

// with tells s when data was written, which has to be taken whole.
func with(s State, data string) State {
	s, n := sendq.Write(s, data, mostBytes)
	if n != len(data) {
		panic(fmt.Sprint("Write: ", n))
	}
	return s
}

// fresh tells the state of bytes of which none was sent.
func fresh(data string) State {
	return with(State{}, data)
}

// sent tells the state of bytes that were all sent.
func sent(data string) State {
	return sendq.Sent(fresh(data), 0, len(data), false)
}

// copied tells the same state in memory of its own.
func copied(s State) State {
	s.Acked, s.Todo = slices.Clone(s.Acked), slices.Clone(s.Todo)
	return s
}

// The chapter's example.
func TestTheExample(t *testing.T) {
	s, n := sendq.Write(State{}, "abc", room)
	if n != 3 {
		t.Errorf("Write: %d", n)
	}
	s = sendq.Finish(s)
	checkState(t, "written", s, State{Data: "abc", Todo: set(0, 2), Fin: true, FinTodo: true})
	checkNext(t, "written", s, 2, 9, told{0, "ab", false, true})
}

// P15.1

func TestEnd(t *testing.T) {
	s := fresh("abcdefghij")
	for _, x := range []struct {
		name string
		s    State
		end  uint64
	}{
		{"nothing", State{}, 0},
		{"the end alone", sendq.Finish(State{}), 0},
		{"one byte", fresh("a"), 1},
		{"three bytes", fresh("abc"), 3},
		{"bytes of no letters", fresh("\x00\xff\x80"), 3},
		{"written twice", with(fresh("abc"), "de"), 5},
		{"ten bytes", s, 10},
		{"sent", sendq.Sent(s, 0, 10, false), 10},
		{"sent beyond it", sendq.Sent(s, 0, 99, false), 10},
		{"lost beyond it", sendq.Lost(s, 0, 99, false), 10},
		{"acknowledged in the midst", sendq.Acked(s, 3, 4, false), 10},
		{"acknowledged from the beginning on", sendq.Acked(s, 0, 4, false), 10},
		{"acknowledged at its end", sendq.Acked(s, 8, 99, false), 10},
		{"all acknowledged", sendq.Acked(s, 0, 10, false), 10},
		{"all acknowledged, and more", sendq.Acked(s, 0, 99, true), 10},
		{"all acknowledged, and written again", with(sendq.Acked(s, 0, 10, false), "abc"), 13},
		{"finished", sendq.Finish(s), 10},
		{"written when it was finished", func() State { s, _ := sendq.Write(sendq.Finish(s), "abc", room); return s }(), 10},
		{"many", fresh(strings.Repeat("x", mostBytes)), mostBytes},
	} {
		if end := sendq.End(x.s); end != x.end {
			t.Errorf("%s: %d, not %d", x.name, end, x.end)
		}
	}
}

// Data's length counts, not where it begins: of one state nothing was acknowledged, of the other one two bytes.
func TestWriteByRoom(t *testing.T) {
	for _, s := range []State{sent("cde"), sendq.Acked(sent("abcde"), 0, 2, false)} {
		for _, x := range []struct {
			data string
			room int
			n    int
		}{
			{"XYZ", 99, 3}, {"XYZ", 7, 3}, {"XYZ", 6, 3}, {"XYZ", 5, 2}, {"XYZ", 4, 1}, {"XYZ", 3, 0}, {"XYZ", 2, 0}, {"XYZ", 1, 0},
			{"XYZ", 0, 0}, {"XYZ", -1, 0}, {"XYZ", -99, 0}, {"XYZ", math.MinInt, 0}, {"XYZ", math.MinInt + 2, 0}, {"XYZ", math.MinInt + 3, 0}, {"XYZ", math.MaxInt, 3},
			{"X", 5, 1}, {"X", 4, 1}, {"X", 3, 0}, {"X", 2, 0}, {"X", -1, 0},
			{"\x00\xff\x80", 5, 2},
			{"", 99, 0}, {"", 3, 0}, {"", 2, 0}, {"", 0, 0}, {"", -1, 0}, {"", math.MinInt, 0}, {"", math.MaxInt, 0},
		} {
			name := fmt.Sprintf("%q behind %d, room %d", x.data, sendq.End(s), x.room)
			out, n := sendq.Write(s, x.data, x.room)
			if n != x.n {
				t.Errorf("%s: %d, not %d", name, n, x.n)
			}
			want := State{Base: s.Base, Top: s.Top, Data: "cde" + x.data[:x.n]}
			if x.n > 0 {
				want.Todo = set(s.Base+3, s.Base+2+uint64(x.n))
			}
			checkState(t, name, out, want)
		}
	}
}

func TestWriteToNothing(t *testing.T) {
	for _, x := range []struct {
		data string
		room int
		want State
	}{
		{"", 9, State{}},
		{"", 0, State{}},
		{"abc", -1, State{}},
		{"abc", 0, State{}},
		{"abc", 1, State{Data: "a", Todo: set(0, 0)}},
		{"abc", 2, State{Data: "ab", Todo: set(0, 1)}},
		{"abc", 3, State{Data: "abc", Todo: set(0, 2)}},
		{"abc", 4, State{Data: "abc", Todo: set(0, 2)}},
	} {
		name := fmt.Sprintf("%q, room %d", x.data, x.room)
		out, n := sendq.Write(State{}, x.data, x.room)
		if n != len(x.want.Data) {
			t.Errorf("%s: %d", name, n)
		}
		checkState(t, name, out, x.want)
	}
}

// What is written is Todo, beside what of the bytes ahead of it is.
func TestWriteBesideTodo(t *testing.T) {
	s := fresh("abc")
	checkState(t, "first", s, State{Data: "abc", Todo: set(0, 2)})
	s = with(s, "de")
	checkState(t, "second", s, State{Data: "abcde", Todo: set(0, 4)})
	s = sendq.Sent(s, 0, 2, false)
	s = with(s, "f")
	checkState(t, "behind what was sent in part", s, State{Data: "abcdef", Top: 2, Todo: set(2, 5)})
	s = sendq.Sent(s, 4, 2, false)
	s = with(s, "gh")
	checkState(t, "apart", s, State{Data: "abcdefgh", Top: 6, Todo: set(2, 3, 6, 7)})
	s = sendq.Acked(s, 5, 1, false)
	s = with(s, "i")
	checkState(t, "behind what was acknowledged in the midst", s, State{Data: "abcdefghi", Top: 6, Acked: set(5, 5), Todo: set(2, 3, 6, 8)})
	s = sendq.Acked(s, 0, 9, false)
	checkState(t, "all acknowledged", s, State{Base: 9, Top: 6})
	s = with(s, "jk")
	checkState(t, "behind all", s, State{Base: 9, Top: 6, Data: "jk", Todo: set(9, 10)})
}

// What is behind Finish is none of the stream; the state stays as it was.
func TestWriteBehindFinish(t *testing.T) {
	for name, s := range map[string]State{
		"nothing":                 sendq.Finish(State{}),
		"bytes":                   sendq.Finish(fresh("abc")),
		"bytes that were sent":    sendq.Sent(sendq.Finish(fresh("abc")), 0, 3, false),
		"bytes, and the end sent": sendq.Sent(sendq.Finish(fresh("abc")), 0, 3, true),
		"the end acknowledged":    sendq.Acked(sendq.Finish(fresh("abc")), 1, 2, true),
		"all acknowledged":        sendq.Acked(sendq.Finish(fresh("abc")), 0, 3, true),
	} {
		for _, data := range []string{"", "X", "XYZ"} {
			for _, room := range []int{-1, 0, 2, 3, 4, 99, math.MaxInt} {
				out, n := sendq.Write(s, data, room)
				if n != 0 {
					t.Errorf("%s: %q, room %d: %d", name, data, room, n)
				}
				checkState(t, name, out, s)
			}
		}
	}
}

func TestFinish(t *testing.T) {
	s := sendq.Finish(State{})
	checkState(t, "nothing", s, State{Fin: true, FinTodo: true})
	checkState(t, "nothing, twice", sendq.Finish(s), State{Fin: true, FinTodo: true})
	s = sendq.Finish(sendq.Acked(sent("abcde"), 0, 2, false))
	checkState(t, "bytes", s, State{Base: 2, Top: 5, Data: "cde", Fin: true, FinTodo: true})
	checkState(t, "bytes, twice", sendq.Finish(s), s)
	s = sendq.Sent(s, 5, 0, true)
	checkState(t, "sent, and again", sendq.Finish(s), State{Base: 2, Top: 5, Data: "cde", Fin: true})
	s = sendq.Lost(s, 5, 0, true)
	checkState(t, "lost, and again", sendq.Finish(s), State{Base: 2, Top: 5, Data: "cde", Fin: true, FinTodo: true})
	s = sendq.Acked(s, 5, 0, true)
	checkState(t, "acknowledged, and again", sendq.Finish(s), State{Base: 2, Top: 5, Data: "cde", Fin: true, FinAcked: true})
	s = sendq.Acked(s, 2, 3, false)
	checkState(t, "done, and again", sendq.Finish(s), State{Base: 5, Top: 5, Fin: true, FinAcked: true})
}

// P15.2

func TestNextOfNothing(t *testing.T) {
	for name, s := range map[string]State{
		"nothing":                      {},
		"sets of no ranges":            {Acked: Set{}, Todo: Set{}},
		"all sent":                     sent("abc"),
		"all acknowledged":             sendq.Acked(sent("abc"), 0, 3, false),
		"acknowledged, and never sent": sendq.Acked(fresh("abc"), 0, 3, false),
		"acknowledged in the midst":    sendq.Acked(sent("abc"), 1, 1, false),
		"all sent, and the end":        sendq.Sent(sendq.Finish(fresh("abc")), 0, 3, true),
		"the end alone, sent":          sendq.Sent(sendq.Finish(State{}), 0, 0, true),
		"the end alone, acknowledged":  sendq.Acked(sendq.Finish(State{}), 0, 0, true),
		"all done":                     sendq.Acked(sendq.Finish(fresh("abc")), 0, 3, true),
	} {
		for _, most := range []int{math.MinInt, -1, 0, 1, 2, 99, math.MaxInt} {
			for _, credit := range []uint64{0, 1, 3, 4, 99, highest} {
				checkNext(t, name, s, most, credit, told{})
			}
		}
	}
}

// Of five bytes from place 2 on: none of these is told behind most, nor at credit.
func TestNextOfOneRange(t *testing.T) {
	s := sendq.Acked(fresh("abcdefg"), 0, 2, false)
	checkState(t, "five bytes", s, State{Base: 2, Data: "cdefg", Todo: set(2, 6)})
	last := sendq.Finish(s)
	for _, x := range []struct {
		most   int
		credit uint64
		data   string
	}{
		{1, 99, "c"}, {2, 99, "cd"}, {4, 99, "cdef"}, {5, 99, "cdefg"}, {6, 99, "cdefg"}, {7, 99, "cdefg"}, {math.MaxInt, 99, "cdefg"},
		{math.MaxInt, highest, "cdefg"}, {5, highest, "cdefg"}, {4, highest, "cdef"}, {99, mostPlace, "cdefg"},
		{0, 99, ""}, {-1, 99, ""}, {-99, 99, ""}, {math.MinInt, 99, ""}, {math.MinInt + 1, highest, ""}, {0, highest, ""},
		{99, 0, ""}, {99, 1, ""}, {99, 2, ""}, {1, 2, ""}, {0, 2, ""}, {-1, 1, ""},
		{99, 3, "c"}, {99, 4, "cd"}, {99, 6, "cdef"}, {99, 7, "cdefg"}, {99, 8, "cdefg"},
		{1, 3, "c"}, {2, 3, "c"}, {1, 4, "c"}, {3, 4, "cd"}, {2, 5, "cd"}, {5, 6, "cdef"}, {5, 7, "cdefg"}, {4, 7, "cdef"}, {6, 7, "cdefg"}, {-1, 7, ""}, {0, 7, ""},
	} {
		want := told{2, x.data, false, true}
		if x.data == "" {
			want = told{}
		}
		checkNext(t, "one range", s, x.most, x.credit, want)
		// The end is told with the last byte alone.
		want.fin = x.data == "cdefg"
		checkNext(t, "one range, with the end", last, x.most, x.credit, want)
		want.fin = false
		checkNext(t, "one range, with the end that was sent", sendq.Sent(last, 7, 0, true), x.most, x.credit, want)
		checkNext(t, "one range, with the end that was acknowledged", sendq.Acked(last, 7, 0, true), x.most, x.credit, want)
	}
}

// Of several ranges the first one is told alone.
func TestNextOfSeveralRanges(t *testing.T) {
	s := sendq.Finish(fresh("abcdefghij"))
	s = sendq.Sent(sendq.Sent(sendq.Sent(s, 0, 1, false), 4, 2, false), 8, 1, true)
	checkState(t, "three ranges", s, State{Top: 9, Data: "abcdefghij", Todo: set(1, 3, 6, 7, 9, 9), Fin: true})
	ends := sendq.Lost(s, 10, 0, true)
	for _, s := range []State{s, ends} {
		for _, most := range []int{3, 4, 9, math.MaxInt} {
			checkNext(t, "all of the first", s, most, 99, told{1, "bcd", false, true})
			checkNext(t, "a credit just behind it", s, most, 4, told{1, "bcd", false, true})
			checkNext(t, "a credit behind a gap", s, most, 6, told{1, "bcd", false, true})
			checkNext(t, "a credit within the second", s, most, 7, told{1, "bcd", false, true})
			checkNext(t, "a credit within the first", s, most, 3, told{1, "bc", false, true})
			checkNext(t, "a credit behind its first byte", s, most, 2, told{1, "b", false, true})
			checkNext(t, "a credit at it", s, most, 1, told{})
			checkNext(t, "no credit", s, most, 0, told{})
		}
		checkNext(t, "in part", s, 2, 99, told{1, "bc", false, true})
		checkNext(t, "none", s, 0, 99, told{})
	}
	for _, x := range []struct {
		s    State
		want told
	}{
		{sendq.Sent(ends, 1, 1, false), told{2, "cd", false, true}},
		{sendq.Sent(ends, 2, 2, false), told{1, "b", false, true}},
		{sendq.Sent(ends, 1, 3, false), told{6, "gh", false, true}},
		{sendq.Acked(ends, 0, 8, false), told{9, "j", true, true}},
		{sendq.Sent(s, 1, 7, false), told{9, "j", false, true}},
		{sendq.Sent(ends, 1, 9, false), told{10, "", true, true}},
		{sendq.Sent(ends, 1, 9, true), told{}},
		{sendq.Lost(ends, 0, 1, false), told{0, "abcd", false, true}},
		{sendq.Lost(ends, 0, 6, false), told{0, "abcdefgh", false, true}},
		{sendq.Lost(ends, 0, 10, false), told{0, "abcdefghij", true, true}},
		{sendq.Lost(ends, 8, 1, false), told{1, "bcd", false, true}},
	} {
		checkNext(t, "", x.s, 99, 99, x.want)
	}
}

// Where no byte is left, the end is told alone, whatever most and credit are.
func TestNextOfTheEndAlone(t *testing.T) {
	for name, x := range map[string]struct {
		s   State
		end uint64
	}{
		"no bytes at all":                {sendq.Finish(State{}), 0},
		"all bytes sent":                 {sendq.Finish(sent("abc")), 3},
		"all bytes sent, ahead of it":    {sendq.Sent(sendq.Finish(fresh("abc")), 0, 3, false), 3},
		"all bytes acknowledged":         {sendq.Finish(sendq.Acked(sent("abc"), 0, 3, false)), 3},
		"some bytes acknowledged":        {sendq.Finish(sendq.Acked(sent("abcde"), 0, 3, false)), 5},
		"lost alone":                     {sendq.Lost(sendq.Sent(sendq.Finish(fresh("abc")), 0, 3, true), 3, 0, true), 3},
		"lost, of bytes that have come":  {sendq.Lost(sendq.Acked(sendq.Sent(sendq.Finish(fresh("abc")), 0, 3, true), 1, 2, false), 1, 2, true), 3},
		"sent, and lost, of no bytes":    {sendq.Lost(sendq.Sent(sendq.Finish(State{}), 0, 0, true), 0, 0, true), 0},
		"bytes acknowledged, never sent": {sendq.Acked(sendq.Finish(fresh("abc")), 0, 3, false), 3},
	} {
		for _, most := range []int{math.MinInt, -1, 0, 1, 99, math.MaxInt} {
			for _, credit := range []uint64{0, 1, 2, 3, 4, 99, highest} {
				checkNext(t, name, x.s, most, credit, told{x.end, "", true, true})
			}
		}
	}
}

// While bytes are left that may not be sent, the end waits for them.
func TestTheEndWaitsForItsBytes(t *testing.T) {
	s := sendq.Finish(fresh("abc"))
	checkNext(t, "no credit", s, 9, 0, told{})
	checkNext(t, "no room", s, 0, 9, told{})
	checkNext(t, "credit for two", s, 9, 2, told{0, "ab", false, true})
	checkNext(t, "room for two", s, 2, 9, told{0, "ab", false, true})
	s = sendq.Sent(s, 0, 2, false)
	checkNext(t, "sent, no credit for the last", s, 9, 2, told{})
	checkNext(t, "sent, no room for the last", s, 0, 9, told{})
	checkNext(t, "sent, the last", s, 1, 3, told{2, "c", true, true})
	s = sendq.Lost(sendq.Sent(s, 2, 1, true), 1, 1, false)
	checkNext(t, "lost in the midst", s, 9, 9, told{1, "b", false, true})
	s = sendq.Lost(s, 2, 1, true)
	checkNext(t, "lost, and the end", s, 9, 9, told{1, "bc", true, true})
	checkNext(t, "lost, and the end, cut off", s, 1, 9, told{1, "b", false, true})
}

// P15.3

// ends calls with all that Fin may be: none, not sent, sent, and acknowledged; each of s.
func ends(s State, call func(s State)) {
	fin := sendq.Finish(s)
	call(s)
	call(fin)
	fin.FinTodo = false
	call(fin)
	fin.FinAcked = true
	call(fin)
}

// Of ten bytes, of which three were acknowledged, and none was sent: what is Todo, and Top.
func TestSent(t *testing.T) {
	s := sendq.Acked(fresh("abcdefghij"), 0, 3, false)
	checkState(t, "seven bytes", s, State{Base: 3, Data: "defghij", Todo: set(3, 9)})
	for _, x := range []struct {
		off  uint64
		n    int
		todo Set
		top  uint64
	}{
		{0, 0, set(3, 9), 0},
		{0, -1, set(3, 9), 0},
		{0, math.MinInt, set(3, 9), 0},
		{0, 1, set(3, 9), 1},
		{0, 3, set(3, 9), 3},
		{1, 1, set(3, 9), 2},
		{2, 0, set(3, 9), 2},
		{0, 4, set(4, 9), 4},
		{2, 3, set(5, 9), 5},
		{2, 7, set(9, 9), 9},
		{2, 8, nil, 10},
		{0, 10, nil, 10},
		{0, mostBytes, nil, 10},
		{3, 0, set(3, 9), 3},
		{3, -1, set(3, 9), 3},
		{3, 1, set(4, 9), 4},
		{3, 6, set(9, 9), 9},
		{3, 7, nil, 10},
		{3, 8, nil, 10},
		{4, 1, set(3, 3, 5, 9), 5},
		{5, 2, set(3, 4, 7, 9), 7},
		{6, 0, set(3, 9), 6},
		{6, -2, set(3, 9), 6},
		{6, math.MinInt, set(3, 9), 6},
		{8, 1, set(3, 7, 9, 9), 9},
		{8, 2, set(3, 7), 10},
		{8, 3, set(3, 7), 10},
		{9, 1, set(3, 8), 10},
		{9, 2, set(3, 8), 10},
		{10, 0, set(3, 9), 10},
		{10, 1, set(3, 9), 10},
		{11, 0, set(3, 9), 10},
		{11, 5, set(3, 9), 10},
		{99, -1, set(3, 9), 10},
		{mostPlace, 0, set(3, 9), 10},
		{mostPlace, mostBytes, set(3, 9), 10},
	} {
		ends(s, func(s State) {
			for _, fin := range []bool{false, true} {
				name := fmt.Sprintf("%d from %d on, %v, of %+v", x.n, x.off, fin, s)
				want := s
				want.Todo, want.Top, want.FinTodo = x.todo, x.top, s.FinTodo && !fin
				out := sendq.Sent(s, x.off, x.n, fin)
				checkState(t, name, out, want)
				checkState(t, name+", again", sendq.Sent(out, x.off, x.n, fin), want)
			}
		})
	}
}

// Top is never less than it was; what is lost, acknowledged or written does not change it.
func TestTop(t *testing.T) {
	s := fresh("abcdefghij")
	for _, x := range []struct {
		name string
		call func(s State) State
		top  uint64
	}{
		{"sent up to 4", func(s State) State { return sendq.Sent(s, 2, 2, false) }, 4},
		{"sent up to 2", func(s State) State { return sendq.Sent(s, 0, 2, false) }, 4},
		{"sent up to 4 again", func(s State) State { return sendq.Sent(s, 3, 1, false) }, 4},
		{"none at 4", func(s State) State { return sendq.Sent(s, 4, 0, false) }, 4},
		{"none at 5", func(s State) State { return sendq.Sent(s, 5, 0, false) }, 5},
		{"less than none at 6", func(s State) State { return sendq.Sent(s, 6, -3, false) }, 6},
		{"lost up to 9", func(s State) State { return sendq.Lost(s, 0, 9, false) }, 6},
		{"sent up to 3", func(s State) State { return sendq.Sent(s, 0, 3, false) }, 6},
		{"acknowledged up to 8", func(s State) State { return sendq.Acked(s, 5, 3, false) }, 6},
		{"sent up to 7", func(s State) State { return sendq.Sent(s, 5, 2, false) }, 7},
		{"sent to the end", func(s State) State { return sendq.Sent(s, 9, 1, false) }, 10},
		{"sent beyond the end", func(s State) State { return sendq.Sent(s, 9, 2, false) }, 10},
		{"written", func(s State) State { return with(s, "klm") }, 10},
		{"sent again", func(s State) State { return sendq.Sent(s, 0, 10, false) }, 10},
		{"sent beyond the new end", func(s State) State { return sendq.Sent(s, 12, 9, false) }, 13},
		{"acknowledged whole", func(s State) State { return sendq.Acked(s, 0, 13, false) }, 13},
		{"finished", sendq.Finish, 13},
		{"the end sent", func(s State) State { return sendq.Sent(s, 13, 0, true) }, 13},
	} {
		s = x.call(s)
		if s.Top != x.top || !may(s) {
			t.Errorf("%s: %+v, not up to %d", x.name, s, x.top)
		}
	}
}

// Of ten bytes that were sent, of which three from the beginning on were acknowledged, and two in the midst: what is Todo.
func TestLost(t *testing.T) {
	s := sendq.Acked(sendq.Acked(sent("abcdefghij"), 0, 3, false), 5, 2, false)
	checkState(t, "seven bytes", s, State{Base: 3, Top: 10, Data: "defghij", Acked: set(5, 6)})
	for _, x := range []struct {
		off  uint64
		n    int
		todo Set
	}{
		{0, 0, nil},
		{0, -1, nil},
		{0, 1, nil},
		{0, 3, nil},
		{2, 1, nil},
		{2, 2, set(3, 3)},
		{0, 4, set(3, 3)},
		{0, 6, set(3, 4)},
		{0, 10, set(3, 4, 7, 9)},
		{0, mostBytes, set(3, 4, 7, 9)},
		{3, 0, nil},
		{3, -1, nil},
		{3, math.MinInt, nil},
		{3, 1, set(3, 3)},
		{3, 2, set(3, 4)},
		{3, 3, set(3, 4)},
		{3, 5, set(3, 4, 7, 7)},
		{3, 7, set(3, 4, 7, 9)},
		{4, 1, set(4, 4)},
		{4, 3, set(4, 4)},
		{4, 4, set(4, 4, 7, 7)},
		{5, 1, nil},
		{5, 2, nil},
		{6, 1, nil},
		{6, 2, set(7, 7)},
		{7, 1, set(7, 7)},
		{8, 1, set(8, 8)},
		{8, 2, set(8, 9)},
		{8, 3, set(8, 9)},
		{9, 1, set(9, 9)},
		{9, 99, set(9, 9)},
		{10, 0, nil},
		{10, 1, nil},
		{11, 5, nil},
		{mostPlace, 0, nil},
		{mostPlace, mostBytes, nil},
	} {
		ends(s, func(s State) {
			for _, fin := range []bool{false, true} {
				name := fmt.Sprintf("%d from %d on, %v, of %+v", x.n, x.off, fin, s)
				want := s
				want.Todo = x.todo
				want.FinTodo = s.FinTodo || fin && s.Fin && !s.FinAcked
				out := sendq.Lost(s, x.off, x.n, fin)
				checkState(t, name, out, want)
				checkState(t, name+", again", sendq.Lost(out, x.off, x.n, fin), want)
			}
		})
	}
}

// Beside places that are Todo already.
func TestLostBesideTodo(t *testing.T) {
	s := sendq.Sent(sendq.Sent(sendq.Acked(fresh("abcdefghij"), 5, 1, false), 1, 2, false), 7, 2, false)
	checkState(t, "four ranges", s, State{Top: 9, Data: "abcdefghij", Acked: set(5, 5), Todo: set(0, 0, 3, 4, 6, 6, 9, 9)})
	for _, x := range []struct {
		off  uint64
		n    int
		todo Set
	}{
		{0, 1, set(0, 0, 3, 4, 6, 6, 9, 9)},
		{1, 1, set(0, 1, 3, 4, 6, 6, 9, 9)},
		{2, 1, set(0, 0, 2, 4, 6, 6, 9, 9)},
		{1, 2, set(0, 4, 6, 6, 9, 9)},
		{4, 3, set(0, 0, 3, 4, 6, 6, 9, 9)},
		{7, 1, set(0, 0, 3, 4, 6, 7, 9, 9)},
		{7, 2, set(0, 0, 3, 4, 6, 9)},
		{8, 2, set(0, 0, 3, 4, 6, 6, 8, 9)},
		{2, 6, set(0, 0, 2, 4, 6, 7, 9, 9)},
		{0, 10, set(0, 4, 6, 9)},
	} {
		want := s
		want.Todo = x.todo
		checkState(t, fmt.Sprintf("%d from %d on", x.n, x.off), sendq.Lost(s, x.off, x.n, false), want)
	}
}

// Of ten bytes, of which three from the beginning on were acknowledged, and two in the midst: where it goes on, and what is left; once with all others Todo, and once with none.
func TestAcked(t *testing.T) {
	s := sendq.Acked(sendq.Acked(fresh("abcdefghij"), 0, 3, false), 5, 2, false)
	checkState(t, "seven bytes", s, State{Base: 3, Data: "defghij", Acked: set(5, 6), Todo: set(3, 4, 7, 9)})
	for _, x := range []struct {
		off   uint64
		n     int
		base  uint64
		data  string
		acked Set
		todo  Set
	}{
		{0, 0, 3, "defghij", set(5, 6), set(3, 4, 7, 9)},
		{0, 1, 3, "defghij", set(5, 6), set(3, 4, 7, 9)},
		{0, 3, 3, "defghij", set(5, 6), set(3, 4, 7, 9)},
		{2, 1, 3, "defghij", set(5, 6), set(3, 4, 7, 9)},
		{2, 2, 4, "efghij", set(5, 6), set(4, 4, 7, 9)},
		{0, 4, 4, "efghij", set(5, 6), set(4, 4, 7, 9)},
		{0, 5, 7, "hij", nil, set(7, 9)},
		{0, 8, 8, "ij", nil, set(8, 9)},
		{0, 10, 10, "", nil, nil},
		{0, mostBytes, 10, "", nil, nil},
		{3, 0, 3, "defghij", set(5, 6), set(3, 4, 7, 9)},
		{3, -1, 3, "defghij", set(5, 6), set(3, 4, 7, 9)},
		{3, math.MinInt, 3, "defghij", set(5, 6), set(3, 4, 7, 9)},
		{3, 1, 4, "efghij", set(5, 6), set(4, 4, 7, 9)},
		{3, 2, 7, "hij", nil, set(7, 9)},
		{3, 4, 7, "hij", nil, set(7, 9)},
		{3, 6, 9, "j", nil, set(9, 9)},
		{3, 7, 10, "", nil, nil},
		{3, 8, 10, "", nil, nil},
		{4, 1, 3, "defghij", set(4, 6), set(3, 3, 7, 9)},
		{4, 6, 3, "defghij", set(4, 9), set(3, 3)},
		{4, 99, 3, "defghij", set(4, 9), set(3, 3)},
		{5, 1, 3, "defghij", set(5, 6), set(3, 4, 7, 9)},
		{5, 2, 3, "defghij", set(5, 6), set(3, 4, 7, 9)},
		{6, 2, 3, "defghij", set(5, 7), set(3, 4, 8, 9)},
		{7, 1, 3, "defghij", set(5, 7), set(3, 4, 8, 9)},
		{8, 1, 3, "defghij", set(5, 6, 8, 8), set(3, 4, 7, 7, 9, 9)},
		{8, 2, 3, "defghij", set(5, 6, 8, 9), set(3, 4, 7, 7)},
		{8, 3, 3, "defghij", set(5, 6, 8, 9), set(3, 4, 7, 7)},
		{9, 1, 3, "defghij", set(5, 6, 9, 9), set(3, 4, 7, 8)},
		{9, 99, 3, "defghij", set(5, 6, 9, 9), set(3, 4, 7, 8)},
		{10, 0, 3, "defghij", set(5, 6), set(3, 4, 7, 9)},
		{10, 1, 3, "defghij", set(5, 6), set(3, 4, 7, 9)},
		{11, 5, 3, "defghij", set(5, 6), set(3, 4, 7, 9)},
		{mostPlace, 0, 3, "defghij", set(5, 6), set(3, 4, 7, 9)},
		{mostPlace, mostBytes, 3, "defghij", set(5, 6), set(3, 4, 7, 9)},
	} {
		for _, was := range []State{s, sendq.Sent(s, 3, 7, false)} {
			ends(was, func(s State) {
				for _, fin := range []bool{false, true} {
					name := fmt.Sprintf("%d from %d on, %v, of %+v", x.n, x.off, fin, s)
					want := State{Base: x.base, Top: s.Top, Data: x.data, Acked: x.acked, Todo: x.todo, Fin: s.Fin, FinTodo: s.FinTodo && !fin, FinAcked: s.FinAcked || s.Fin && fin}
					if len(s.Todo) == 0 {
						want.Todo = nil
					}
					out := sendq.Acked(s, x.off, x.n, fin)
					checkState(t, name, out, want)
					checkState(t, name+", again", sendq.Acked(out, x.off, x.n, fin), want)
				}
			})
		}
	}
}

// Base goes on over several ranges, as far as they touch.
func TestBaseGoesOn(t *testing.T) {
	s := sent("abcdefghijkl")
	s = sendq.Acked(s, 2, 2, false)
	s = sendq.Acked(s, 6, 1, false)
	s = sendq.Acked(s, 9, 2, false)
	checkState(t, "three ranges", s, State{Top: 12, Data: "abcdefghijkl", Acked: set(2, 3, 6, 6, 9, 10)})
	checkState(t, "up to the first", sendq.Acked(s, 0, 2, false), State{Base: 4, Top: 12, Data: "efghijkl", Acked: set(6, 6, 9, 10)})
	checkState(t, "into the first", sendq.Acked(s, 0, 3, false), State{Base: 4, Top: 12, Data: "efghijkl", Acked: set(6, 6, 9, 10)})
	checkState(t, "one byte alone", sendq.Acked(s, 0, 1, false), State{Base: 1, Top: 12, Data: "bcdefghijkl", Acked: set(2, 3, 6, 6, 9, 10)})
	checkState(t, "up to the second", sendq.Acked(s, 0, 6, false), State{Base: 7, Top: 12, Data: "hijkl", Acked: set(9, 10)})
	checkState(t, "across two", sendq.Acked(s, 0, 8, false), State{Base: 8, Top: 12, Data: "ijkl", Acked: set(9, 10)})
	checkState(t, "across three", sendq.Acked(s, 0, 9, false), State{Base: 11, Top: 12, Data: "l"})
	checkState(t, "all", sendq.Acked(s, 0, 12, false), State{Base: 12, Top: 12})
	s = sendq.Acked(s, 4, 2, false)
	checkState(t, "two ranges that meet", s, State{Top: 12, Data: "abcdefghijkl", Acked: set(2, 6, 9, 10)})
	s = sendq.Acked(s, 7, 2, false)
	checkState(t, "all but three", s, State{Top: 12, Data: "abcdefghijkl", Acked: set(2, 10)})
	s = sendq.Acked(s, 1, 1, false)
	checkState(t, "all but two", s, State{Top: 12, Data: "abcdefghijkl", Acked: set(1, 10)})
	s = sendq.Acked(s, 0, 1, false)
	checkState(t, "all but the last", s, State{Base: 11, Top: 12, Data: "l"})
	s = with(sendq.Acked(s, 11, 1, false), "mn")
	checkState(t, "written behind all", s, State{Base: 12, Top: 12, Data: "mn", Todo: set(12, 13)})
	s = sendq.Acked(s, 12, 1, false)
	checkState(t, "one of these", s, State{Base: 13, Top: 12, Data: "n", Todo: set(13, 13)})
}

// What was acknowledged is not sent again, whether it is lost ahead of that or behind it.
func TestLostAndAcked(t *testing.T) {
	s := sendq.Sent(sendq.Finish(fresh("abcdef")), 0, 6, true)
	checkState(t, "sent", s, State{Top: 6, Data: "abcdef", Fin: true})
	lost := sendq.Lost(s, 2, 4, true)
	checkState(t, "lost", lost, State{Top: 6, Data: "abcdef", Todo: set(2, 5), Fin: true, FinTodo: true})
	checkState(t, "lost, and acknowledged", sendq.Acked(lost, 2, 4, true), State{Top: 6, Data: "abcdef", Acked: set(2, 5), Fin: true, FinAcked: true})
	checkState(t, "lost, and acknowledged in part", sendq.Acked(lost, 3, 2, false), State{Top: 6, Data: "abcdef", Acked: set(3, 4), Todo: set(2, 2, 5, 5), Fin: true, FinTodo: true})
	acked := sendq.Acked(s, 2, 4, true)
	checkState(t, "acknowledged", acked, State{Top: 6, Data: "abcdef", Acked: set(2, 5), Fin: true, FinAcked: true})
	checkState(t, "acknowledged, and lost", sendq.Lost(acked, 2, 4, true), acked)
	checkState(t, "acknowledged, and all lost", sendq.Lost(acked, 0, 6, true), State{Top: 6, Data: "abcdef", Acked: set(2, 5), Todo: set(0, 1), Fin: true, FinAcked: true})
	acked = sendq.Acked(s, 0, 4, false)
	checkState(t, "acknowledged from the beginning on, and lost", sendq.Lost(acked, 0, 4, false), acked)
	checkState(t, "acknowledged from the beginning on, and all lost", sendq.Lost(acked, 0, 6, true), State{Base: 4, Top: 6, Data: "ef", Todo: set(4, 5), Fin: true, FinTodo: true})
}

// An end that is not there can not be sent, lost or acknowledged; it comes behind that all the same.
func TestTheEndAheadOfFinish(t *testing.T) {
	s := fresh("abc")
	s = sendq.Sent(s, 0, 3, true)
	checkState(t, "sent", s, State{Top: 3, Data: "abc"})
	s = sendq.Lost(s, 0, 1, true)
	checkState(t, "lost", s, State{Top: 3, Data: "abc", Todo: set(0, 0)})
	s = sendq.Acked(s, 0, 3, true)
	checkState(t, "acknowledged", s, State{Base: 3, Top: 3})
	s = sendq.Finish(s)
	checkState(t, "finished", s, State{Base: 3, Top: 3, Fin: true, FinTodo: true})
}

// P15.4

func TestDone(t *testing.T) {
	s := sendq.Finish(fresh("abc"))
	for _, x := range []struct {
		name string
		s    State
		is   bool
	}{
		{"nothing", State{}, false},
		{"bytes", fresh("abc"), false},
		{"bytes that were sent", sent("abc"), false},
		{"all bytes acknowledged, without an end", sendq.Acked(sent("abc"), 0, 3, false), false},
		{"all bytes acknowledged, and an end that is not there", sendq.Acked(sent("abc"), 0, 3, true), false},
		{"all bytes acknowledged, and the end there, behind that", sendq.Finish(sendq.Acked(sent("abc"), 0, 3, true)), false},
		{"the end alone", sendq.Finish(State{}), false},
		{"the end alone, sent", sendq.Sent(sendq.Finish(State{}), 0, 0, true), false},
		{"the end alone, acknowledged", sendq.Acked(sendq.Finish(State{}), 0, 0, true), true},
		{"the end alone, acknowledged, and lost", sendq.Lost(sendq.Acked(sendq.Finish(State{}), 0, 0, true), 0, 0, true), true},
		{"finished", s, false},
		{"all sent", sendq.Sent(s, 0, 3, true), false},
		{"all lost", sendq.Lost(sendq.Sent(s, 0, 3, true), 0, 3, true), false},
		{"the bytes acknowledged", sendq.Acked(s, 0, 3, false), false},
		{"the end acknowledged", sendq.Acked(s, 3, 0, true), false},
		{"the end acknowledged, and some bytes", sendq.Acked(s, 1, 2, true), false},
		{"the end acknowledged, and most bytes", sendq.Acked(s, 0, 2, true), false},
		{"all acknowledged at once", sendq.Acked(s, 0, 3, true), true},
		{"the end acknowledged ahead of the bytes", sendq.Acked(sendq.Acked(s, 3, 0, true), 0, 3, false), true},
		{"the end acknowledged behind the bytes", sendq.Acked(sendq.Acked(s, 0, 3, false), 3, 0, true), true},
		{"the end acknowledged, told elsewhere", sendq.Acked(sendq.Acked(s, 0, 3, false), 99, 0, true), true},
		{"the bytes acknowledged from behind", sendq.Acked(sendq.Acked(s, 1, 2, true), 0, 1, false), true},
		{"all acknowledged, and lost", sendq.Lost(sendq.Acked(s, 0, 3, true), 0, 3, true), true},
		{"all acknowledged, and sent", sendq.Sent(sendq.Acked(s, 0, 3, true), 0, 3, true), true},
		{"all acknowledged, and finished again", sendq.Finish(sendq.Acked(s, 0, 3, true)), true},
	} {
		if is := sendq.Done(x.s); is != x.is {
			t.Errorf("%s: %v, of %+v", x.name, is, x.s)
		}
	}
}

// A second reckoning: of each byte of the stream by itself.

// book has for each byte whether it has to be sent, and whether it was acknowledged.
type book struct {
	data                   []byte
	todo, acked            []bool
	top                    int
	fin, finTodo, finAcked bool
}

// base tells how many bytes from the beginning on were acknowledged.
func (b *book) base() int {
	for i, is := range b.acked {
		if !is {
			return i
		}
	}
	return len(b.acked)
}

func (b *book) write(data string, room int) int {
	n := 0
	for !b.fin && n < len(data) && len(b.data)-b.base() < room {
		b.data, b.todo, b.acked = append(b.data, data[n]), append(b.todo, true), append(b.acked, false)
		n++
	}
	return n
}

func (b *book) finish() {
	if b.fin {
		return
	}
	b.fin, b.finTodo = true, true
}

// each calls with all bytes that are meant.
func (b *book) each(off uint64, n int, call func(i int)) {
	for i := range b.data {
		if uint64(i) >= off && n > 0 && uint64(i)-off < uint64(n) {
			call(i)
		}
	}
}

func (b *book) sent(off uint64, n int, fin bool) {
	b.each(off, n, func(i int) { b.todo[i] = false })
	to := off
	if n > 0 {
		to += uint64(n)
	}
	if to > uint64(len(b.data)) {
		to = uint64(len(b.data))
	}
	if int(to) > b.top {
		b.top = int(to)
	}
	if fin {
		b.finTodo = false
	}
}

func (b *book) lost(off uint64, n int, fin bool) {
	b.each(off, n, func(i int) {
		if !b.acked[i] {
			b.todo[i] = true
		}
	})
	if fin && b.fin && !b.finAcked {
		b.finTodo = true
	}
}

func (b *book) ack(off uint64, n int, fin bool) {
	b.each(off, n, func(i int) { b.acked[i], b.todo[i] = true, false })
	if fin && b.fin {
		b.finAcked, b.finTodo = true, false
	}
}

func (b *book) next(most int, credit uint64) told {
	first := slices.Index(b.todo, true)
	if first < 0 {
		if b.finTodo {
			return told{uint64(len(b.data)), "", true, true}
		}
		return told{}
	}
	i := first
	for i < len(b.data) && b.todo[i] && i-first < most && uint64(i) < credit {
		i++
	}
	if i == first {
		return told{}
	}
	return told{uint64(first), string(b.data[first:i]), b.fin && b.finTodo && i == len(b.data), true}
}

// numbers tells those from base on of which l has true.
func numbers(l []bool, base int) Set {
	var out Set
	for i := base; i < len(l); i++ {
		if !l[i] {
			continue
		}
		if i > base && l[i-1] {
			out[len(out)-1].Hi = uint64(i)
		} else {
			out = append(out, ranges.Range{Lo: uint64(i), Hi: uint64(i)})
		}
	}
	return out
}

func (b *book) state() State {
	base := b.base()
	return State{
		Base: uint64(base), Top: uint64(b.top), Data: string(b.data[base:]), Acked: numbers(b.acked, base), Todo: numbers(b.todo, base),
		Fin: b.fin, FinTodo: b.finTodo, FinAcked: b.finAcked,
	}
}

func (b *book) copied() *book {
	out := *b
	out.data, out.todo, out.acked = slices.Clone(b.data), slices.Clone(b.todo), slices.Clone(b.acked)
	return &out
}

// disagree tells what is told of s otherwise than the book has it; "" for nothing.
func (b *book) disagree(s State) string {
	if want := b.state(); !same(s, want) || !may(s) {
		return fmt.Sprintf("%+v, not %+v", s, want)
	}
	if end := sendq.End(s); end != uint64(len(b.data)) {
		return fmt.Sprintf("End of %+v: %d, not %d", s, end, len(b.data))
	}
	if is := sendq.Done(s); is != (b.finAcked && b.base() == len(b.data)) {
		return fmt.Sprintf("Done of %+v: %v", s, is)
	}
	for _, most := range []int{-1, 0, 1, 2, 3, 5, 99} {
		for _, credit := range []uint64{0, 1, 2, 4, s.Base, s.Base + 1, s.Top, s.Top + 2, highest} {
			if got, want := next(s, most, credit), b.next(most, credit); got != want {
				return fmt.Sprintf("Next of %d, credit %d, of %+v: %v, not %v", most, credit, s, got, want)
			}
		}
	}
	return ""
}

// step is one call, of a state and of a book; it tells the state, and how the two answers differ, "" if they do not.
type step func(s State, b *book) (State, string)

func writeStep(data string, room int) step {
	return func(s State, b *book) (State, string) {
		out, n := sendq.Write(s, data, room)
		if want := b.write(data, room); n != want {
			return out, fmt.Sprintf("Write of %q, room %d, to %+v: %d, not %d", data, room, s, n, want)
		}
		return out, b.disagree(out)
	}
}

func finishStep(s State, b *book) (State, string) {
	b.finish()
	out := sendq.Finish(s)
	return out, b.disagree(out)
}

// toldSteps are the three calls of n bytes from off on, and of the end, if fin.
func toldSteps(off uint64, n int, fin bool) []step {
	return []step{
		func(s State, b *book) (State, string) {
			b.sent(off, n, fin)
			out := sendq.Sent(s, off, n, fin)
			return out, b.disagree(out)
		},
		func(s State, b *book) (State, string) {
			b.lost(off, n, fin)
			out := sendq.Lost(s, off, n, fin)
			return out, b.disagree(out)
		},
		func(s State, b *book) (State, string) {
			b.ack(off, n, fin)
			out := sendq.Acked(s, off, n, fin)
			return out, b.disagree(out)
		},
	}
}

// dice tells numbers by a fixed rule; each seed has its own.
type dice struct{ x uint64 }

func newDice(seed uint64) *dice { return &dice{seed*0x9e3779b97f4a7c15 + 1} }

// below tells a number below n.
func (d *dice) below(n int) int {
	d.x = d.x*6364136223846793005 + 1442695040888963407
	return int(d.x >> 33 % uint64(n))
}

// text tells n bytes of any value.
func (d *dice) text(n int) string {
	out := make([]byte, n)
	for i := range out {
		out[i] = byte(d.below(256))
	}
	return string(out)
}

// place tells one of those that s has, or one near to them, or a far one.
func (d *dice) place(s State) uint64 {
	switch d.below(20) {
	case 0:
		return mostPlace - uint64(d.below(3))
	case 1:
		return uint64(d.below(int(s.Base) + 1))
	case 2:
		return sendq.End(s) + uint64(d.below(3))
	}
	return s.Base + uint64(d.below(len(s.Data)+1))
}

// step tells a call of so many bytes at most.
func (d *dice) step(s State, long int) step {
	switch d.below(12) {
	case 0, 1:
		return writeStep(d.text(d.below(long+1)), d.below(6*long)-1)
	case 2:
		if d.below(8) == 0 {
			return finishStep
		}
	}
	off, n, fin := d.place(s), d.below(long+2)-1, d.below(5) == 0
	// Most are of what Next tells, as they are when all goes well.
	if x := next(s, long, highest); x.is && d.below(2) == 0 {
		off, n, fin = x.off, len(x.data), x.fin
	}
	return toldSteps(off, n, fin)[d.below(3)]
}

// Strewn calls, of few bytes and of many.
func TestPlaysByASecondReckoning(t *testing.T) {
	for _, long := range []int{1, 2, 4, 9, 30} {
		done, gone, parts := 0, 0, 0
		for seed := range uint64(150) {
			d, s, b := newDice(seed), State{}, &book{}
			for range 90 {
				var fault string
				if s, fault = d.step(s, long)(s, b); fault != "" {
					t.Fatalf("%d bytes, seed %d: %s", long, seed, fault)
				}
				parts += len(s.Acked) + len(s.Todo)
			}
			gone += int(s.Base)
			if sendq.Done(s) {
				done++
			}
		}
		if done == 0 || gone < 150*long || parts < 150*12 {
			t.Errorf("%d bytes: %d done, %d bytes gone, %d ranges", long, done, gone, parts)
		}
	}
}

// smallSteps are all calls of two bytes at most, of places below 5.
func smallSteps() []step {
	out := []step{finishStep, writeStep("", 9), writeStep("x", 9), writeStep("yz", 3), writeStep("yz", 2), writeStep("w", -1)}
	for off := range uint64(5) {
		for _, n := range []int{-1, 0, 1, 2} {
			for _, fin := range []bool{false, true} {
				out = append(out, toldSteps(off, n, fin)...)
			}
		}
	}
	return out
}

// All small states that calls lead to, and all answers of one call more.
func TestSmallStatesByASecondReckoning(t *testing.T) {
	seen := map[string]bool{}
	var play func(s State, b *book, left int)
	play = func(s State, b *book, left int) {
		for _, step := range smallSteps() {
			now := b.copied()
			out, fault := step(s, now)
			if fault != "" {
				t.Fatal(fault)
			}
			// A state that was seen with as many calls left has nothing new behind it.
			name := fmt.Sprintf("%d %+v", left, out)
			if left > 0 && !seen[name] {
				seen[name] = true
				play(out, now, left-1)
			}
		}
	}
	play(State{}, &book{}, 5)
	if len(seen) < 1000 {
		t.Errorf("%d states", len(seen))
	}
}

// formOf leads to a state of five bytes that begin at place 2, each of which is on its way, acknowledged or Todo, as form's digits of three say; the first one is not acknowledged, so some forms are none.
func formOf(form int) (State, *book, string, bool) {
	steps := []step{writeStep("rrabcde", 9), toldSteps(0, 7, false)[0], toldSteps(0, 2, false)[2]}
	for i := range uint64(5) {
		switch form % 3 {
		case 1:
			steps = append(steps, toldSteps(2+i, 1, false)[1])
		case 2:
			if i == 0 {
				return State{}, nil, "", false
			}
			steps = append(steps, toldSteps(2+i, 1, false)[2])
		}
		form /= 3
	}
	s, b := State{}, &book{}
	for _, step := range steps {
		var fault string
		if s, fault = step(s, b); fault != "" {
			return s, b, fault, true
		}
	}
	return s, b, "", true
}

// Of each state of five bytes, of which each is on its way, acknowledged or Todo: all that Sent, Lost and Acked can be handed.
func TestEachFormByASecondReckoning(t *testing.T) {
	forms := 0
	for form := range 243 {
		s, b, fault, is := formOf(form)
		if fault != "" {
			t.Fatal(fault)
		}
		if !is {
			continue
		}
		forms++
		for off := range uint64(9) {
			for n := range 10 {
				for _, step := range toldSteps(off, n, false) {
					if _, fault := step(s, b.copied()); fault != "" {
						t.Fatal(fault)
					}
				}
			}
		}
	}
	if forms != 162 {
		t.Errorf("%d forms", forms)
	}
}

// P15.5

// packet is what Next told, and that is on its way.
type packet struct {
	off  uint64
	data string
	fin  bool
}

// sender writes a stream, and sends what Next tells; the other end has got.
type sender struct {
	t      *testing.T
	d      *dice
	stream string
	s      State
	out    []packet
	old    []packet
	got    []bool
	ended  bool
}

// write writes some of what is left; behind the last byte it finishes.
func (x *sender) write() {
	from := int(sendq.End(x.s))
	if from == len(x.stream) {
		x.s = sendq.Finish(x.s)
		return
	}
	x.s, _ = sendq.Write(x.s, x.stream[from:min(from+x.d.below(50), len(x.stream))], x.d.below(100))
}

// send sends one packet, if there is any; it has to be of the stream, and of nothing that came.
func (x *sender) send(most int, credit uint64) bool {
	off, data, fin, is := sendq.Next(x.s, most, credit)
	if !is {
		return false
	}
	end := off + uint64(len(data))
	if end > uint64(len(x.stream)) || x.stream[off:end] != data || len(data) > most && data != "" || data != "" && end > credit {
		x.t.Fatalf("%d bytes, credit %d: %q at %d", most, credit, data, off)
	}
	if fin != (x.s.FinTodo && end == uint64(len(x.stream))) || data == "" && !fin {
		x.t.Fatalf("%q at %d, %v", data, off, fin)
	}
	x.s = sendq.Sent(x.s, off, len(data), fin)
	x.out = append(x.out, packet{off, data, fin})
	return true
}

// settle tells that one packet came, or is lost.
func (x *sender) settle(i int, came bool) {
	p := x.out[i]
	x.out = slices.Delete(x.out, i, i+1)
	x.old = append(x.old, p)
	if !came {
		x.s = sendq.Lost(x.s, p.off, len(p.data), p.fin)
		return
	}
	x.arrive(p)
}

// arrive tells that a packet came.
func (x *sender) arrive(p packet) {
	for i := range len(p.data) {
		x.got[int(p.off)+i] = true
	}
	x.ended = x.ended || p.fin
	x.s = sendq.Acked(x.s, p.off, len(p.data), p.fin)
}

// check tells whether the state is done just when all came, and has all that did not.
func (x *sender) check() {
	left := slices.Index(x.got, false)
	if done := sendq.Done(x.s); done != (x.ended && left < 0) {
		x.t.Fatalf("Done is %v: %+v, of %v, %v", done, x.s, x.got, x.ended)
	}
	if !may(x.s) || left >= 0 && left < int(x.s.Base) {
		x.t.Fatalf("%+v, of %v", x.s, x.got)
	}
}

// Streams of strewn lengths, also of no byte, packets of strewn lengths; each is lost or acknowledged in any order, some are told both, or twice.
func TestAllComesToDone(t *testing.T) {
	for seed := range uint64(400) {
		d := newDice(seed)
		stream := d.text(d.below(4) * d.below(100))
		x := &sender{t: t, d: d, stream: stream, got: make([]bool, len(stream))}
		for round := 0; !sendq.Done(x.s); round++ {
			if round > 20000 {
				t.Fatalf("seed %d: %+v, of %d bytes", seed, x.s, len(stream))
			}
			switch d.below(5) {
			case 0:
				x.write()
			case 1, 2:
				x.send(d.below(30)-1, uint64(round/3))
			case 3:
				if len(x.out) > 0 {
					x.settle(d.below(len(x.out)), d.below(3) > 0)
				}
			case 4:
				if len(x.old) > 0 && d.below(4) == 0 {
					x.again()
				}
			}
			x.check()
		}
		for i := range x.out {
			p := x.out[i]
			x.s = sendq.Lost(x.s, p.off, len(p.data), p.fin)
		}
		want := State{Base: uint64(len(stream)), Top: uint64(len(stream)), Fin: true, FinAcked: true}
		checkState(t, fmt.Sprint("seed ", seed), x.s, want)
		checkNext(t, fmt.Sprint("seed ", seed), x.s, 99, highest, told{})
	}
}

// again tells of a packet that was settled ahead that it is lost, or that it came after all.
func (x *sender) again() {
	p := x.old[x.d.below(len(x.old))]
	if x.d.below(2) == 0 {
		x.s = sendq.Lost(x.s, p.off, len(p.data), p.fin)
		return
	}
	x.arrive(p)
}

// While it is not done, and nothing is on its way, there is something to be sent.
func TestSomethingIsAlwaysLeft(t *testing.T) {
	for seed := range uint64(200) {
		d := newDice(seed)
		stream := d.text(d.below(60))
		x := &sender{t: t, d: d, stream: stream, got: make([]bool, len(stream)), s: sendq.Finish(fresh(stream))}
		for round := 0; !sendq.Done(x.s); round++ {
			if round > 1000 {
				t.Fatalf("seed %d: %+v", seed, x.s)
			}
			for x.send(1+d.below(9), highest) {
			}
			if len(x.out) == 0 {
				t.Fatalf("seed %d: nothing of %+v", seed, x.s)
			}
			for len(x.out) > 0 {
				x.settle(d.below(len(x.out)), d.below(3) == 0)
				x.check()
			}
		}
	}
}

// The longest text, sent in pieces, of which every third one is lost at first.
func TestManyBytes(t *testing.T) {
	stream := strings.Repeat("0123456789abcdef", mostBytes/16)
	x := &sender{t: t, d: newDice(1), stream: stream, got: make([]bool, len(stream)), s: sendq.Finish(fresh(stream))}
	for round := 0; !sendq.Done(x.s); round++ {
		if round > 9 {
			t.Fatalf("%d bytes left", len(x.s.Data))
		}
		for x.send(8191, highest) {
		}
		for i := 0; len(x.out) > 0; i++ {
			x.settle(0, i%3 > 0 || round > 1)
		}
	}
	checkState(t, "many", x.s, State{Base: mostBytes, Top: mostBytes, Fin: true, FinAcked: true})
	checkState(t, "all at once", sendq.Acked(sendq.Finish(fresh(stream)), 0, mostBytes, true), State{Base: mostBytes, Fin: true, FinAcked: true})
}

// Rules

// R3, R4

// roomy tells a state whose sets have room behind them.
func roomy(s State) State {
	s.Acked = append(make(Set, 0, len(s.Acked)+9), s.Acked...)
	s.Todo = append(make(Set, 0, len(s.Todo)+9), s.Todo...)
	return s
}

// whole tells all that is in the sets of s, also behind them.
func whole(s State) Set {
	return slices.Concat(s.Acked[:cap(s.Acked)], s.Todo[:cap(s.Todo)])
}

// scribble writes over a set, also behind it.
func scribble(l Set) {
	l = l[:cap(l)]
	for i := range l {
		l[i] = ranges.Range{Lo: 77, Hi: 7777}
	}
}

// calls are some of each.
func calls() map[string]func(s State) State {
	out := map[string]func(s State) State{"Finish": sendq.Finish}
	for _, data := range []string{"", "X", "XYZ"} {
		for _, room := range []int{-1, 0, 6, 11, 99} {
			out[fmt.Sprintf("Write of %q, %d", data, room)] = func(s State) State { s, _ = sendq.Write(s, data, room); return s }
		}
	}
	for _, off := range []uint64{0, 2, 3, 4, 7, 9, 10, mostPlace} {
		for _, n := range []int{-1, 0, 1, 2, 5, 99} {
			for _, fin := range []bool{false, true} {
				name := fmt.Sprintf(" of %d, %d, %v", off, n, fin)
				out["Sent"+name] = func(s State) State { return sendq.Sent(s, off, n, fin) }
				out["Lost"+name] = func(s State) State { return sendq.Lost(s, off, n, fin) }
				out["Acked"+name] = func(s State) State { return sendq.Acked(s, off, n, fin) }
			}
		}
	}
	return out
}

// midst tells a state that has some of all: three bytes gone, and seven that are on their way, acknowledged and Todo.
func midst() State {
	s := sendq.Acked(sent("abcdefghij"), 0, 3, false)
	s = sendq.Acked(sendq.Acked(s, 4, 1, false), 7, 1, false)
	return sendq.Lost(sendq.Lost(s, 5, 1, false), 9, 1, false)
}

func TestWhatIsHandedInStays(t *testing.T) {
	checkState(t, "some of all", midst(), State{Base: 3, Top: 10, Data: "defghij", Acked: set(4, 4, 7, 7), Todo: set(5, 5, 9, 9)})
	for _, first := range []State{
		{},
		{Acked: Set{}, Todo: Set{}},
		fresh("abcde"),
		sent("abcde"),
		midst(),
		sendq.Finish(midst()),
		sendq.Sent(sendq.Finish(midst()), 10, 0, true),
		sendq.Acked(sendq.Finish(midst()), 10, 0, true),
		sendq.Acked(sendq.Finish(midst()), 0, 10, true),
	} {
		for name, call := range calls() {
			name = fmt.Sprintf("%s, of %+v", name, first)
			s := roomy(first)
			before := whole(s)
			out := call(s)
			after := copied(out)
			checkState(t, name, s, first)
			if !slices.Equal(whole(s), before) {
				t.Errorf("%s: %v, not %v", name, whole(s), before)
			}
			// Writing over what was answered changes nothing, nor does one of its sets have a place in common with the other.
			scribble(out.Acked)
			if !slices.Equal(out.Todo, after.Todo) {
				t.Errorf("%s, its one set written over: %v", name, out.Todo)
			}
			scribble(out.Todo)
			if !slices.Equal(whole(s), before) {
				t.Errorf("%s, written over: %v, not %v", name, whole(s), before)
			}
			// Nor does writing over what was handed in.
			again := call(s)
			checkState(t, name+", again", again, after)
			scribble(s.Acked)
			scribble(s.Todo)
			checkState(t, name+", of a state written over", again, after)
		}
	}
}

func TestNextChangesNothing(t *testing.T) {
	for _, first := range []State{{}, fresh("abc"), midst(), sendq.Finish(midst()), sendq.Finish(State{})} {
		s := roomy(first)
		before := whole(s)
		for _, most := range []int{-1, 0, 1, 3, 99} {
			for _, credit := range []uint64{0, 1, 5, 6, highest} {
				if one, two := next(s, most, credit), next(s, most, credit); one != two {
					t.Errorf("Next of %d, %d, of %+v: %v, then %v", most, credit, first, one, two)
				}
			}
		}
		sendq.Done(s)
		sendq.End(s)
		if !same(s, first) || !slices.Equal(whole(s), before) {
			t.Errorf("%+v, not %+v", s, first)
		}
	}
}

// Two that go on from one state do not meet.
func TestTwoOfOneState(t *testing.T) {
	s := roomy(midst())
	one := sendq.Lost(s, 3, 1, false)
	two := sendq.Acked(s, 8, 1, false)
	three := sendq.Sent(s, 5, 1, false)
	four := sendq.Acked(s, 3, 1, false)
	five := with(s, "XY")
	six := with(s, "Z")
	checkState(t, "one", one, State{Base: 3, Top: 10, Data: "defghij", Acked: set(4, 4, 7, 7), Todo: set(3, 3, 5, 5, 9, 9)})
	checkState(t, "two", two, State{Base: 3, Top: 10, Data: "defghij", Acked: set(4, 4, 7, 8), Todo: set(5, 5, 9, 9)})
	checkState(t, "three", three, State{Base: 3, Top: 10, Data: "defghij", Acked: set(4, 4, 7, 7), Todo: set(9, 9)})
	checkState(t, "four", four, State{Base: 5, Top: 10, Data: "fghij", Acked: set(7, 7), Todo: set(5, 5, 9, 9)})
	checkState(t, "five", five, State{Base: 3, Top: 10, Data: "defghijXY", Acked: set(4, 4, 7, 7), Todo: set(5, 5, 9, 11)})
	checkState(t, "six", six, State{Base: 3, Top: 10, Data: "defghijZ", Acked: set(4, 4, 7, 7), Todo: set(5, 5, 9, 10)})
	checkState(t, "all are of", s, midst())
}

// R6: a set of no ranges is like none.
func TestSetsOfNoRanges(t *testing.T) {
	for name, call := range calls() {
		for _, s := range []State{{}, sent("abcde"), sendq.Finish(sent("abcde"))} {
			empty := s
			empty.Acked, empty.Todo = Set{}, Set{}
			bare := s
			bare.Acked, bare.Todo = nil, nil
			checkState(t, name, call(empty), call(bare))
		}
	}
}

// R1: of odd states nothing is said, but all calls end.
func TestOddThingsEnd(t *testing.T) {
	places := []uint64{0, 1, 3, 5, 9, 1 << 40, mostPlace, mostPlace + 1, 1 << 63, highest - 2, highest - 1, highest}
	counts := []int{math.MinInt, -1, 0, 1, 2, 5, math.MaxInt}
	sets := []Set{nil, set(0, 0), set(0, highest), set(3, 1), set(5, 9, 2, 3), set(1, 4, 3, 8), set(highest, highest), set(mostPlace, highest-1), set(1<<63, 0, 4, 4), set(2, 2, 2, 2)}
	for _, base := range places {
		for i, todo := range sets {
			for j, acked := range sets {
				s := State{Base: base, Top: places[(i+j)%len(places)], Data: "abcdef"[:(i+j)%7], Acked: acked, Todo: todo, Fin: i%2 == 0, FinTodo: j%2 == 0, FinAcked: (i+j)%3 == 0}
				sendq.Finish(s)
				sendq.Done(s)
				sendq.End(s)
				for _, n := range counts {
					sendq.Write(s, "XYZ", n)
					for _, off := range places {
						sendq.Next(s, n, off)
						sendq.Sent(s, off, n, j%2 == 0)
						sendq.Lost(s, off, n, j%2 == 0)
						sendq.Acked(s, off, n, j%2 == 0)
					}
				}
			}
		}
	}
}

// R5
func TestManyCallsAtOnce(t *testing.T) {
	shared := sendq.Finish(midst())
	var all sync.WaitGroup
	for seed := range uint64(16) {
		all.Go(func() {
			d, s, b := newDice(seed), State{}, &book{}
			for range 40 {
				var fault string
				if s, fault = d.step(s, 6)(s, b); fault != "" {
					t.Error(seed, fault)
					return
				}
				for _, call := range calls() {
					call(shared)
				}
				next(shared, 9, 9)
			}
		})
	}
	all.Wait()
	checkState(t, "what all call of", shared, sendq.Finish(midst()))
}
