package stream_test

import (
	"fmt"
	"math"
	"reflect"
	"slices"
	"strings"
	"sync"
	"testing"

	"domino/api"
	"domino/frame"
	"domino/gather"
	"domino/ranges"
	"domino/sendq"
	"domino/stream"
)

type (
	State = stream.State
	Frame = frame.Frame
	Set   = ranges.Set
)

const (
	mostNumber = 1<<62 - 1 // of a varint
	mostCredit = 1 << 32
	highest    = math.MaxUint64
	id         = 4
	wide       = 1500 // more than any frame has
	all        = math.MaxUint64 / 2
)

// set tells a set by where its ranges begin and end: lo, hi, lo, hi ..
func set(l ...uint64) Set {
	var out Set
	for i := 0; i < len(l); i += 2 {
		out = append(out, ranges.Range{Lo: l[i], Hi: l[i+1]})
	}
	return out
}

// bare tells s with nil for lists without elements.
func bare(s State) State {
	if len(s.Out.Acked) == 0 {
		s.Out.Acked = nil
	}
	if len(s.Out.Todo) == 0 {
		s.Out.Todo = nil
	}
	if len(s.In.L) == 0 {
		s.In.L = nil
	}
	return s
}

// same tells whether all fields are alike; lists without elements are, and nil ones.
func same(a, b State) bool {
	return reflect.DeepEqual(bare(a), bare(b))
}

func checkState(t *testing.T, name string, s, want State) {
	t.Helper()
	if !same(s, want) {
		t.Errorf("%s:\n%+v, not\n%+v", name, s, want)
	}
}

// copied tells the same state in memory of its own.
func copied(s State) State {
	s.Out.Acked, s.Out.Todo = slices.Clone(s.Out.Acked), slices.Clone(s.Out.Todo)
	s.In.L = slices.Clone(s.In.L)
	return s
}

// part tells a Stream of data from off on.
func part(off uint64, data string) Frame {
	return Frame{Kind: frame.Stream, Id: id, Off: off, Data: data}
}

// last tells a Stream of data from off on, with which the stream ends.
func last(off uint64, data string) Frame {
	return Frame{Kind: frame.Stream, Id: id, Off: off, Data: data, Fin: true}
}

func reset(max, code uint64) Frame {
	return Frame{Kind: frame.Reset, Id: id, Max: max, Code: code}
}

func stop(code uint64) Frame {
	return Frame{Kind: frame.Stop, Id: id, Code: code}
}

func limit(max uint64) Frame {
	return Frame{Kind: frame.MaxStream, Id: id, Max: max}
}

// came tells s when these frames came, which have to be taken.
func came(s State, l ...Frame) State {
	for _, f := range l {
		e := api.ErrNone
		switch f.Kind {
		case frame.Stream:
			s, _, e = stream.Data(s, f)
		case frame.Reset:
			s, _, e = stream.Break(s, f)
		}
		if e != api.OK {
			panic(fmt.Sprint("not taken: ", f, e))
		}
	}
	return s
}

// read tells s when n bytes more were read, which have to be there.
func read(s State, n int) State {
	s, data, _, e := stream.Read(s, n)
	if len(data) != n || e != api.OK {
		panic(fmt.Sprint("not read: ", data, e))
	}
	return s
}

// with tells s when data was written, which has to be taken whole.
func with(s State, data string) State {
	var n int
	if s.Out, n = sendq.Write(s.Out, data, 1<<20); n != len(data) {
		panic(fmt.Sprint("Write: ", n))
	}
	return s
}

// finished tells s when no more is written.
func finished(s State) State {
	s.Out = sendq.Finish(s.Out)
	return s
}

// went tells s when all that Next tells of it was sent, but n frames at most.
func went(s State, n int) State {
	for range n {
		s, _, _, _ = stream.Next(s, id, wide, all)
	}
	return s
}

// done tells s when all that was written went out, and was acknowledged.
func done(s State) State {
	s = finished(s)
	end := sendq.End(s.Out)
	s = went(s, 9)
	s.Out = sendq.Acked(s.Out, 0, int(end), true)
	if !sendq.Done(s.Out) {
		panic(fmt.Sprintf("not done: %+v", s))
	}
	return s
}

// The chapter's example.
func TestTheExample(t *testing.T) {
	s := with(stream.New(2, 9), "abc")
	now, f, n, ok := stream.Next(s, id, wide, all)
	if !frame.Same(f, part(0, "ab")) || n != 2 || !ok {
		t.Errorf("%+v, %d, %v", f, n, ok)
	}
	want := State{Credit: 2, Window: 9, Limit: 9, Out: sendq.State{Data: "abc", Top: 2, Todo: set(2, 2)}}
	checkState(t, "sent", now, want)
}

// P16.1

func TestNew(t *testing.T) {
	for _, credit := range []uint64{0, 1, 2, 9, 4096, mostCredit} {
		for _, window := range []uint64{0, 1, 3, 9, 4096, mostCredit} {
			s := stream.New(credit, window)
			checkState(t, fmt.Sprint("New of ", credit, window), s, State{Credit: credit, Window: window, Limit: window})
		}
	}
}

// P16.2: Data

// taken is what Data or Break tells beside the state.
type taken struct {
	n uint64
	e api.Errno
}

func checkData(t *testing.T, name string, s State, f Frame, want State, more uint64) {
	t.Helper()
	out, n, e := stream.Data(s, f)
	if got := (taken{n, e}); got != (taken{more, api.OK}) {
		t.Errorf("%s: %v, not %d", name, got, more)
	}
	checkState(t, name, out, want)
}

func checkBreak(t *testing.T, name string, s State, f Frame, want State, more uint64) {
	t.Helper()
	out, n, e := stream.Break(s, f)
	if got := (taken{n, e}); got != (taken{more, api.OK}) {
		t.Errorf("%s: %v, not %d", name, got, more)
	}
	checkState(t, name, out, want)
}

// checkRefused tells whether Data, or Break, has an error, and leaves the state as it was.
func checkRefused(t *testing.T, name string, s State, f Frame, want api.Errno) {
	t.Helper()
	call := stream.Data
	if f.Kind == frame.Reset {
		call = stream.Break
	}
	before := copied(s)
	out, n, e := call(s, f)
	if got := (taken{n, e}); got != (taken{0, want}) {
		t.Errorf("%s, %+v: %v, not error %d", name, f, got, want)
	}
	checkState(t, name+", the state that is told", out, before)
	checkState(t, name+", the state that was handed in", s, before)
}

// in tells s with another In.
func in(s State, in gather.State) State {
	s.In = in
	return s
}

func at(off uint64, data string) gather.Part {
	return gather.Part{Off: off, Data: data}
}

func parts(l ...gather.Part) []gather.Part { return l }

func TestDataByTheLimit(t *testing.T) {
	for _, window := range []uint64{3, 9, 10, 100, mostCredit} {
		s := stream.New(0, window)
		for _, data := range []string{"", "a", "abc"} {
			many := uint64(len(data))
			for _, f := range []Frame{part(window-many, data), last(window-many, data)} {
				name := fmt.Sprintf("%d, %q", window, data)
				want := gather.State{}
				if data != "" {
					want.L = parts(at(f.Off, data))
				}
				more := uint64(0)
				if f.Fin {
					want.Final, want.Known = window, true
				}
				if f.Fin || data != "" {
					more = window
				}
				checkData(t, name+", at the limit", s, f, in(s, want), more)
				f.Off++
				checkRefused(t, name+", above the limit", s, f, api.ErrCredit)
				f.Off += 1 << 40
				checkRefused(t, name+", far above the limit", s, f, api.ErrCredit)
				f.Off = mostNumber - many
				checkRefused(t, name+", at the last place", s, f, api.ErrCredit)
				if f.Off = window - many - 1; f.Off < window {
					_, n, e := stream.Data(s, f)
					if f.Fin || data != "" {
						more = window - 1
					}
					if e != api.OK || n != more {
						t.Errorf("%s, below the limit: %d, %d", name, n, e)
					}
				}
			}
		}
	}
}

// A window of none takes no bytes, but an end.
func TestDataOfNoWindow(t *testing.T) {
	s := stream.New(9, 0)
	checkData(t, "nothing", s, part(0, ""), s, 0)
	checkRefused(t, "a byte", s, part(0, "a"), api.ErrCredit)
	checkRefused(t, "nothing at 1", s, part(1, ""), api.ErrCredit)
	checkRefused(t, "an end at 1", s, last(1, ""), api.ErrCredit)
	checkData(t, "an end", s, last(0, ""), in(s, gather.State{Known: true}), 0)
}

func TestDataNumber(t *testing.T) {
	s := came(stream.New(0, 20), part(2, "cd"), part(6, "gh"))
	for _, x := range []struct {
		name string
		f    Frame
		more uint64
		in   gather.State
	}{
		{"bytes behind all", part(8, "ij"), 2, gather.State{L: parts(at(2, "cd"), at(6, "ghij"))}},
		{"bytes far behind all", part(12, "mn"), 6, gather.State{L: parts(at(2, "cd"), at(6, "gh"), at(12, "mn"))}},
		{"bytes across the last ones", part(5, "fGHi"), 1, gather.State{L: parts(at(2, "cd"), at(5, "fghi"))}},
		{"bytes in the gap", part(4, "e"), 0, gather.State{L: parts(at(2, "cde"), at(6, "gh"))}},
		{"bytes at the beginning", part(0, "ab"), 0, gather.State{L: parts(at(0, "abcd"), at(6, "gh"))}},
		{"bytes that are there", part(6, "GH"), 0, gather.State{L: parts(at(2, "cd"), at(6, "gh"))}},
		{"no bytes", part(19, ""), 0, gather.State{L: parts(at(2, "cd"), at(6, "gh"))}},
		{"an end with bytes", last(8, "ij"), 2, gather.State{L: parts(at(2, "cd"), at(6, "ghij")), Final: 10, Known: true}},
		{"an end with bytes that are there", last(6, "GH"), 0, gather.State{L: parts(at(2, "cd"), at(6, "gh")), Final: 8, Known: true}},
		{"an end alone", last(8, ""), 0, gather.State{L: parts(at(2, "cd"), at(6, "gh")), Final: 8, Known: true}},
		{"an end alone, far behind", last(20, ""), 12, gather.State{L: parts(at(2, "cd"), at(6, "gh")), Final: 20, Known: true}},
	} {
		checkData(t, x.name, s, x.f, in(s, x.in), x.more)
	}
}

// With a final size the number is none: what is below it was told with it.
func TestDataNumberWithAFinalSize(t *testing.T) {
	s := came(stream.New(0, 20), last(9, "j"))
	checkData(t, "bytes below it", s, part(3, "de"), in(s, gather.State{L: parts(at(3, "de"), at(9, "j")), Final: 10, Known: true}), 0)
	checkData(t, "bytes up to it", s, part(8, "ij"), in(s, gather.State{L: parts(at(8, "ij")), Final: 10, Known: true}), 0)
	checkData(t, "the end again", s, last(10, ""), s, 0)
	checkData(t, "the end with bytes again", s, last(8, "ij"), in(s, gather.State{L: parts(at(8, "ij")), Final: 10, Known: true}), 0)
	s = read(came(stream.New(0, 9), part(0, "abcde")), 4)
	if s.Limit != 9 {
		t.Fatalf("%+v", s)
	}
	checkData(t, "what was read", s, part(0, "ABCD"), s, 0)
	checkData(t, "what was read, and more", s, part(2, "CDEF"), in(s, gather.State{Read: 4, L: parts(at(4, "eF"))}), 1)
}

func TestDataErrors(t *testing.T) {
	for _, x := range []struct {
		name string
		s    State
		f    Frame
		e    api.Errno
	}{
		{"above a final size", came(stream.New(0, 9), last(4, "e")), part(5, "f"), api.ErrFinal},
		{"across a final size", came(stream.New(0, 9), last(4, "e")), part(4, "ef"), api.ErrFinal},
		{"none, above a final size", came(stream.New(0, 9), last(4, "e")), part(6, ""), api.ErrFinal},
		{"an end above a final size", came(stream.New(0, 9), last(4, "e")), last(6, ""), api.ErrFinal},
		{"an end below a final size", came(stream.New(0, 9), last(4, "e")), last(4, ""), api.ErrFinal},
		{"an end with bytes below a final size", came(stream.New(0, 9), last(5, "")), last(3, "d"), api.ErrFinal},
		{"an end below what came", came(stream.New(0, 9), part(4, "e")), last(4, ""), api.ErrFinal},
		{"an end with bytes below what came", came(stream.New(0, 9), part(4, "e")), last(0, "abcd"), api.ErrFinal},
		{"an end below what was read", read(came(stream.New(0, 9), part(0, "abc")), 3), last(2, ""), api.ErrFinal},
		{"an end with bytes below what was read", read(came(stream.New(0, 9), part(0, "abc")), 3), last(0, "ab"), api.ErrFinal},
		{"above a final size, at the limit", came(stream.New(0, 9), last(4, "e")), part(8, "i"), api.ErrFinal},
		{"above a final size, and the limit", came(stream.New(0, 9), last(4, "e")), part(8, "ij"), api.ErrCredit},
		{"an end above a final size, at the limit", came(stream.New(0, 9), last(4, "e")), last(9, ""), api.ErrFinal},
		{"an end above a final size, and the limit", came(stream.New(0, 9), last(4, "e")), last(10, ""), api.ErrCredit},
		{"above a final size that is the limit", came(stream.New(0, 9), last(9, "")), part(8, "ij"), api.ErrCredit},
		{"at the last place, above a final size", came(stream.New(0, 9), last(4, "e")), last(mostNumber-1, "z"), api.ErrCredit},
	} {
		checkRefused(t, x.name, x.s, x.f, x.e)
	}
}

// What comes for a stream that is broken is looked at, and left aside.
func TestDataOfABrokenStream(t *testing.T) {
	s := came(stream.New(0, 9), part(1, "bc"), reset(6, 77))
	for _, f := range []Frame{part(0, "abc"), part(0, ""), part(3, "def"), part(5, "f"), part(6, ""), last(6, ""), last(3, "def")} {
		checkData(t, fmt.Sprintf("%+v", f), s, f, s, 0)
	}
	for _, f := range []Frame{part(3, "defg"), part(6, "g"), part(7, ""), part(9, ""), last(5, ""), last(7, ""), last(0, "abc"), last(8, "i")} {
		checkRefused(t, "broken", s, f, api.ErrFinal)
	}
	for _, f := range []Frame{part(9, "j"), part(10, ""), last(10, ""), last(9, "j"), part(mostNumber, "")} {
		checkRefused(t, "broken", s, f, api.ErrCredit)
	}
}

// P16.2: Break

// broken tells s when it is broken, with that In.
func broken(s State, why uint64, in gather.State) State {
	s.Broken, s.Why, s.In = true, why, in
	return s
}

func TestBreakByTheLimit(t *testing.T) {
	for _, window := range []uint64{0, 1, 9, 10, mostCredit} {
		s := stream.New(0, window)
		name := fmt.Sprint("a window of ", window)
		checkBreak(t, name+", at the limit", s, reset(window, 7), broken(s, 7, gather.State{Final: window, Known: true}), window)
		checkRefused(t, name+", above the limit", s, reset(window+1, 7), api.ErrCredit)
		checkRefused(t, name+", far above the limit", s, reset(mostNumber, 7), api.ErrCredit)
		if window > 0 {
			checkBreak(t, name+", below the limit", s, reset(window-1, 7), broken(s, 7, gather.State{Final: window - 1, Known: true}), window-1)
		}
	}
	checkBreak(t, "nothing", stream.New(0, 9), reset(0, 0), broken(stream.New(0, 9), 0, gather.State{Known: true}), 0)
	checkBreak(t, "the greatest code", stream.New(0, 9), reset(0, mostNumber), broken(stream.New(0, 9), mostNumber, gather.State{Known: true}), 0)
}

func TestBreakErrors(t *testing.T) {
	for _, x := range []struct {
		name string
		s    State
		f    Frame
		e    api.Errno
	}{
		{"below what came", came(stream.New(0, 9), part(4, "e")), reset(4, 7), api.ErrFinal},
		{"0, below what came", came(stream.New(0, 9), part(4, "e")), reset(0, 7), api.ErrFinal},
		{"below what was read", read(came(stream.New(0, 9), part(0, "abc")), 3), reset(2, 7), api.ErrFinal},
		{"below a final size", came(stream.New(0, 9), last(4, "e")), reset(4, 7), api.ErrFinal},
		{"above a final size", came(stream.New(0, 9), last(4, "e")), reset(6, 7), api.ErrFinal},
		{"above a final size, at the limit", came(stream.New(0, 9), last(4, "e")), reset(9, 7), api.ErrFinal},
		{"above a final size, and the limit", came(stream.New(0, 9), last(4, "e")), reset(10, 7), api.ErrCredit},
		{"above a final size that is the limit", came(stream.New(0, 9), last(9, "")), reset(10, 7), api.ErrCredit},
		{"above a final size, of all that is ready", came(stream.New(0, 9), last(0, "abcde")), reset(6, 7), api.ErrFinal},
		{"below a final size, of all that is ready", came(stream.New(0, 9), last(0, "abcde")), reset(4, 7), api.ErrFinal},
		{"above the limit, of all that is ready", came(stream.New(0, 9), last(0, "abcde")), reset(10, 7), api.ErrCredit},
		{"above a final size, broken", came(stream.New(0, 9), reset(5, 3)), reset(6, 7), api.ErrFinal},
		{"below a final size, broken", came(stream.New(0, 9), reset(5, 3)), reset(4, 7), api.ErrFinal},
		{"above the limit, broken", came(stream.New(0, 9), reset(5, 3)), reset(10, 7), api.ErrCredit},
	} {
		checkRefused(t, x.name, x.s, x.f, x.e)
	}
}

func TestBreak(t *testing.T) {
	window := stream.New(3, 9)
	for _, x := range []struct {
		name string
		s    State
		max  uint64
		in   gather.State
		more uint64
	}{
		{"nothing came", window, 5, gather.State{Final: 5, Known: true}, 5},
		{"bytes came", came(window, part(0, "abc")), 5, gather.State{Final: 5, Known: true}, 2},
		{"all bytes came, but not that they are all", came(window, part(0, "abc")), 3, gather.State{Final: 3, Known: true}, 0},
		{"bytes came behind a gap", came(window, part(2, "c"), part(4, "e")), 8, gather.State{Final: 8, Known: true}, 3},
		{"some were read", read(came(window, part(0, "abc")), 2), 5, gather.State{Read: 2, Final: 5, Known: true}, 2},
		{"all were read, but not that they are all", read(came(window, part(0, "abc")), 3), 3, gather.State{Read: 3, Final: 3, Known: true}, 0},
		{"the end came, and no byte", came(window, last(5, "")), 5, gather.State{Final: 5, Known: true}, 0},
		{"the end came, and some bytes", came(window, part(0, "abc"), last(5, "")), 5, gather.State{Final: 5, Known: true}, 0},
		{"the end came, and all but the first byte", came(window, last(1, "bcde")), 5, gather.State{Final: 5, Known: true}, 0},
		{"the end came, and all but the last byte", came(window, part(0, "abcd"), last(5, "")), 5, gather.State{Final: 5, Known: true}, 0},
		{"the end came, and all but one that was not read", came(window, part(0, "ab"), last(3, "de")), 5, gather.State{Final: 5, Known: true}, 0},
		{"the end came, and some were read", read(came(window, part(0, "ab"), last(3, "de")), 2), 5, gather.State{Read: 2, Final: 5, Known: true}, 0},
	} {
		checkBreak(t, x.name, x.s, reset(x.max, 77), broken(x.s, 77, x.in), x.more)
	}
}

// Who has all of it loses nothing.
func TestBreakOfAllThatCame(t *testing.T) {
	window := stream.New(3, 9)
	for name, s := range map[string]State{
		"nothing, that ends":                 came(window, last(0, "")),
		"all in one":                         came(window, last(0, "abcde")),
		"all in pieces":                      came(window, last(3, "de"), part(0, "abc")),
		"some were read":                     read(came(window, last(0, "abcde")), 2),
		"all were read":                      read(came(window, last(0, "abcde")), 5),
		"all were read ahead of the end":     came(read(came(window, part(0, "abcde")), 5), last(5, "")),
		"it was asked to stop ahead of that": came(stream.Ask(window, 3), last(0, "abcde")),
	} {
		checkBreak(t, name, s, reset(s.In.Final, 77), s, 0)
	}
}

// The first code stays.
func TestBreakOfABrokenStream(t *testing.T) {
	for name, s := range map[string]State{
		"nothing came":   came(stream.New(0, 9), reset(5, 77)),
		"nothing at all": came(stream.New(0, 9), reset(0, 77)),
		"bytes came":     came(stream.New(0, 9), part(0, "abc"), reset(5, 77)),
		"some were read": came(read(came(stream.New(0, 9), part(0, "abc")), 2), reset(5, 77)),
		"all were read":  came(read(came(stream.New(0, 9), part(0, "abc")), 3), reset(3, 77)),
		"a code of 0":    came(stream.New(0, 9), reset(5, 0)),
	} {
		why := s.Why
		for _, code := range []uint64{0, 1, 77, 78, mostNumber} {
			checkBreak(t, name, s, reset(s.In.Final, code), s, 0)
		}
		if s.Why != why || name != "a code of 0" && why != 77 {
			t.Errorf("%s: %+v", name, s)
		}
	}
}

// What has to be sent stays to be sent, whatever comes.
func TestBreakLeavesTheRest(t *testing.T) {
	s := read(came(with(stream.New(9, 9), "abc"), part(0, "abcdefg")), 6)
	s = stream.Give(stream.Ask(s, 3), 4)
	if !s.Raise || !s.StopTodo || !s.Todo {
		t.Fatalf("%+v", s)
	}
	checkBreak(t, "all to be sent", s, reset(8, 77), broken(s, 77, gather.State{Read: 6, Final: 8, Known: true}), 1)
}

// P16.3

func TestGrant(t *testing.T) {
	for _, credit := range []uint64{0, 1, 9, mostCredit} {
		s := stream.New(credit, 9)
		for _, max := range []uint64{0, 1, 2, 8, 9, 10, mostCredit - 1, mostCredit} {
			want := s
			want.Credit = max
			if max < credit {
				want.Credit = credit
			}
			checkState(t, fmt.Sprint("Grant of ", max, " to ", credit), stream.Grant(s, max), want)
		}
	}
	s := stream.Give(with(stream.New(2, 9), "abc"), 3)
	want := s
	want.Credit = 3
	checkState(t, "Grant to one that is given up", stream.Grant(s, 3), want)
}

// given tells s when it is given up.
func given(s State, code uint64) State {
	s.Reset, s.Todo, s.Code = true, true, code
	return s
}

func TestGive(t *testing.T) {
	for name, give := range map[string]func(State, uint64) State{"Give": stream.Give, "Stopped": stream.Stopped} {
		for which, s := range map[string]State{
			"nothing":                       stream.New(9, 9),
			"bytes":                         with(stream.New(9, 9), "abc"),
			"bytes that went":               went(with(stream.New(9, 9), "abc"), 1),
			"bytes, and the end":            finished(with(stream.New(9, 9), "abc")),
			"bytes, and the end, that went": went(finished(with(stream.New(9, 9), "abc")), 1),
			"the end alone":                 finished(stream.New(9, 9)),
			"bytes that came":               stream.Acked(went(with(stream.New(9, 9), "abc"), 1), part(0, "abc")),
			"all bytes, but the end":        stream.Acked(went(finished(with(stream.New(9, 9), "abc")), 1), part(0, "abc")),
			"the end, but not all bytes":    stream.Acked(went(finished(with(stream.New(9, 9), "abc")), 1), last(1, "bc")),
			"one that is broken":            came(with(stream.New(9, 9), "abc"), reset(3, 77)),
		} {
			for _, code := range []uint64{0, 5, mostNumber} {
				checkState(t, name+", "+which, give(s, code), given(s, code))
			}
		}
		for which, s := range map[string]State{
			"all":           done(with(stream.New(9, 9), "abc")),
			"the end alone": done(stream.New(9, 9)),
		} {
			checkState(t, name+", of all that came, "+which, give(s, 5), s)
		}
		s := given(with(stream.New(9, 9), "abc"), 5)
		checkState(t, name+", again", give(s, 6), s)
		s, _, _, _ = stream.Next(s, id, wide, all)
		if s.Todo {
			t.Fatalf("%+v", s)
		}
		checkState(t, name+", when it was sent", give(s, 6), s)
		s = stream.Acked(s, reset(0, 5))
		checkState(t, name+", when it came", give(s, 6), s)
		// Given up once, it stays so, even if all came by what went ahead of that.
		s = stream.Acked(given(went(finished(with(stream.New(9, 9), "abc")), 1), 5), last(0, "abc"))
		if !sendq.Done(s.Out) {
			t.Fatalf("%+v", s)
		}
		checkState(t, name+", of all that came, again", give(s, 6), s)
	}
}

// asked tells s when it was asked to stop.
func asked(s State, code uint64) State {
	s.Stop, s.StopTodo, s.StopCode = true, true, code
	return s
}

func TestAsk(t *testing.T) {
	window := stream.New(9, 9)
	for name, s := range map[string]State{
		"nothing":                        window,
		"bytes":                          came(window, part(0, "abc")),
		"bytes that were read":           read(came(window, part(0, "abc")), 3),
		"the end, and a gap":             came(window, last(2, "c")),
		"the end, and a gap behind":      came(window, part(0, "ab"), last(3, "d")),
		"the end, and no bytes":          came(window, last(3, "")),
		"the end, and some were read":    read(came(window, part(0, "abc"), last(4, "")), 3),
		"one that is given up":           stream.Give(window, 3),
		"one of which all went and came": done(with(window, "abc")),
	} {
		for _, code := range []uint64{0, 5, mostNumber} {
			checkState(t, name, stream.Ask(s, code), asked(s, code))
		}
	}
	for name, s := range map[string]State{
		"one that was asked":             asked(window, 5),
		"one that was asked, and sent":   went(asked(window, 5), 1),
		"one that was asked with 0":      asked(window, 0),
		"one that is broken":             came(window, reset(3, 77)),
		"one that is broken at 0":        came(window, reset(0, 77)),
		"one that is broken behind some": came(window, part(0, "ab"), reset(3, 77)),
		"all is ready":                   came(window, last(0, "abc")),
		"all was read":                   read(came(window, last(0, "abc")), 3),
		"some was read, all is ready":    read(came(window, last(0, "abc")), 1),
		"nothing, that ends":             came(window, last(0, "")),
	} {
		for _, code := range []uint64{0, 5, 6} {
			checkState(t, name, stream.Ask(s, code), s)
		}
	}
}

// P16.4

// got is what Read tells beside the state.
type got struct {
	data string
	all  bool
	e    api.Errno
}

func checkRead(t *testing.T, name string, s State, n int, want State, told got) State {
	t.Helper()
	out, data, all, e := stream.Read(s, n)
	if got := (got{data, all, e}); got != told {
		t.Errorf("%s: Read of %d: %v, not %v", name, n, got, told)
	}
	checkState(t, fmt.Sprint(name, ": Read of ", n), out, want)
	return out
}

func TestReadOfABrokenStream(t *testing.T) {
	window := stream.New(0, 9)
	for name, s := range map[string]State{
		"nothing came":      came(window, reset(5, 77)),
		"nothing at all":    came(window, reset(0, 77)),
		"bytes came":        came(window, part(0, "abc"), reset(5, 77)),
		"some were read":    came(read(came(window, part(0, "abc")), 2), reset(5, 77)),
		"all were read":     came(read(came(window, part(0, "abc")), 3), reset(3, 77)),
		"all but an end":    came(window, part(0, "abc"), reset(3, 77)),
		"a limit to raise":  came(read(came(window, part(0, "abcdefgh")), 7), reset(8, 77)),
		"one asked to stop": came(stream.Ask(window, 4), reset(5, 77)),
	} {
		for _, n := range []int{math.MinInt, -1, 0, 1, 3, 99, math.MaxInt} {
			checkRead(t, name, s, n, s, got{"", true, api.ErrState})
		}
	}
}

func TestRead(t *testing.T) {
	window := stream.New(0, 20)
	s := came(window, part(0, "abcde"), part(7, "hi"))
	rest := func(n uint64) State {
		return in(s, gather.State{Read: n, L: parts(at(n, "abcde"[n:]), at(7, "hi"))})
	}
	for _, n := range []int{math.MinInt, -99, -1, 0} {
		checkRead(t, "none", s, n, s, got{})
	}
	checkRead(t, "one", s, 1, rest(1), got{"a", false, api.OK})
	checkRead(t, "all but one", s, 4, rest(4), got{"abcd", false, api.OK})
	gone := in(s, gather.State{Read: 5, L: parts(at(7, "hi"))})
	for _, n := range []int{5, 6, 7, 99, math.MaxInt} {
		checkRead(t, "up to the gap", s, n, gone, got{"abcde", false, api.OK})
		checkRead(t, "at the gap", gone, n, gone, got{})
	}
	for _, n := range []int{-1, 0, 1, 99} {
		checkRead(t, "of nothing", window, n, window, got{})
		checkRead(t, "of bytes behind a gap", came(window, part(1, "b")), n, came(window, part(1, "b")), got{})
		ends := came(window, last(0, ""))
		checkRead(t, "of nothing, that ends", ends, n, ends, got{"", true, api.OK})
		far := came(window, last(3, ""))
		checkRead(t, "of nothing, that ends behind a gap", far, n, far, got{})
	}
}

func TestReadToTheEnd(t *testing.T) {
	window := stream.New(0, 20)
	s := came(window, last(0, "abc"))
	for _, n := range []int{math.MinInt, -1, 0} {
		checkRead(t, "none", s, n, s, got{})
	}
	end := in(s, gather.State{Read: 3, Final: 3, Known: true})
	checkRead(t, "one", s, 1, in(s, gather.State{Read: 1, L: parts(at(1, "bc")), Final: 3, Known: true}), got{"a", false, api.OK})
	checkRead(t, "two", s, 2, in(s, gather.State{Read: 2, L: parts(at(2, "c")), Final: 3, Known: true}), got{"ab", false, api.OK})
	for _, n := range []int{3, 4, 99, math.MaxInt} {
		checkRead(t, "all", s, n, end, got{"abc", true, api.OK})
	}
	for _, n := range []int{-1, 0, 1, 99} {
		checkRead(t, "at the end", end, n, end, got{"", true, api.OK})
	}
}

// The limit goes on when less than half of the window is left to come.
func TestReadRaisesTheLimit(t *testing.T) {
	for _, x := range []struct {
		window, n int
		raise     bool
	}{
		{0, 0, false}, {1, 0, false}, {1, 1, false},
		{2, 0, false}, {2, 1, false}, {2, 2, true},
		{3, 1, false}, {3, 2, false}, {3, 3, true},
		{4, 1, false}, {4, 2, false}, {4, 3, true}, {4, 4, true},
		{5, 2, false}, {5, 3, false}, {5, 4, true}, {5, 5, true},
		{10, 0, false}, {10, 4, false}, {10, 5, false}, {10, 6, true}, {10, 7, true}, {10, 10, true},
		{11, 5, false}, {11, 6, false}, {11, 7, true}, {11, 8, true}, {11, 11, true},
		{1000, 499, false}, {1000, 500, false}, {1000, 501, true},
		{1001, 500, false}, {1001, 501, false}, {1001, 502, true},
	} {
		name := fmt.Sprintf("a window of %d", x.window)
		data := strings.Repeat("x", x.window)
		s := came(stream.New(0, uint64(x.window)), part(0, data))
		want := in(s, gather.State{Read: uint64(x.n)})
		if x.n < x.window {
			want.In.L = parts(at(uint64(x.n), data[x.n:]))
		}
		if x.raise {
			want.Limit, want.Raise = uint64(x.n+x.window), true
		}
		checkRead(t, name, s, x.n, want, got{data[:x.n], false, api.OK})
		// Byte by byte it goes on at the first of these.
		one := s
		for i := range x.n {
			before := one
			if one, _, _, _ = stream.Read(one, 1); one.Raise != (uint64(x.window-i-1) < uint64(x.window)/2 || before.Raise) {
				t.Errorf("%s, after %d: %+v", name, i+1, one)
			}
		}
	}
}

func TestReadRaisesTheLimitAgain(t *testing.T) {
	s := came(stream.New(0, 10), part(0, "abcdefghij"))
	s = checkRead(t, "six", s, 6, State{Window: 10, Limit: 16, Raise: true, In: gather.State{Read: 6, L: parts(at(6, "ghij"))}}, got{"abcdef", false, api.OK})
	s = checkRead(t, "four", s, 4, State{Window: 10, Limit: 16, Raise: true, In: gather.State{Read: 10}}, got{"ghij", false, api.OK})
	s = came(went(s, 1), part(10, "klmnop"))
	s = checkRead(t, "one", s, 1, State{Window: 10, Limit: 16, In: gather.State{Read: 11, L: parts(at(11, "lmnop"))}}, got{"k", false, api.OK})
	s = checkRead(t, "one more", s, 1, State{Window: 10, Limit: 22, Raise: true, In: gather.State{Read: 12, L: parts(at(12, "mnop"))}}, got{"l", false, api.OK})
	s = came(s, part(16, "qrstuv"))
	checkRefused(t, "at the new limit", s, part(22, "w"), api.ErrCredit)
	s = checkRead(t, "all", s, 99, State{Window: 10, Limit: 32, Raise: true, In: gather.State{Read: 22}}, got{"mnopqrstuv", false, api.OK})
	checkRead(t, "none", s, 99, s, got{})
}

// Where the end is known, nobody needs a greater limit.
func TestReadWithAFinalSizeRaisesNothing(t *testing.T) {
	s := came(stream.New(0, 10), last(0, "abcdefghij"))
	for _, n := range []int{1, 5, 6, 9, 10} {
		out, _, _, _ := stream.Read(s, n)
		if out.Limit != 10 || out.Raise {
			t.Errorf("%d: %+v", n, out)
		}
	}
	s = came(stream.New(0, 10), part(0, "abcdefgh"), last(10, ""))
	if out, _, _, _ := stream.Read(s, 8); out.Limit != 10 || out.Raise {
		t.Errorf("a gap: %+v", out)
	}
	// What has to be told already stays so.
	s = came(read(came(stream.New(0, 10), part(0, "abcdefgh")), 6), last(8, ""))
	if out, _, all, _ := stream.Read(s, 2); out.Limit != 16 || !out.Raise || !all {
		t.Errorf("raised ahead: %+v", out)
	}
}

// P16.5

// sent is what Next tells beside the state.
type sent struct {
	f    Frame
	more uint64
	ok   bool
}

func checkNext(t *testing.T, name string, s State, most int, more uint64, want State, told sent) State {
	t.Helper()
	return checkNextOf(t, name, s, id, most, more, want, told)
}

func checkNextOf(t *testing.T, name string, s State, id uint64, most int, more uint64, want State, told sent) State {
	t.Helper()
	out, f, n, ok := stream.Next(s, id, most, more)
	if !frame.Same(f, told.f) || n != told.more || ok != told.ok {
		t.Errorf("%s: Next of %d, more %d: %+v, %d, %v, not %+v", name, most, more, f, n, ok, told)
	}
	checkState(t, fmt.Sprintf("%s: Next of %d, more %d", name, most, more), out, want)
	return out
}

// size tells how many bytes f has.
func size(f Frame) int {
	p, e := frame.Put(f)
	if e != api.OK {
		panic(fmt.Sprint("no frame: ", f))
	}
	return len(p)
}

// noReset, noStop and noRaise tell s when these frames were sent.
func noReset(s State) State { s.Todo = false; return s }
func noStop(s State) State  { s.StopTodo = false; return s }
func noRaise(s State) State { s.Raise = false; return s }

// out tells s when n bytes from off on were sent, and the end, if fin.
func out(s State, off uint64, n int, fin bool) State {
	s.Out = sendq.Sent(s.Out, off, n, fin)
	return s
}

// raised tells a stream with a limit of 16 that has to be told.
func raised() State {
	return read(came(stream.New(9, 10), part(0, "abcdefgh")), 6)
}

func TestNextOfNothing(t *testing.T) {
	for name, s := range map[string]State{
		"nothing":                    stream.New(9, 9),
		"bytes without credit":       with(stream.New(0, 9), "abc"),
		"bytes behind the credit":    went(with(stream.New(2, 9), "abc"), 1),
		"bytes that went":            went(with(stream.New(9, 9), "abc"), 1),
		"the end that went":          went(finished(stream.New(9, 9)), 1),
		"all that came":              done(with(stream.New(9, 9), "abc")),
		"given up, and sent":         went(stream.Give(with(stream.New(9, 9), "abc"), 3), 1),
		"given up, and acknowledged": stream.Acked(stream.Give(with(stream.New(9, 9), "abc"), 3), reset(0, 3)),
		"asked, and sent":            went(stream.Ask(stream.New(9, 9), 3), 1),
		"raised, and sent":           went(raised(), 1),
		"broken":                     came(stream.New(9, 9), reset(4, 3)),
	} {
		for _, most := range []int{math.MinInt, -1, 0, 1, 9, 1500, math.MaxInt} {
			for _, more := range []uint64{0, 1, 99, all} {
				checkNext(t, name, s, most, more, s, sent{})
			}
		}
	}
}

// Each frame alone goes just if it has as many bytes as there are.
func TestNextOfOne(t *testing.T) {
	for _, x := range []struct {
		name string
		s    State
		f    Frame
		want func(State) State
	}{
		{"a Reset", stream.Give(stream.New(9, 9), 3), reset(0, 3), noReset},
		{"a Reset of many", stream.Give(went(with(stream.New(999, 9), strings.Repeat("x", 500)), 1), mostNumber), reset(500, mostNumber), noReset},
		{"a Reset of an end", stream.Give(went(finished(with(stream.New(9, 9), "abc")), 1), 0), reset(3, 0), noReset},
		{"a Reset of bytes in part", stream.Give(went(with(stream.New(2, 9), "abc"), 1), 3), reset(2, 3), noReset},
		{"a Stop", stream.Ask(stream.New(9, 9), 3), stop(3), noStop},
		{"a Stop of many", stream.Ask(stream.New(9, 9), mostNumber), stop(mostNumber), noStop},
		{"a MaxStream", raised(), limit(16), noRaise},
		{"the end alone", finished(stream.New(0, 9)), last(0, ""), func(s State) State { return out(s, 0, 0, true) }},
		{"the end behind bytes", finished(went(with(stream.New(9, 9), "abc"), 1)), last(3, ""), func(s State) State { return out(s, 3, 0, true) }},
	} {
		many := size(x.f)
		for _, most := range []int{many, many + 1, 100, wide, 5000, math.MaxInt} {
			for _, more := range []uint64{0, 1, 9, all} {
				checkNext(t, x.name, x.s, most, more, x.want(x.s), sent{x.f, 0, true})
			}
		}
		for _, most := range []int{many - 1, many - 2, 1, 0, -1, math.MinInt} {
			checkNext(t, x.name+", that does not fit", x.s, most, all, x.s, sent{})
		}
	}
}

// busy tells a stream that has all of them to send: 24 bytes to go, of which five went, and its limit raised.
func busy(credit uint64) State {
	s := went(with(stream.New(credit, 10), "01234"), 1)
	return stream.Ask(read(came(with(s, "5678901234567890123"), part(0, "abcdefgh")), 6), 7)
}

func TestNextInTheirOrder(t *testing.T) {
	s := stream.Give(busy(99), 1000)
	s = checkNext(t, "first", s, wide, all, noReset(s), sent{reset(5, 1000), 0, true})
	s = checkNext(t, "second", s, wide, all, noStop(s), sent{stop(7), 0, true})
	s = checkNext(t, "third", s, wide, all, noRaise(s), sent{limit(16), 0, true})
	checkNext(t, "no Stream when it is given up", s, wide, all, s, sent{})

	s = finished(busy(99))
	s = checkNext(t, "first", s, wide, all, noStop(s), sent{stop(7), 0, true})
	s = checkNext(t, "second", s, wide, all, noRaise(s), sent{limit(16), 0, true})
	s = checkNext(t, "third", s, wide, all, out(s, 5, 19, true), sent{last(5, "5678901234567890123"), 19, true})
	checkNext(t, "none is left", s, wide, all, s, sent{})
}

// What does not fit lets the next one go that does.
func TestNextOneThatFits(t *testing.T) {
	// A Reset of 5 bytes, a Stop of 3, and a MaxStream of 3.
	s := stream.Give(busy(99), 1000)
	for most, want := range map[int]sent{6: {reset(5, 1000), 0, true}, 5: {reset(5, 1000), 0, true}, 4: {stop(7), 0, true}, 3: {stop(7), 0, true}, 2: {}, 1: {}, 0: {}, -1: {}} {
		now := s
		switch want.f.Kind {
		case frame.Reset:
			now = noReset(s)
		case frame.Stop:
			now = noStop(s)
		}
		checkNext(t, "a long Reset", s, most, all, now, want)
	}
	checkNext(t, "a long Reset, and no Stop", noStop(s), 4, all, noRaise(noStop(s)), sent{limit(16), 0, true})
	checkNext(t, "a long Reset, no Stop, no MaxStream", noRaise(noStop(s)), 4, all, noRaise(noStop(s)), sent{})
	// A Stop of 10 bytes, a MaxStream of 3, a Stream of 5 at least.
	s = busy(99)
	s.StopCode = mostNumber
	for most := 11; most > -2; most-- {
		switch {
		case most >= 10:
			checkNext(t, "a long Stop", s, most, all, noStop(s), sent{stop(mostNumber), 0, true})
		case most >= 3:
			checkNext(t, "a long Stop", s, most, all, noRaise(s), sent{limit(16), 0, true})
		default:
			checkNext(t, "a long Stop", s, most, all, s, sent{})
		}
	}
	s = noRaise(s)
	checkNext(t, "a long Stop, no MaxStream", s, 9, all, out(s, 5, 5, false), sent{part(5, "56789"), 5, true})
	checkNext(t, "a long Stop, no MaxStream", s, 5, all, out(s, 5, 1, false), sent{part(5, "5"), 1, true})
	checkNext(t, "a long Stop, no MaxStream", s, 4, all, s, sent{})
	// A MaxStream of 10 bytes.
	s = noStop(raised())
	s.Limit = mostCredit
	s = with(s, "abc")
	checkNext(t, "a long MaxStream", s, 10, all, noRaise(s), sent{limit(mostCredit), 0, true})
	checkNext(t, "a long MaxStream", s, 9, all, out(s, 0, 3, false), sent{part(0, "abc"), 3, true})
	checkNext(t, "a long MaxStream", s, 5, all, out(s, 0, 2, false), sent{part(0, "ab"), 2, true})
	checkNext(t, "a long MaxStream", s, 3, all, s, sent{})
}

// As many bytes go as fit: a Stream from place 0 on has three bytes more than its data, from another one on four or more.
func TestNextBytesThatFit(t *testing.T) {
	s := with(stream.New(99, 9), "abcdefghij")
	ends := finished(s)
	for most := -1; most < 20; most++ {
		n := min(most-3, 10)
		if n < 1 {
			checkNext(t, "from 0 on", s, most, all, s, sent{})
			checkNext(t, "from 0 on, with the end", ends, most, all, ends, sent{})
			continue
		}
		checkNext(t, "from 0 on", s, most, all, out(s, 0, n, false), sent{part(0, "abcdefghij"[:n]), uint64(n), true})
		f := part(0, "abcdefghij"[:n])
		f.Fin = n == 10
		checkNext(t, "from 0 on, with the end", ends, most, all, out(ends, 0, n, n == 10), sent{f, uint64(n), true})
	}
	s = with(went(with(stream.New(9999, 9), "abcdefghij"), 1), "klm")
	for most := -1; most < 20; most++ {
		n := min(most-4, 3)
		if n < 1 {
			checkNext(t, "from 10 on", s, most, all, s, sent{})
			continue
		}
		checkNext(t, "from 10 on", s, most, all, out(s, 10, n, false), sent{part(10, "klm"[:n]), uint64(n), true})
	}
}

// The length of 64 bytes and more has a byte more than that of 63: where it has no room, a byte of data has none.
func TestNextBytesAtALongerLength(t *testing.T) {
	data := strings.Repeat("0123456789", 8)
	s := with(stream.New(999, 9), data)
	for most, n := range map[int]int{65: 62, 66: 63, 67: 63, 68: 64, 69: 65, 83: 79, 84: 80, 85: 80, wide: 80} {
		checkNext(t, "ten and more", s, most, all, out(s, 0, n, false), sent{part(0, data[:n]), uint64(n), true})
	}
}

// A frame has MaxData bytes at most, however many fit.
func TestNextMostBytes(t *testing.T) {
	data := strings.Repeat("0123456789", 300)
	s := with(stream.New(9999, 9), data)
	for most, n := range map[int]int{1203: 1199, 1204: 1200, 1205: 1200, 1500: 1200, 5000: 1200, math.MaxInt: 1200} {
		checkNext(t, "many bytes", s, most, all, out(s, 0, n, false), sent{part(0, data[:n]), uint64(n), true})
	}
	s = finished(with(stream.New(9999, 9), data[:1200]))
	checkNext(t, "just as many", s, 5000, all, out(s, 0, 1200, true), sent{last(0, data[:1200]), 1200, true})
	s = finished(with(stream.New(9999, 9), data[:1201]))
	s = checkNext(t, "one too many", s, 5000, all, out(s, 0, 1200, false), sent{part(0, data[:1200]), 1200, true})
	checkNext(t, "the last one", s, 5000, all, out(s, 1200, 1, true), sent{last(1200, data[1200:1201]), 1, true})
}

// The number of a stream, too, has its bytes; one that no varint has is in no frame.
func TestNextById(t *testing.T) {
	for _, x := range []struct {
		id   uint64
		long int
	}{{0, 1}, {1, 1}, {63, 1}, {64, 2}, {16383, 2}, {16384, 4}, {1<<30 - 1, 4}, {1 << 30, 8}, {mostNumber, 8}} {
		of := func(f Frame) Frame { f.Id = x.id; return f }
		s := with(stream.New(9, 9), "abc")
		checkNextOf(t, "bytes", s, x.id, x.long+5, all, out(s, 0, 3, false), sent{of(part(0, "abc")), 3, true})
		checkNextOf(t, "bytes", s, x.id, x.long+3, all, out(s, 0, 1, false), sent{of(part(0, "a")), 1, true})
		checkNextOf(t, "bytes", s, x.id, x.long+2, all, s, sent{})
		s = stream.Give(s, 3)
		checkNextOf(t, "a Reset", s, x.id, x.long+3, all, noReset(s), sent{of(reset(0, 3)), 0, true})
		checkNextOf(t, "a Reset", s, x.id, x.long+2, all, s, sent{})
		s = stream.Ask(stream.New(9, 9), 3)
		checkNextOf(t, "a Stop", s, x.id, x.long+2, all, noStop(s), sent{of(stop(3)), 0, true})
		checkNextOf(t, "a Stop", s, x.id, x.long+1, all, s, sent{})
		s = raised()
		checkNextOf(t, "a MaxStream", s, x.id, x.long+2, all, noRaise(s), sent{of(limit(16)), 0, true})
		checkNextOf(t, "a MaxStream", s, x.id, x.long+1, all, s, sent{})
	}
	for _, id := range []uint64{mostNumber + 1, 1 << 63, highest} {
		s := stream.Give(finished(busy(99)), 3)
		checkNextOf(t, "a number of no varint", s, id, wide, all, s, sent{})
		s = finished(busy(99))
		checkNextOf(t, "a number of no varint", s, id, wide, all, s, sent{})
	}
}

// Bytes go up to the credit, and up to Top and more, whichever is less.
func TestNextByCredit(t *testing.T) {
	for credit := range uint64(13) {
		for more := range uint64(13) {
			for top := range min(credit, 9) {
				s := stream.New(top, 9)
				s = stream.Grant(went(with(s, "0123456789"), 1), credit)
				if s.Out.Top != top {
					t.Fatalf("%+v", s)
				}
				for _, s := range []State{s, finished(s)} {
					name := fmt.Sprintf("credit %d, top %d, more %d", credit, top, more)
					end := min(credit, top+more, 10)
					if end <= top {
						checkNext(t, name, s, wide, more, s, sent{})
						continue
					}
					f := part(top, "0123456789"[top:end])
					f.Fin = s.Out.Fin && end == 10
					checkNext(t, name, s, wide, more, out(s, top, int(end-top), f.Fin), sent{f, end - top, true})
				}
			}
		}
	}
}

// What is sent again takes no credit, and its number is what is above Top alone.
func TestNextAgain(t *testing.T) {
	s := went(with(stream.New(9, 9), "012345"), 1)
	s = stream.Lost(s, part(2, "234"))
	for _, more := range []uint64{0, 1, all} {
		checkNext(t, "lost", s, wide, more, out(s, 2, 3, false), sent{part(2, "234"), 0, true})
		checkNext(t, "lost, in part", s, 5, more, out(s, 2, 1, false), sent{part(2, "2"), 0, true})
	}
	// Behind what was lost new bytes go along, if there is credit for them.
	s = with(stream.Lost(s, part(2, "2345")), "678")
	for more, n := range map[uint64]uint64{0: 0, 1: 1, 2: 2, 3: 3, 4: 3, all: 3} {
		checkNext(t, "lost, and new", s, wide, more, out(s, 2, 4+int(n), false), sent{part(2, "2345678"[:4+n]), n, true})
	}
	low := s
	low.Credit = 7
	checkNext(t, "lost, and new, by credit", low, wide, all, out(low, 2, 5, false), sent{part(2, "23456"), 1, true})
	// What is lost goes ahead of what is new, even if that leaves a gap.
	s = with(stream.Lost(went(with(stream.New(9, 9), "012345"), 1), part(1, "1")), "678")
	s = checkNext(t, "lost, and new behind a gap", s, wide, all, out(s, 1, 1, false), sent{part(1, "1"), 0, true})
	checkNext(t, "new", s, wide, all, out(s, 6, 3, false), sent{part(6, "678"), 3, true})
}

// What Top and more are together goes round, as all numbers do.
func TestNextMoreGoesRound(t *testing.T) {
	s := with(went(with(stream.New(9, 9), "012"), 1), "345")
	for _, x := range []struct {
		more, n uint64
	}{{highest - 3, 3}, {1 << 63, 3}, {highest - 2, 0}, {highest - 1, 0}, {highest, 0}} {
		if x.n == 0 {
			checkNext(t, "round", s, wide, x.more, s, sent{})
		} else {
			checkNext(t, "not yet round", s, wide, x.more, out(s, 3, 3, false), sent{part(3, "345"), 3, true})
		}
	}
	s = stream.Lost(s, part(0, "012"))
	checkNext(t, "round, below Top", s, wide, highest, out(s, 0, 2, false), sent{part(0, "01"), 0, true})
	checkNext(t, "round to 0", s, wide, highest-2, s, sent{})
}

// The end waits for the bytes that have no credit; alone it needs none.
func TestNextOfTheEnd(t *testing.T) {
	s := finished(with(stream.New(2, 9), "abc"))
	s = checkNext(t, "two", s, wide, all, out(s, 0, 2, false), sent{part(0, "ab"), 2, true})
	checkNext(t, "no credit", s, wide, all, s, sent{})
	s = stream.Grant(s, 3)
	checkNext(t, "no more", s, wide, 0, s, sent{})
	s = checkNext(t, "the last one", s, wide, 1, out(s, 2, 1, true), sent{last(2, "c"), 1, true})
	s = stream.Lost(stream.Acked(s, part(0, "abc")), last(2, "c"))
	s = checkNext(t, "the end alone", s, 4, 0, out(s, 3, 0, true), sent{last(3, ""), 0, true})
	checkNext(t, "none", s, wide, all, s, sent{})
}

// A stream that is given up sends no bytes any more, and no end, even if the Reset has no room.
func TestNextOfAStreamThatIsGivenUp(t *testing.T) {
	for _, s := range []State{with(stream.New(9, 9), "abc"), finished(with(stream.New(9, 9), "abc")), finished(stream.New(9, 9))} {
		s = stream.Give(s, 1000)
		checkNext(t, "no room for the Reset", s, 4, all, s, sent{})
		s = checkNext(t, "the Reset", s, 5, all, noReset(s), sent{reset(0, 1000), 0, true})
		checkNext(t, "behind it", s, wide, all, s, sent{})
		s = stream.Acked(s, reset(0, 1000))
		checkNext(t, "when it came", s, wide, all, s, sent{})
	}
}

// P16.6

// others tells a frame of each kind that a stream does nothing to.
func others() []Frame {
	f := []Frame{
		{Kind: frame.Padding}, {Kind: frame.Ping}, {Kind: frame.Done},
		{Kind: frame.Ack, Set: set(0, 9)},
		{Kind: frame.Crypto, Off: 1, Data: "12"},
		{Kind: frame.StreamBlocked, Id: id, Max: 16},
		{Kind: frame.NewId, Seq: 4, Prior: 2, Cid: "abcdefgh", Token: "0123456789abcdef"},
		{Kind: frame.RetireId, Seq: 4},
		{Kind: frame.Challenge, Token: "abcdefgh"}, {Kind: frame.Response, Token: "abcdefgh"},
		{Kind: frame.Close, Code: 7, Data: "why"}, {Kind: frame.AppClose, Code: 7, Data: "why"},
	}
	for _, kind := range []uint64{frame.MaxData, frame.MaxBidi, frame.MaxUni, frame.DataBlocked, frame.BidiBlocked, frame.UniBlocked} {
		f = append(f, Frame{Kind: kind, Max: 16})
	}
	for _, f := range f {
		size(f)
	}
	return f
}

// many tells streams of all kinds.
func many() map[string]State {
	return map[string]State{
		"nothing":             stream.New(9, 9),
		"all to send":         stream.Give(finished(busy(99)), 3),
		"all to send, but it": finished(busy(99)),
		"all sent":            went(finished(busy(99)), 9),
		"all sent, given up":  went(stream.Give(finished(busy(99)), 3), 9),
		"all came":            stream.Acked(went(stream.Give(finished(busy(99)), 3), 9), reset(5, 3)),
		"broken":              came(went(finished(busy(99)), 9), reset(12, 5)),
		"the end":             came(went(finished(busy(99)), 9), last(9, "jkl")),
		"all ready":           came(went(finished(busy(99)), 9), last(8, "ijkl")),
		"all of it done":      done(read(came(stream.New(9, 9), last(0, "abc")), 3)),
	}
}

func TestLostAndAckedOfOtherFrames(t *testing.T) {
	for name, s := range many() {
		for _, f := range others() {
			checkState(t, fmt.Sprintf("Lost of %+v, %s", f, name), stream.Lost(s, f), s)
			checkState(t, fmt.Sprintf("Acked of %+v, %s", f, name), stream.Acked(s, f), s)
		}
		for _, f := range []Frame{stop(7), stop(0), limit(0), limit(15), limit(16), limit(17), limit(mostNumber)} {
			checkState(t, fmt.Sprintf("Acked of %+v, %s", f, name), stream.Acked(s, f), s)
		}
	}
}

func TestLostBytes(t *testing.T) {
	s := went(finished(with(stream.New(99, 9), "abcdefghij")), 1)
	for name, x := range map[string]struct {
		f       Frame
		todo    Set
		finTodo bool
	}{
		"all of it":         {last(0, "abcdefghij"), set(0, 9), true},
		"the first ones":    {part(0, "abc"), set(0, 2), false},
		"some":              {part(4, "ef"), set(4, 5), false},
		"the last ones":     {last(8, "ij"), set(8, 9), true},
		"the end alone":     {last(10, ""), nil, true},
		"none":              {part(4, ""), nil, false},
		"bytes behind them": {part(9, "jk"), set(9, 9), false},
	} {
		want := s
		want.Out.Todo, want.Out.FinTodo = x.todo, x.finTodo
		checkState(t, name, stream.Lost(s, x.f), want)
		// What it gave up itself it does not send again, whether the Reset came or not.
		for _, given := range []State{stream.Give(s, 3), went(stream.Give(s, 3), 1), stream.Acked(stream.Give(s, 3), reset(10, 3))} {
			checkState(t, name+", given up", stream.Lost(given, x.f), given)
		}
		// What the other side gave up has to do with what comes in alone.
		other := came(stream.Ask(s, 3), reset(4, 5))
		want = other
		want.Out.Todo, want.Out.FinTodo = x.todo, x.finTodo
		checkState(t, name+", broken", stream.Lost(other, x.f), want)
	}
	s = stream.Acked(s, part(3, "def"))
	want := s
	want.Out.Todo = set(1, 2, 6, 8)
	checkState(t, "around what came", stream.Lost(s, part(1, "bcdefghi")), want)
}

func TestLostReset(t *testing.T) {
	for name, s := range many() {
		for _, f := range []Frame{reset(5, 3), reset(0, 0), reset(mostNumber, mostNumber)} {
			want := s
			want.Todo = !s.Gone || s.Todo
			checkState(t, fmt.Sprintf("%+v, %s", f, name), stream.Lost(s, f), want)
		}
	}
	s := went(stream.Give(went(with(stream.New(9, 9), "abc"), 1), 5), 1)
	again := stream.Lost(s, reset(3, 5))
	checkNext(t, "sent again", again, wide, all, s, sent{reset(3, 5), 0, true})
	checkState(t, "lost twice", stream.Lost(again, reset(3, 5)), again)
	gone := stream.Acked(s, reset(3, 5))
	if !gone.Gone || gone.Todo {
		t.Fatalf("%+v", gone)
	}
	checkState(t, "lost when one came", stream.Lost(gone, reset(3, 5)), gone)
	checkState(t, "came when it was lost", stream.Acked(again, reset(3, 5)), gone)
	// That bytes and the end of it came is nothing to the Reset.
	s = went(stream.Give(went(finished(with(stream.New(9, 9), "abc")), 1), 5), 1)
	s = stream.Acked(s, last(0, "abc"))
	want := s
	want.Todo = true
	checkState(t, "lost when all bytes came", stream.Lost(s, reset(3, 5)), want)
}

func TestLostStop(t *testing.T) {
	asked := went(stream.Ask(stream.New(9, 9), 5), 1)
	for _, x := range []struct {
		name  string
		s     State
		again bool
	}{
		{"nothing came", asked, true},
		{"bytes came", came(asked, part(0, "abc")), true},
		{"bytes were read", read(came(asked, part(0, "abc")), 3), true},
		{"the end came, and a gap", came(asked, last(1, "bc")), true},
		{"the end came, and a gap ahead of it", came(asked, part(0, "ab"), last(3, "")), true},
		{"the end came, and some were read", read(came(asked, part(0, "ab"), last(3, "")), 2), true},
		{"given up", went(stream.Give(asked, 3), 1), true},
		{"all went and came", done(with(asked, "abc")), true},
		{"lost already", stream.Lost(asked, stop(5)), true},
		{"broken", came(asked, reset(5, 6)), false},
		{"broken at 0", came(asked, reset(0, 6)), false},
		{"broken when bytes came", came(asked, part(0, "abc"), reset(5, 6)), false},
		{"all is ready", came(asked, last(0, "abc")), false},
		{"some was read, all is ready", read(came(asked, last(0, "abc")), 1), false},
		{"all was read", read(came(asked, last(0, "abc")), 3), false},
		{"nothing, that ends", came(asked, last(0, "")), false},
	} {
		want := x.s
		want.StopTodo = x.again
		checkState(t, x.name, stream.Lost(x.s, stop(5)), want)
		checkState(t, x.name+", of another code", stream.Lost(x.s, stop(6)), want)
	}
	// What has to be sent stays so, even if nothing is left to stop.
	todo := stream.Ask(stream.New(9, 9), 5)
	for _, s := range []State{came(todo, reset(5, 6)), came(todo, last(0, "abc"))} {
		checkState(t, "to be sent", stream.Lost(s, stop(5)), s)
	}
	checkNext(t, "sent again", stream.Lost(asked, stop(5)), wide, all, asked, sent{stop(5), 0, true})
}

func TestLostLimit(t *testing.T) {
	told := went(raised(), 1)
	if told.Raise || told.Limit != 16 {
		t.Fatalf("%+v", told)
	}
	for _, x := range []struct {
		name  string
		s     State
		again bool
	}{
		{"told", told, true},
		{"bytes came", came(told, part(8, "ijkl")), true},
		{"all was read", read(told, 2), true},
		{"to be told", raised(), true},
		{"given up", went(stream.Give(told, 3), 1), true},
		{"asked to stop", stream.Ask(told, 3), true},
		{"the end came", came(told, last(8, "ij")), false},
		{"the end came, and a gap", came(told, last(12, "")), false},
		{"broken", came(told, reset(12, 5)), false},
		{"the end came, and all was read", read(came(told, last(8, "")), 2), false},
	} {
		for _, max := range []uint64{0, 1, 10, 15, 16, 17, 22, mostNumber} {
			want := x.s
			want.Raise = x.s.Raise || x.again && max == 16
			checkState(t, fmt.Sprint(x.name, ", a limit of ", max), stream.Lost(x.s, limit(max)), want)
		}
	}
	// What has to be told stays so, even if the end came.
	s := came(raised(), last(8, "ij"))
	checkState(t, "to be told", stream.Lost(s, limit(16)), s)
	checkNext(t, "told again", stream.Lost(told, limit(16)), wide, all, told, sent{limit(16), 0, true})
	// One that was told ahead of a greater one needs no telling.
	s = read(came(told, part(8, "ijklmnop")), 6)
	checkState(t, "a lower one", stream.Lost(went(s, 1), limit(16)), went(s, 1))
	// The first limit was told by no frame; it is told again all the same.
	s = stream.New(9, 9)
	want := s
	want.Raise = true
	checkState(t, "the first one", stream.Lost(s, limit(9)), want)
}

func TestAckedBytes(t *testing.T) {
	s := went(finished(with(stream.New(99, 9), "abcdefghij")), 1)
	for name, x := range map[string]struct {
		f        Frame
		base     uint64
		acked    Set
		finAcked bool
	}{
		"all of it":      {last(0, "abcdefghij"), 10, nil, true},
		"the first ones": {part(0, "abc"), 3, nil, false},
		"some":           {part(4, "ef"), 0, set(4, 5), false},
		"the last ones":  {last(8, "ij"), 0, set(8, 9), true},
		"the end alone":  {last(10, ""), 0, nil, true},
		"none":           {part(4, ""), 0, nil, false},
	} {
		// That it is given up, or broken, is nothing to what came there.
		for which, s := range map[string]State{
			"open": s, "lost": stream.Lost(s, last(0, "abcdefghij")), "given up": stream.Give(s, 3), "given up, and sent": went(stream.Give(s, 3), 1),
			"given up, and acknowledged": stream.Acked(stream.Give(s, 3), reset(10, 3)), "broken": came(s, reset(4, 5)),
		} {
			want := s
			want.Out.Base, want.Out.Data, want.Out.Acked, want.Out.FinAcked = x.base, s.Out.Data[x.base:], x.acked, x.finAcked
			if len(s.Out.Todo) > 0 {
				want.Out.Todo = ranges.Cut(s.Out.Todo, ranges.Range{Lo: x.f.Off, Hi: x.f.Off + uint64(len(x.f.Data)) - 1})
			}
			if x.finAcked {
				want.Out.FinTodo = false
			}
			checkState(t, name+", "+which, stream.Acked(s, x.f), want)
		}
	}
}

func TestAckedReset(t *testing.T) {
	for name, s := range many() {
		for _, f := range []Frame{reset(5, 3), reset(0, 0), reset(mostNumber, mostNumber)} {
			want := s
			want.Gone, want.Todo = true, false
			checkState(t, fmt.Sprintf("%+v, %s", f, name), stream.Acked(s, f), want)
			checkState(t, fmt.Sprintf("%+v, twice, %s", f, name), stream.Acked(want, f), want)
		}
	}
}

// A second reckoning: each byte by itself.

// book keeps what a stream has, byte by byte.
type book struct {
	out                    []byte
	acked, todo            []bool
	fin, finTodo, finAcked bool
	top, credit            uint64
	code, why              uint64
	reset, resetTodo, gone bool
	in                     map[uint64]byte
	read, final            uint64
	known                  bool
	window, limit          uint64
	raise, broken          bool
	stop, stopTodo         bool
	stopCode               uint64
}

func newBook(credit, window uint64) *book {
	return &book{credit: credit, window: window, limit: window, in: map[uint64]byte{}}
}

func (b *book) copied() *book {
	c := *b
	c.out, c.acked, c.todo = slices.Clone(b.out), slices.Clone(b.acked), slices.Clone(b.todo)
	c.in = map[uint64]byte{}
	for i, x := range b.in {
		c.in[i] = x
	}
	return &c
}

func (b *book) write(data string) {
	if b.fin {
		return
	}
	for i := range len(data) {
		b.out, b.acked, b.todo = append(b.out, data[i]), append(b.acked, false), append(b.todo, true)
	}
}

func (b *book) finish() {
	if !b.fin {
		b.fin, b.finTodo = true, true
	}
}

// base tells the first byte that was not acknowledged.
func (b *book) base() uint64 {
	n := slices.Index(b.acked, false)
	if n < 0 {
		n = len(b.acked)
	}
	return uint64(n)
}

// top tells up to where the stream is known to go.
func (b *book) highest() uint64 {
	top := b.read
	if b.known {
		top = max(top, b.final)
	}
	for i := range b.in {
		top = max(top, i+1)
	}
	return top
}

// ready tells the bytes that can be read, and whether they are all.
func (b *book) ready() (string, bool) {
	var data []byte
	for i := b.read; ; i++ {
		x, ok := b.in[i]
		if !ok {
			return string(data), b.known && b.final == i
		}
		data = append(data, x)
	}
}

// refuses tells the error of bytes up to end, with which the stream ends, if fin.
func (b *book) refuses(end uint64, fin bool) api.Errno {
	switch {
	case end > b.limit:
		return api.ErrCredit
	case b.known && (end > b.final || fin && end != b.final), fin && end < b.highest():
		return api.ErrFinal
	}
	return api.OK
}

func (b *book) data(f Frame) taken {
	end := f.Off + uint64(len(f.Data))
	if e := b.refuses(end, f.Fin); e != api.OK || b.broken {
		return taken{0, e}
	}
	before := b.highest()
	for i := range len(f.Data) {
		place := f.Off + uint64(i)
		if _, ok := b.in[place]; !ok && place >= b.read {
			b.in[place] = f.Data[i]
		}
	}
	if f.Fin {
		b.final, b.known = end, true
	}
	return taken{b.highest() - before, api.OK}
}

func (b *book) breakOff(f Frame) taken {
	if e := b.refuses(f.Max, true); e != api.OK {
		return taken{0, e}
	}
	before := b.highest()
	if _, all := b.ready(); all && !b.broken {
		return taken{0, api.OK}
	}
	b.final, b.known = f.Max, true
	if !b.broken {
		b.broken, b.why = true, f.Code
	}
	clear(b.in)
	return taken{f.Max - before, api.OK}
}

func (b *book) done() bool {
	return b.fin && b.finAcked && !slices.Contains(b.acked, false)
}

func (b *book) give(code uint64) {
	if !b.reset && !b.done() {
		b.reset, b.resetTodo, b.code = true, true, code
	}
}

func (b *book) ask(code uint64) {
	if _, all := b.ready(); !b.stop && !b.broken && !all {
		b.stop, b.stopTodo, b.stopCode = true, true, code
	}
}

func (b *book) take(n int) got {
	if b.broken {
		return got{"", true, api.ErrState}
	}
	data, _ := b.ready()
	data = data[:min(max(n, 0), len(data))]
	for range len(data) {
		delete(b.in, b.read)
		b.read++
	}
	if !b.known && b.limit-b.read < b.window/2 {
		b.limit, b.raise = b.read+b.window, true
	}
	return got{data, b.known && b.read == b.final, api.OK}
}

// wide tells how many bytes the varint of n has.
func (b *book) wide(n uint64) int {
	switch {
	case n < 1<<6:
		return 1
	case n < 1<<14:
		return 2
	case n < 1<<30:
		return 4
	case n < 1<<62:
		return 8
	}
	return 1 << 20
}

// room tells how many bytes of data a Stream from off on can have.
func (b *book) room(id, off uint64, most int) int {
	head := 1 + b.wide(id)
	if off > 0 {
		head += b.wide(off)
	}
	n := -1
	for n < 1200 && head+b.wide(uint64(n+1))+n+1 <= most {
		n++
	}
	return n
}

func (b *book) next(id uint64, most int, more uint64) sent {
	switch {
	case b.resetTodo && 1+b.wide(id)+b.wide(b.code)+b.wide(b.top) <= most:
		b.resetTodo = false
		return sent{Frame{Kind: 4, Id: id, Code: b.code, Max: b.top}, 0, true}
	case b.stopTodo && 1+b.wide(id)+b.wide(b.stopCode) <= most:
		b.stopTodo = false
		return sent{Frame{Kind: 5, Id: id, Code: b.stopCode}, 0, true}
	case b.raise && 1+b.wide(id)+b.wide(b.limit) <= most:
		b.raise = false
		return sent{Frame{Kind: 17, Id: id, Max: b.limit}, 0, true}
	case b.reset:
		return sent{}
	}
	off := slices.Index(b.todo, true)
	if off < 0 {
		off = len(b.out)
		if !b.finTodo || b.room(id, uint64(off), most) < 0 {
			return sent{}
		}
		// Of bytes that were acknowledged, and never sent, the end alone is the first to go.
		before := b.top
		b.finTodo, b.top = false, max(b.top, uint64(off))
		return sent{Frame{Kind: 8, Id: id, Off: uint64(off), Fin: true}, b.top - before, true}
	}
	end := off
	for end < len(b.out) && b.todo[end] && uint64(end) < b.credit && uint64(end) < b.top+more && end-off < b.room(id, uint64(off), most) {
		end++
	}
	if end == off {
		return sent{}
	}
	f := Frame{Kind: 8, Id: id, Off: uint64(off), Data: string(b.out[off:end]), Fin: b.finTodo && end == len(b.out)}
	before := b.top
	b.top = max(b.top, uint64(end))
	for i := off; i < end; i++ {
		b.todo[i] = false
	}
	b.finTodo = b.finTodo && !f.Fin
	return sent{f, b.top - before, true}
}

// each calls for each byte of f that was not acknowledged with all ahead of it.
func (b *book) each(f Frame, call func(i int)) {
	base := b.base()
	for i := range len(f.Data) {
		if place := f.Off + uint64(i); place >= base && place < uint64(len(b.out)) {
			call(int(place))
		}
	}
}

func (b *book) lost(f Frame) {
	_, all := b.ready()
	switch {
	case f.Kind == 4 && !b.gone:
		b.resetTodo = true
	case f.Kind == 5 && !b.broken && !all:
		b.stopTodo = true
	case f.Kind == 17 && f.Max == b.limit && !b.known:
		b.raise = true
	case f.Kind == 8 && !b.reset:
		b.each(f, func(i int) { b.todo[i] = b.todo[i] || !b.acked[i] })
		b.finTodo = b.finTodo || f.Fin && b.fin && !b.finAcked
	}
}

func (b *book) ack(f Frame) {
	switch f.Kind {
	case 4:
		b.gone, b.resetTodo = true, false
	case 8:
		b.each(f, func(i int) { b.acked[i], b.todo[i] = true, false })
		if f.Fin && b.fin {
			b.finAcked, b.finTodo = true, false
		}
	}
}

// numbers tells the places from base on that are true in l.
func numbers(l []bool, base uint64) Set {
	var out []ranges.Range
	for i := base; i < uint64(len(l)); i++ {
		if l[i] {
			out = append(out, ranges.Range{Lo: i, Hi: i})
		}
	}
	return ranges.Of(out...)
}

// parts tells what came, and was not read.
func (b *book) parts() []gather.Part {
	var l []gather.Part
	for i := range b.highest() {
		x, ok := b.in[i]
		if !ok {
			continue
		}
		if last := len(l) - 1; last >= 0 && l[last].Off+uint64(len(l[last].Data)) == i {
			l[last].Data += string([]byte{x})
		} else {
			l = append(l, at(i, string([]byte{x})))
		}
	}
	return l
}

// state tells the state that the book has.
func (b *book) state() State {
	base := b.base()
	return State{
		Out: sendq.State{Base: base, Top: b.top, Data: string(b.out[base:]), Acked: numbers(b.acked, base), Todo: numbers(b.todo, base),
			Fin: b.fin, FinTodo: b.finTodo, FinAcked: b.finAcked},
		Credit: b.credit, Code: b.code, Why: b.why, Reset: b.reset, Todo: b.resetTodo, Gone: b.gone,
		In:     gather.State{Read: b.read, L: b.parts(), Final: b.final, Known: b.known},
		Window: b.window, Limit: b.limit, Raise: b.raise, Broken: b.broken,
		Stop: b.stop, StopCode: b.stopCode, StopTodo: b.stopTodo,
	}
}

// disagree tells where s is not what the book has, or not within its limit.
func (b *book) disagree(s State) string {
	want := b.state()
	switch {
	case !same(s, want):
		return fmt.Sprintf("%+v, not\n%+v", s, want)
	case gather.Highest(s.In) > s.Limit || uint64(gather.Held(s.In)) > s.Window || s.Limit > s.In.Read+s.Window:
		return fmt.Sprintf("behind the limit: %+v", s)
	}
	return ""
}

// step makes a call, also in the book, and tells a fault.
type step func(s State, b *book) (State, string)

// stepOf tells a step of a call that answers the same as the book does.
func stepOf[T comparable](name string, call func(s State) (State, T), reckon func(b *book) T) step {
	return func(s State, b *book) (State, string) {
		out, told := call(s)
		want := reckon(b)
		fault := b.disagree(out)
		if told != want {
			fault += fmt.Sprintf("%v, not %v", told, want)
		}
		if fault != "" {
			return out, fmt.Sprintf("%s: of %+v:\n%s", name, s, fault)
		}
		return out, ""
	}
}

// plain tells a step of a call that answers the state alone.
func plain(name string, call func(s State) State, reckon func(b *book)) step {
	return stepOf(name, func(s State) (State, bool) { return call(s), true }, func(b *book) bool { reckon(b); return true })
}

func writeStep(data string) step {
	return plain("Write", func(s State) State { s.Out, _ = sendq.Write(s.Out, data, 1<<20); return s }, func(b *book) { b.write(data) })
}

func finishStep() step {
	return plain("Finish", finished, (*book).finish)
}

func dataStep(f Frame) step {
	return stepOf(fmt.Sprintf("Data of %+v", f), func(s State) (State, taken) {
		s, n, e := stream.Data(s, f)
		return s, taken{n, e}
	}, func(b *book) taken { return b.data(f) })
}

func breakStep(f Frame) step {
	return stepOf(fmt.Sprintf("Break of %+v", f), func(s State) (State, taken) {
		s, n, e := stream.Break(s, f)
		return s, taken{n, e}
	}, func(b *book) taken { return b.breakOff(f) })
}

func grantStep(n uint64) step {
	return plain(fmt.Sprint("Grant of ", n), func(s State) State { return stream.Grant(s, n) }, func(b *book) { b.credit = max(b.credit, n) })
}

func giveStep(code uint64) step {
	return plain(fmt.Sprint("Give of ", code), func(s State) State { return stream.Give(s, code) }, func(b *book) { b.give(code) })
}

func stoppedStep(code uint64) step {
	return plain(fmt.Sprint("Stopped of ", code), func(s State) State { return stream.Stopped(s, code) }, func(b *book) { b.give(code) })
}

func askStep(code uint64) step {
	return plain(fmt.Sprint("Ask of ", code), func(s State) State { return stream.Ask(s, code) }, func(b *book) { b.ask(code) })
}

func readStep(n int) step {
	return stepOf(fmt.Sprint("Read of ", n), func(s State) (State, got) {
		s, data, all, e := stream.Read(s, n)
		return s, got{data, all, e}
	}, func(b *book) got { return b.take(n) })
}

func nextStep(id uint64, most int, more uint64, told func(f Frame)) step {
	text := func(x sent) string { return fmt.Sprintf("%+v", x) }
	return stepOf(fmt.Sprintf("Next of %d, %d, %d", id, most, more), func(s State) (State, string) {
		now, f, n, ok := stream.Next(s, id, most, more)
		if ok {
			told(f)
		}
		if end := f.Off + uint64(len(f.Data)); f.Data != "" && (end > s.Credit || end > s.Out.Top+more) {
			return now, fmt.Sprintf("behind the credit: %+v", f)
		}
		return now, text(sent{f, n, ok})
	}, func(b *book) string { return text(b.next(id, most, more)) })
}

func lostStep(f Frame) step {
	return plain(fmt.Sprintf("Lost of %+v", f), func(s State) State { return stream.Lost(s, f) }, func(b *book) { b.lost(f) })
}

func ackedStep(f Frame) step {
	return plain(fmt.Sprintf("Acked of %+v", f), func(s State) State { return stream.Acked(s, f) }, func(b *book) { b.ack(f) })
}

// dice tells numbers by a fixed rule; each seed has its own.
type dice struct{ x uint64 }

func newDice(seed uint64) *dice { return &dice{seed*0x9e3779b97f4a7c15 + 1} }

// below tells a number below n.
func (d *dice) below(n int) int {
	d.x = d.x*6364136223846793005 + 1442695040888963407
	return int(d.x >> 33 % uint64(n))
}

// text tells n bytes of any value.
func (d *dice) text(n int) string {
	out := make([]byte, n)
	for i := range out {
		out[i] = byte(d.below(256))
	}
	return string(out)
}

// place tells a place near to from.
func (d *dice) place(from uint64, long int) uint64 {
	return max(from+uint64(d.below(3*long)), uint64(long)) - uint64(long)
}

// frame tells any frame of a stream, most of which say something of s.
func (d *dice) frame(s State, long int) Frame {
	switch d.below(6) {
	case 0:
		return reset(d.place(gather.Highest(s.In), long), uint64(d.below(100)))
	case 1:
		return stop(uint64(d.below(100)))
	case 2:
		return limit(s.Limit - uint64(d.below(2)))
	}
	f := part(d.place(s.In.Read, long), d.text(d.below(long+1)))
	f.Fin = d.below(9) == 0
	return f
}

// play is a stream with what was sent of it.
type play struct {
	d    *dice
	s    State
	b    *book
	sent []Frame
	long int
}

// step tells any call.
func (p *play) step() step {
	d := p.d
	switch d.below(24) {
	case 0, 1:
		return writeStep(d.text(d.below(p.long + 1)))
	case 2:
		if d.below(9) == 0 {
			return finishStep()
		}
		return grantStep(p.s.Credit + uint64(d.below(p.long+1)))
	case 3:
		return grantStep(uint64(d.below(5 * p.long)))
	case 4:
		if d.below(20) == 0 {
			return []func(uint64) step{giveStep, stoppedStep}[d.below(2)](uint64(d.below(1000)))
		}
		return askStep(uint64(d.below(1000)))
	case 5:
		if d.below(9) == 0 {
			return breakStep(reset(d.place(gather.Highest(p.s.In), p.long), uint64(d.below(1000))))
		}
		return readStep(d.below(3) - 1)
	case 6, 7, 8, 9:
		f := part(d.place(p.s.In.Read, p.long), d.text(d.below(p.long+1)))
		f.Fin = d.below(40) == 0
		return dataStep(f)
	case 10, 11, 12:
		return readStep(d.below(p.long + 2))
	}
	return p.answered()
}

// answered tells a call of Next, or of Lost or Acked, mostly of what Next told.
func (p *play) answered() step {
	d := p.d
	if d.below(2) == 0 {
		most, more := d.below(p.long+12), uint64(d.below(2*p.long+2))
		if d.below(5) == 0 {
			most, more = 5000, all
		}
		return nextStep([]uint64{0, 4, 77, 1 << 20, mostNumber}[d.below(5)], most, more, func(f Frame) { p.sent = append(p.sent, f) })
	}
	f := d.frame(p.s, p.long)
	if len(p.sent) > 0 && d.below(12) > 0 {
		f = p.sent[d.below(len(p.sent))]
	}
	if d.below(2) == 0 {
		return lostStep(f)
	}
	return ackedStep(f)
}

// Strewn calls, of few bytes and of many.
func TestPlaysByASecondReckoning(t *testing.T) {
	for _, long := range []int{1, 2, 4, 9, 30, 200} {
		count := map[string]int{}
		for seed := range uint64(100) {
			d := newDice(seed)
			credit, window := uint64(d.below(4*long)), uint64(d.below(6*long))
			p := &play{d: d, s: stream.New(credit, window), b: newBook(credit, window), long: long}
			for range 120 {
				var fault string
				if p.s, fault = p.step()(p.s, p.b); fault != "" {
					t.Fatalf("%d bytes, seed %d: %s", long, seed, fault)
				}
			}
			for name, is := range map[string]bool{
				"reset": p.s.Reset, "gone": p.s.Gone, "broken": p.s.Broken, "ended": p.s.In.Known && !p.s.Broken, "stop": p.s.Stop, "stopped": p.s.Stop && !p.s.StopTodo,
				"raised": p.s.Limit > p.s.Window, "read": p.s.In.Read > 0, "went": p.s.Out.Top > 0, "came": p.s.Out.Base > 0, "finished": p.s.Out.Fin, "open": !p.s.Reset && !p.s.Broken && !p.s.In.Known,
			} {
				if is {
					count[name]++
				}
			}
		}
		for _, name := range []string{"reset", "gone", "broken", "ended", "stop", "stopped", "raised", "read", "went", "came", "finished", "open"} {
			if count[name] < 5 {
				t.Errorf("%d bytes: %d %s: %v", long, count[name], name, count)
			}
		}
	}
}

// smallSteps are calls of two bytes at most, of places below 4.
func smallSteps() []step {
	out := []step{writeStep("x"), writeStep("yz"), finishStep(), grantStep(2), grantStep(3), giveStep(3), stoppedStep(4), askStep(5), askStep(6)}
	for off := range uint64(3) {
		for _, data := range []string{"", "a", "bc"} {
			for _, fin := range []bool{false, true} {
				f := part(off, data)
				f.Fin = fin
				out = append(out, dataStep(f))
				if off < 2 {
					out = append(out, lostStep(f), ackedStep(f))
				}
			}
		}
	}
	for max := range uint64(5) {
		out = append(out, breakStep(reset(max, 7)), lostStep(limit(max)))
	}
	for _, n := range []int{-1, 0, 1, 2, 9} {
		out = append(out, readStep(n))
	}
	for most := 2; most < 7; most++ {
		out = append(out, nextStep(id, most, all, func(Frame) {}))
	}
	for more := range uint64(3) {
		out = append(out, nextStep(id, wide, more, func(Frame) {}))
	}
	return append(out, breakStep(reset(1, 8)), lostStep(reset(0, 3)), ackedStep(reset(0, 3)), lostStep(stop(5)), ackedStep(stop(5)), ackedStep(limit(3)))
}

// position is a state, and what the book has of it.
type position struct {
	s State
	b *book
}

// All small states that a few calls lead to, and all answers of one call more.
func TestSmallStatesByASecondReckoning(t *testing.T) {
	steps, seen := smallSteps(), map[string]bool{}
	var now []position
	for window := range uint64(4) {
		for credit := range uint64(3) {
			now = append(now, position{stream.New(credit, window), newBook(credit, window)})
		}
	}
	for left := 2; left >= 0; left-- {
		var behind []position
		for _, p := range now {
			for _, step := range steps {
				b := p.b.copied()
				out, fault := step(p.s, b)
				if fault != "" {
					t.Fatal(fault)
				}
				if name := fmt.Sprint(out); left > 0 && !seen[name] {
					seen[name] = true
					behind = append(behind, position{out, b})
				}
			}
		}
		now = behind
	}
	if len(seen) < 2500 {
		t.Errorf("%d states", len(seen))
	}
}

// P16.7

// side is one end of a stream: what it has to write, what it wrote, and what it read.
type side struct {
	s             State
	stream, got   string
	ended, broken bool
	highest       uint64 // that its Data and Break told
	way           []Frame
	old           []Frame
}

// pair is the two ends of a stream.
type pair struct {
	t    *testing.T
	d    *dice
	ends [2]*side
}

// newPair tells two ends, whose windows are what the other one's credit is from the beginning on.
func newPair(t *testing.T, d *dice, long int) *pair {
	a, b := uint64(2+d.below(3*long)), uint64(2+d.below(3*long))
	return &pair{t, d, [2]*side{
		{s: stream.New(a, b), stream: d.text(d.below(4) * d.below(long))},
		{s: stream.New(b, a), stream: d.text(d.below(4) * d.below(long))},
	}}
}

// write writes some of what is left; behind the last byte it finishes.
func (p *pair) write(x *side) {
	from := int(sendq.End(x.s.Out))
	if from == len(x.stream) {
		x.s = finished(x.s)
		return
	}
	x.s.Out, _ = sendq.Write(x.s.Out, x.stream[from:min(from+p.d.below(50), len(x.stream))], p.d.below(100))
}

// send sends what Next tells, which has to be within most, more and the credit.
func (p *pair) send(x *side, most int, more uint64) bool {
	now, f, n, ok := stream.Next(x.s, id, most, more)
	if !ok {
		return false
	}
	end := f.Off + uint64(len(f.Data))
	switch {
	case size(f) > most, n != now.Out.Top-x.s.Out.Top, n > more, now.Out.Top > now.Credit:
		p.t.Fatalf("most %d, more %d: %+v, %d, of %+v", most, more, f, n, x.s)
	case f.Kind == frame.Stream && (end > x.s.Credit || f.Data != x.stream[f.Off:end] || f.Fin && end != uint64(len(x.stream))):
		p.t.Fatalf("%+v, of %+v", f, x.s)
	}
	x.s, x.way = now, append(x.way, f)
	return true
}

// arrive tells y of a frame; nobody who keeps to his credit is refused.
func (p *pair) arrive(y *side, f Frame) {
	before := y.s.In
	e, n := api.OK, uint64(0)
	switch f.Kind {
	case frame.Stream:
		y.s, n, e = stream.Data(y.s, f)
	case frame.Reset:
		y.s, n, e = stream.Break(y.s, f)
	case frame.Stop:
		y.s = stream.Stopped(y.s, f.Code)
	case frame.MaxStream:
		y.s = stream.Grant(y.s, f.Max)
	}
	y.highest += n
	if e != api.OK || y.highest != gather.Highest(y.s.In) || y.highest > y.s.Limit {
		p.t.Fatalf("%+v: error %d, %d, of %+v, %+v", f, e, n, before, y.s)
	}
}

// settle tells that one frame of x came to y, or is lost, or both.
func (p *pair) settle(x, y *side, i int) {
	f := x.way[i]
	x.way = slices.Delete(x.way, i, i+1)
	x.old = append(x.old, f)
	came := p.d.below(3) > 0
	if came {
		p.arrive(y, f)
	}
	if !came || p.d.below(5) == 0 {
		x.s = stream.Lost(x.s, f)
		return
	}
	x.s = stream.Acked(x.s, f)
}

// read reads some, which has to be what the other end wrote.
func (p *pair) read(x, y *side) {
	s, data, all, e := stream.Read(x.s, p.d.below(40)-1)
	if e != api.OK {
		x.broken = true
	}
	x.s, x.got, x.ended = s, x.got+data, x.ended || all && e == api.OK
	if !strings.HasPrefix(y.stream, x.got) || x.ended && x.got != y.stream || x.broken != (e == api.ErrState) || e == api.ErrState && (!all || data != "") {
		p.t.Fatalf("%q, %v, %d, of %q", x.got, all, e, y.stream)
	}
}

// step does anything at one of the ends.
func (p *pair) step(round int) {
	x, y := p.ends[round%2], p.ends[(round+1)%2]
	switch p.d.below(5) {
	case 0:
		p.write(x)
	case 1:
		p.send(x, 3+p.d.below(60), uint64(p.d.below(80)))
	case 2:
		if len(x.way) > 0 {
			p.settle(x, y, p.d.below(len(x.way)))
		}
	case 3:
		p.read(x, y)
	case 4:
		// One that was told already comes once more.
		if len(x.old) > 0 && p.d.below(9) == 0 {
			p.arrive(y, x.old[p.d.below(len(x.old))])
		}
	}
}

// Whatever is lost, doubled, or late, all comes, within the credit and the limit of both.
func TestBothWays(t *testing.T) {
	raised := 0
	for seed := range uint64(150) {
		p := newPair(t, newDice(seed), 60)
		a, b := p.ends[0], p.ends[1]
		over := func(x *side) bool { return x.ended && sendq.Done(x.s.Out) }
		for round := 0; !over(a) || !over(b); round++ {
			if round > 50000 {
				t.Fatalf("seed %d: %+v\n%+v", seed, a, b)
			}
			p.step(round)
		}
		if a.got != b.stream || b.got != a.stream || a.s.Reset || a.s.Broken || b.s.Reset || b.s.Broken {
			t.Fatalf("seed %d: %+v\n%+v", seed, a, b)
		}
		for _, x := range p.ends {
			if x.s.Limit > x.s.Window {
				raised++
			}
		}
	}
	if raised < 50 {
		t.Errorf("raised %d times", raised)
	}
}

// Where one end gives up, or asks the other one to, both come to an end of it, too.
func TestBothWaysGivenUp(t *testing.T) {
	count := map[string]int{}
	for seed := range uint64(300) {
		d := newDice(seed)
		p := newPair(t, d, 60)
		a, b := p.ends[0], p.ends[1]
		when := d.below(120)
		over := func(x *side) bool { return (x.ended || x.broken) && (x.s.Gone || sendq.Done(x.s.Out)) }
		for round := 0; !over(a) || !over(b); round++ {
			if round > 50000 {
				t.Fatalf("seed %d: %+v\n%+v", seed, a, b)
			}
			p.step(round)
			if round == when && d.below(2) == 0 {
				a.s = stream.Give(a.s, 11)
			} else if round == when {
				b.s = stream.Ask(b.s, 12)
			}
		}
		if b.broken && b.s.Why != a.s.Code || a.broken || a.s.Reset && a.s.Code != 11 && a.s.Code != 12 {
			t.Fatalf("seed %d: %+v\n%+v", seed, a, b)
		}
		for name, is := range map[string]bool{"given up": a.s.Code == 11, "stopped": a.s.Code == 12, "asked in vain": b.s.Stop && !a.s.Reset, "broken": b.broken, "given up in vain": a.s.Reset && b.ended} {
			if is {
				count[name]++
			}
		}
	}
	for _, name := range []string{"given up", "stopped", "asked in vain", "broken", "given up in vain"} {
		if count[name] == 0 {
			t.Errorf("no %s: %v", name, count)
		}
	}
}

// Whoever does not keep to his credit is taken in up to the limit, and no further.
func TestNoneIsTakenInBehindTheLimit(t *testing.T) {
	for seed := range uint64(200) {
		d := newDice(seed)
		s := stream.New(9, uint64(d.below(30)))
		taken, refused := uint64(0), 0
		for range 100 {
			f := part(d.place(s.In.Read, 20), d.text(d.below(20)))
			now, n, e := stream.Data(s, f)
			if above := f.Off+uint64(len(f.Data)) > s.Limit; above != (e == api.ErrCredit) || !above && e != api.OK {
				t.Fatalf("seed %d: error %d, %+v, of %+v", seed, e, f, s)
			}
			if e != api.OK {
				refused++
			}
			s, taken = now, taken+n
			if taken > s.Limit || taken != gather.Highest(s.In) || uint64(gather.Held(s.In)) > s.Window {
				t.Fatalf("seed %d: %d, of %+v", seed, taken, s)
			}
			if d.below(3) == 0 {
				s, _, _, _ = stream.Read(s, d.below(9))
			}
		}
		if refused == 0 {
			t.Errorf("seed %d: none refused", seed)
		}
	}
}

// A stream without credit goes on by what is granted, byte by byte.
func TestNoByteGoesOutBehindTheCredit(t *testing.T) {
	text := strings.Repeat("0123456789", 10)
	s := finished(with(stream.New(0, 9), text))
	gone := ""
	for credit := range uint64(101) {
		s = stream.Grant(s, credit)
		for {
			now, f, n, ok := stream.Next(s, id, wide, all)
			if !ok {
				break
			}
			if f.Off != uint64(len(gone)) || n != uint64(len(f.Data)) || f.Fin != (credit == 100) {
				t.Fatalf("credit %d: %+v, %d", credit, f, n)
			}
			s, gone = now, gone+f.Data
		}
		if gone != text[:credit] {
			t.Fatalf("credit %d: %q", credit, gone)
		}
	}
}

// Rules

// R3, R4

// roomy tells a state whose lists have room behind them.
func roomy(s State) State {
	s.Out.Acked = append(make(Set, 0, len(s.Out.Acked)+9), s.Out.Acked...)
	s.Out.Todo = append(make(Set, 0, len(s.Out.Todo)+9), s.Out.Todo...)
	s.In.L = append(make([]gather.Part, 0, len(s.In.L)+9), s.In.L...)
	return s
}

// whole tells all that is in the lists of s, also behind them.
func whole(s State) string {
	return fmt.Sprint(s.Out.Acked[:cap(s.Out.Acked)], s.Out.Todo[:cap(s.Out.Todo)], s.In.L[:cap(s.In.L)])
}

// scribble writes over all lists of s, also behind them.
func scribble(s State) {
	for _, l := range []Set{s.Out.Acked, s.Out.Todo} {
		l = l[:cap(l)]
		for i := range l {
			l[i] = ranges.Range{Lo: 77, Hi: 7777}
		}
	}
	l := s.In.L[:cap(s.In.L)]
	for i := range l {
		l[i] = at(77, "scribble")
	}
}

// calls are some of each, with what they tell beside the state.
func calls() map[string]func(s State) (State, string) {
	out := map[string]func(s State) (State, string){}
	for _, f := range slices.Concat(others(), []Frame{part(0, "abc"), part(4, "efg"), part(9, "JKL"), part(99, "z"), last(3, "d"), last(12, ""), last(9, "JKL"), reset(0, 3), reset(12, 3), reset(15, 3), reset(99, 3), stop(7), limit(9), limit(16)}) {
		out[fmt.Sprintf("Lost of %+v", f)] = func(s State) (State, string) { return stream.Lost(s, f), "" }
		out[fmt.Sprintf("Acked of %+v", f)] = func(s State) (State, string) { return stream.Acked(s, f), "" }
		if f.Kind == frame.Stream {
			out[fmt.Sprintf("Data of %+v", f)] = func(s State) (State, string) {
				s, n, e := stream.Data(s, f)
				return s, fmt.Sprint(n, e)
			}
		}
		if f.Kind == frame.Reset {
			out[fmt.Sprintf("Break of %+v", f)] = func(s State) (State, string) {
				s, n, e := stream.Break(s, f)
				return s, fmt.Sprint(n, e)
			}
		}
	}
	for _, n := range []int{-1, 0, 1, 3, 99} {
		out[fmt.Sprint("Read of ", n)] = func(s State) (State, string) {
			s, data, all, e := stream.Read(s, n)
			return s, fmt.Sprint(data, all, e)
		}
		out[fmt.Sprint("Grant of ", n)] = func(s State) (State, string) { return stream.Grant(s, uint64(n+1)), "" }
	}
	out["Give"] = func(s State) (State, string) { return stream.Give(s, 3), "" }
	out["Stopped"] = func(s State) (State, string) { return stream.Stopped(s, 4), "" }
	out["Ask"] = func(s State) (State, string) { return stream.Ask(s, 5), "" }
	for _, most := range []int{-1, 2, 3, 5, 9, wide} {
		for _, more := range []uint64{0, 2, all} {
			out[fmt.Sprint("Next of ", most, more)] = func(s State) (State, string) {
				s, f, n, ok := stream.Next(s, id, most, more)
				return s, fmt.Sprint(f, n, ok)
			}
		}
	}
	return out
}

// midst tells a state that has some of all: bytes gone, acknowledged, on their way and Todo; bytes read, ready, and behind gaps; and all frames to be sent.
func midst() State {
	s := went(with(stream.New(12, 10), "0123456789"), 1)
	s = stream.Acked(stream.Acked(stream.Acked(s, part(0, "01")), part(4, "4")), part(7, "7"))
	s = with(stream.Lost(stream.Lost(s, part(3, "3")), part(6, "6")), "abcd")
	return stream.Ask(read(came(s, part(0, "abcdefgh"), part(9, "j")), 6), 7)
}

// odd tells some states like it, of which lists are empty, or full.
func odd() map[string]State {
	out := many()
	out["some of all"] = midst()
	out["some of all, given up"] = stream.Give(midst(), 5)
	out["some of all, finished"] = finished(midst())
	out["some of all, broken"] = came(midst(), reset(12, 5))
	out["some of all, and the end"] = came(midst(), last(12, ""))
	out["lists of none"] = State{Credit: 9, Window: 9, Limit: 9, Out: sendq.State{Acked: Set{}, Todo: Set{}}, In: gather.State{L: []gather.Part{}}}
	return out
}

func TestWhatIsHandedInStays(t *testing.T) {
	want := State{
		Out:    sendq.State{Base: 2, Top: 10, Data: "23456789abcd", Acked: set(4, 4, 7, 7), Todo: set(3, 3, 6, 6, 10, 13)},
		In:     gather.State{Read: 6, L: parts(at(6, "gh"), at(9, "j"))},
		Credit: 12, Window: 10, Limit: 16, Raise: true, Stop: true, StopTodo: true, StopCode: 7,
	}
	checkState(t, "some of all", midst(), want)
	for which, first := range odd() {
		for name, call := range calls() {
			name = name + ", of " + which
			s := roomy(first)
			before := whole(s)
			out, told := call(s)
			after := copied(out)
			checkState(t, name, s, first)
			if whole(s) != before {
				t.Errorf("%s: %s, not %s", name, whole(s), before)
			}
			// Writing over what was answered changes nothing.
			scribble(out)
			if whole(s) != before {
				t.Errorf("%s, written over: %s, not %s", name, whole(s), before)
			}
			// Nor does writing over what was handed in.
			again, toldAgain := call(s)
			checkState(t, name+", again", again, after)
			if told != toldAgain {
				t.Errorf("%s: %s, then %s", name, told, toldAgain)
			}
			scribble(s)
			checkState(t, name+", of a state written over", again, after)
		}
	}
}

// No two lists of an answer share anything.
func TestListsOfAnAnswer(t *testing.T) {
	for name, call := range calls() {
		out, _ := call(roomy(midst()))
		after := copied(out)
		for i := range out.Out.Acked[:cap(out.Out.Acked)] {
			out.Out.Acked[:cap(out.Out.Acked)][i] = ranges.Range{Lo: 77, Hi: 7777}
		}
		if !slices.Equal(out.Out.Todo, after.Out.Todo) {
			t.Errorf("%s: %v, not %v", name, out.Out.Todo, after.Out.Todo)
		}
	}
}

// Two that go on from one state do not meet.
func TestTwoOfOneState(t *testing.T) {
	s := roomy(midst())
	one, _, _ := stream.Data(s, part(8, "i"))
	two, _, _ := stream.Data(s, part(11, "l"))
	three := stream.Acked(s, part(3, "3"))
	four := stream.Lost(s, part(5, "5"))
	five, _, _, _ := stream.Read(s, 1)
	six := stream.Acked(s, part(2, "2"))
	checkState(t, "one", one, in(midst(), gather.State{Read: 6, L: parts(at(6, "ghij"))}))
	checkState(t, "two", two, in(midst(), gather.State{Read: 6, L: parts(at(6, "gh"), at(9, "j"), at(11, "l"))}))
	want := midst()
	want.Out.Acked, want.Out.Todo = set(3, 4, 7, 7), set(6, 6, 10, 13)
	checkState(t, "three", three, want)
	want = midst()
	want.Out.Todo = set(3, 3, 5, 6, 10, 13)
	checkState(t, "four", four, want)
	checkState(t, "five", five, in(midst(), gather.State{Read: 7, L: parts(at(7, "h"), at(9, "j"))}))
	want = midst()
	want.Out.Base, want.Out.Data = 3, "3456789abcd"
	checkState(t, "six", six, want)
	checkState(t, "all are of", s, midst())
}

// R6: lists without elements are like none.
func TestListsOfNone(t *testing.T) {
	full := odd()["lists of none"]
	for name, call := range calls() {
		one, told := call(full)
		two, want := call(stream.New(9, 9))
		checkState(t, name, one, two)
		if told != want {
			t.Errorf("%s: %s, not %s", name, told, want)
		}
	}
}

// R1: of odd states, and of frames that may not be, nothing is said, but all calls end.
func TestOddThingsEnd(t *testing.T) {
	places := []uint64{0, 1, 5, mostCredit, mostNumber, mostNumber + 1, highest - 1, highest}
	lists := []Set{nil, set(0, 0), set(0, highest), set(3, 1), set(5, 9, 2, 3), set(highest, highest), set(1<<63, 0, 4, 4)}
	for i, base := range places {
		for j, top := range places {
			for k, todo := range lists {
				s := State{
					Out:    sendq.State{Base: base, Top: top, Data: "abcdef"[:(i+j)%7], Acked: lists[(i+k)%len(lists)], Todo: todo, Fin: i%2 == 0, FinTodo: j%2 == 0, FinAcked: k%3 == 0},
					In:     gather.State{Read: top, L: parts(at(base, "ab"), at(base, ""), at(top, "xyz"))[:(i+j)%4], Final: base, Known: j%3 == 0},
					Credit: places[(i+j+k)%len(places)], Window: top, Limit: base, Code: highest, StopCode: highest, Why: highest,
					Reset: i%3 == 0, Todo: i%2 == 0, Gone: j%2 == 1, Raise: k%2 == 0, Broken: (i+j+k)%4 == 0, Stop: k%3 == 0, StopTodo: j%3 == 0,
				}
				for n, off := range places {
					f := Frame{Kind: uint64(n), Id: off, Off: off, Max: off, Code: off, Data: "abcdefg"[:n%8], Fin: n%2 == 0}
					for _, kind := range []uint64{frame.Stream, frame.Reset, frame.Stop, frame.MaxStream, 3, highest} {
						f.Kind = kind
						stream.Data(s, f)
						stream.Break(s, f)
						stream.Lost(s, f)
						stream.Acked(s, f)
					}
					stream.Give(s, off)
					stream.Stopped(s, off)
					stream.Ask(s, off)
					stream.Grant(s, off)
					stream.Read(s, []int{math.MinInt, -1, 0, 1, 2, 5, 99, math.MaxInt}[n])
					stream.Next(s, off, []int{math.MinInt, -1, 0, 2, 7, 22, 1500, math.MaxInt}[(n+i)%8], places[(n+j)%8])
				}
			}
		}
	}
}

// R5
func TestManyCallsAtOnce(t *testing.T) {
	shared := finished(midst())
	all := calls()
	want := map[string]string{}
	for name, call := range all {
		s, told := call(shared)
		want[name] = fmt.Sprint(s, told)
	}
	var group sync.WaitGroup
	for range 8 {
		group.Go(func() {
			for name, call := range all {
				if s, told := call(shared); fmt.Sprint(s, told) != want[name] {
					t.Error(name)
				}
			}
		})
	}
	group.Wait()
	checkState(t, "what all call of", shared, finished(midst()))
}
