package flow_test

import (
	"fmt"
	"maps"
	"math"
	"reflect"
	"slices"
	"strings"
	"sync"
	"testing"

	"domino/api"
	"domino/flow"
	"domino/frame"
	"domino/gather"
	"domino/ranges"
	"domino/sendq"
	"domino/stream"
)

type (
	State  = flow.State
	Limits = flow.Limits
	Item   = flow.Item
	Stream = stream.State
	Frame  = frame.Frame
	Set    = ranges.Set
)

const (
	mostNumber = 1<<62 - 1 // of a varint
	mostCredit = 1 << 32
	highest    = math.MaxUint64
	wide       = 1500 // more than any frame has
)

// ours and peers tell limits of which no two are alike.
func ours() Limits  { return Limits{Data: 1000, Stream: 70, Bidi: 3, Uni: 2} }
func peers() Limits { return Limits{Data: 900, Stream: 50, Bidi: 4, Uni: 5} }

// full tells limits that are in nobody's way.
func full() Limits { return Limits{Data: mostCredit, Stream: mostCredit, Bidi: 8, Uni: 8} }

var both = []bool{false, true}

// number tells that of a stream that a side opens.
func number(server, uni bool, order uint64) uint64 {
	first := map[[2]bool]uint64{{false, false}: 0, {true, false}: 1, {false, true}: 2, {true, true}: 3}
	return first[[2]bool{server, uni}] + 4*order
}

func copiedStream(x Stream) Stream {
	x.Out.Acked, x.Out.Todo = slices.Clone(x.Out.Acked), slices.Clone(x.Out.Todo)
	x.In.L = slices.Clone(x.In.L)
	return x
}

// copied tells the same state in memory of its own.
func copied(s State) State {
	s.L = slices.Clone(s.L)
	for i, x := range s.L {
		s.L[i].S = copiedStream(x.S)
	}
	return s
}

// bare tells s with nil for lists without elements.
func bare(s State) State {
	s = copied(s)
	if len(s.L) == 0 {
		s.L = nil
	}
	for i := range s.L {
		x := &s.L[i].S
		if len(x.Out.Acked) == 0 {
			x.Out.Acked = nil
		}
		if len(x.Out.Todo) == 0 {
			x.Out.Todo = nil
		}
		if len(x.In.L) == 0 {
			x.In.L = nil
		}
	}
	return s
}

// same tells whether all fields are alike; lists without elements are, and nil ones.
func same(a, b State) bool {
	return reflect.DeepEqual(bare(a), bare(b))
}

func checkState(t *testing.T, name string, s, want State) {
	t.Helper()
	if !same(s, want) {
		t.Errorf("%s:\n%+v, not\n%+v", name, s, want)
	}
}

// set tells a set by where its ranges begin and end: lo, hi, lo, hi ..
func set(l ...uint64) Set {
	var out Set
	for i := 0; i < len(l); i += 2 {
		out = append(out, ranges.Range{Lo: l[i], Hi: l[i+1]})
	}
	return out
}

// part tells a Stream of data from off on.
func part(id, off uint64, data string) Frame {
	return Frame{Kind: frame.Stream, Id: id, Off: off, Data: data}
}

// last tells a Stream of data from off on, with which the stream ends.
func last(id, off uint64, data string) Frame {
	return Frame{Kind: frame.Stream, Id: id, Off: off, Data: data, Fin: true}
}

func resetOf(id, max, code uint64) Frame {
	return Frame{Kind: frame.Reset, Id: id, Max: max, Code: code}
}

func stopOf(id, code uint64) Frame {
	return Frame{Kind: frame.Stop, Id: id, Code: code}
}

func limitOf(id, max uint64) Frame {
	return Frame{Kind: frame.MaxStream, Id: id, Max: max}
}

func blockedOf(id, max uint64) Frame {
	return Frame{Kind: frame.StreamBlocked, Id: id, Max: max}
}

// most tells a frame of a kind that has Max alone.
func most(kind, max uint64) Frame {
	return Frame{Kind: kind, Max: max}
}

// answer is what a call tells beside the state.
type answer struct {
	id   uint64
	n    int
	data string
	all  bool
	f    Frame
	ok   bool
	e    api.Errno
}

// deed is a call: what it answers, and what it does to the book.
type deed struct {
	name   string
	do     func(State) (State, answer)
	reckon func(*book) answer
}

func doOpen(uni bool) deed {
	return deed{fmt.Sprint("Open of uni ", uni), func(s State) (State, answer) {
		s, id, e := flow.Open(s, uni)
		return s, answer{id: id, e: e}
	}, func(b *book) answer { return b.openOne(uni) }}
}

func doOn(f Frame) deed {
	return deed{fmt.Sprintf("On of %+v", f), func(s State) (State, answer) {
		s, e := flow.On(s, f)
		return s, answer{e: e}
	}, func(b *book) answer { return answer{e: b.on(f)} }}
}

func doWrite(id uint64, data string) deed {
	return deed{fmt.Sprintf("Write of %d, %d bytes", id, len(data)), func(s State) (State, answer) {
		s, n, e := flow.Write(s, id, data)
		return s, answer{n: n, e: e}
	}, func(b *book) answer { return b.write(id, data) }}
}

func doFinish(id uint64) deed {
	return deed{fmt.Sprint("Finish of ", id), func(s State) (State, answer) {
		s, e := flow.Finish(s, id)
		return s, answer{e: e}
	}, func(b *book) answer { return b.finish(id) }}
}

func doReset(id, code uint64) deed {
	return deed{fmt.Sprint("Reset of ", id, code), func(s State) (State, answer) {
		s, e := flow.Reset(s, id, code)
		return s, answer{e: e}
	}, func(b *book) answer { return b.reset(id, code) }}
}

func doStop(id, code uint64) deed {
	return deed{fmt.Sprint("Stop of ", id, code), func(s State) (State, answer) {
		s, e := flow.Stop(s, id, code)
		return s, answer{e: e}
	}, func(b *book) answer { return b.stop(id, code) }}
}

func doTake(id uint64, n int) deed {
	return deed{fmt.Sprint("Take of ", id, n), func(s State) (State, answer) {
		s, data, all, e := flow.Take(s, id, n)
		return s, answer{data: data, all: all, e: e}
	}, func(b *book) answer { return b.take(id, n) }}
}

func doNext(most int) deed {
	return deed{fmt.Sprint("Next of ", most), func(s State) (State, answer) {
		s, f, ok := flow.Next(s, most)
		if len(f.Set) == 0 {
			f.Set = nil
		}
		return s, answer{f: f, ok: ok}
	}, func(b *book) answer { return b.next(most) }}
}

func doLost(f Frame) deed {
	return deed{fmt.Sprintf("Lost of %+v", f), func(s State) (State, answer) {
		return flow.Lost(s, f), answer{}
	}, func(b *book) answer { b.lost(f); return answer{} }}
}

func doAcked(f Frame) deed {
	return deed{fmt.Sprintf("Acked of %+v", f), func(s State) (State, answer) {
		return flow.Acked(s, f), answer{}
	}, func(b *book) answer { b.acked(f); return answer{} }}
}

// check tells whether a call answers that, and leaves what it was handed as it was.
func check(t *testing.T, name string, s State, d deed, want State, told answer) State {
	t.Helper()
	before := copied(s)
	out, got := d.do(s)
	if !reflect.DeepEqual(got, told) {
		t.Errorf("%s: %s: %+v, not %+v", name, d.name, got, told)
	}
	checkState(t, name+": "+d.name, out, want)
	checkState(t, name+": "+d.name+", the state that was handed in", s, before)
	return out
}

// checkRefused tells whether a call has that error, all else zero, and the state as it was.
func checkRefused(t *testing.T, name string, s State, d deed, e api.Errno) {
	t.Helper()
	check(t, name, s, d, s, answer{e: e})
}

// done tells s behind these calls, of which none may have an error.
func done(s State, l ...deed) State {
	for _, d := range l {
		var told answer
		if s, told = d.do(s); told.e != api.OK {
			panic(fmt.Sprintf("%s: error %d", d.name, told.e))
		}
	}
	return s
}

// came tells s when these frames came, which have to be taken.
func came(s State, l ...Frame) State {
	for _, f := range l {
		s = done(s, doOn(f))
	}
	return s
}

// went tells s when n frames were sent.
func went(s State, n int) State {
	for range n {
		s = done(s, doNext(wide))
	}
	return s
}

// of tells stream id of s, which has to be there.
func of(s State, id uint64) Stream {
	for _, x := range s.L {
		if x.Id == id {
			return x.S
		}
	}
	panic(fmt.Sprint("no stream ", id))
}

// turned tells s with stream id as do makes it.
func turned(s State, id uint64, do func(x *Stream)) State {
	of(s, id)
	s = copied(s)
	for i := range s.L {
		if s.L[i].Id == id {
			do(&s.L[i].S)
		}
	}
	return s
}

// without tells s with no streams.
func without(s State) State {
	s.L = nil
	return s
}

// more tells s with one stream more, behind those that are there.
func more(s State, id uint64, x Stream) State {
	s = copied(s)
	s.L = append(s.L, Item{Id: id, S: x})
	return s
}

// The chapter's example.
func TestTheExample(t *testing.T) {
	for _, x := range []struct {
		server, uni bool
		ids         []uint64
	}{
		{false, false, []uint64{0, 4, 8, 12, 16, 20, 24, 28}},
		{false, true, []uint64{2, 6, 10, 14, 18, 22, 26, 30}},
		{true, false, []uint64{1, 5, 9, 13, 17, 21, 25, 29}},
		{true, true, []uint64{3, 7, 11, 15, 19, 23, 27, 31}},
	} {
		s := flow.New(x.server, full(), full())
		for i, id := range x.ids {
			now, got, e := flow.Open(s, x.uni)
			if got != id || e != api.OK || len(now.L) != i+1 || now.L[i].Id != id {
				t.Errorf("%+v: %d, %d, %+v", x, got, e, now)
			}
			s = now
		}
	}
}

// P17.1

func TestNew(t *testing.T) {
	limits := []Limits{{}, ours(), peers(), full(), {Data: 1}, {Stream: 1}, {Bidi: 1}, {Uni: 1}, {Data: mostCredit - 1, Stream: 7, Bidi: 8}}
	for _, server := range both {
		for _, own := range limits {
			for _, peer := range limits {
				want := State{Server: server, Own: own, Peer: peer, Max: peer.Data, Limit: own.Data, MaxOpen: [2]uint64{peer.Bidi, peer.Uni}}
				checkState(t, fmt.Sprint("New of ", server, own, peer), flow.New(server, own, peer), want)
			}
		}
	}
}

// A stream that goes one way only has no credit, or no window.
func TestStreamsThatAreMade(t *testing.T) {
	for _, server := range both {
		s := flow.New(server, ours(), peers())
		for _, uni := range both {
			window := uint64(70)
			if uni {
				window = 0
			}
			id := number(server, uni, 0)
			want := more(s, id, Stream{Credit: 50, Window: window, Limit: window})
			if want.Opened = [2]uint64{1, 0}; uni {
				want.Opened = [2]uint64{0, 1}
			}
			check(t, "an own one", s, doOpen(uni), want, answer{id: id})
		}
		bidi, uni := number(!server, false, 0), number(!server, true, 0)
		twoWays, oneWay := Stream{Credit: 50, Window: 70, Limit: 70}, Stream{Window: 70, Limit: 70}
		for _, f := range []Frame{part(bidi, 0, ""), limitOf(bidi, 50), limitOf(bidi, 0), blockedOf(bidi, 9)} {
			check(t, "one of the other side", s, doOn(f), more(s, bidi, twoWays), answer{})
		}
		for _, f := range []Frame{part(uni, 0, ""), blockedOf(uni, 9)} {
			check(t, "a uni one of the other side", s, doOn(f), more(s, uni, oneWay), answer{})
		}
		for _, f := range []Frame{stopOf(bidi, 9), resetOf(bidi, 0, 9), last(bidi, 0, ""), part(bidi, 0, "abc")} {
			x := of(came(s, f), bidi)
			if x.Credit != 50 || x.Window != 70 || x.Limit != 70 {
				t.Errorf("%+v: %+v", f, x)
			}
		}
		for _, f := range []Frame{resetOf(uni, 0, 9), last(uni, 0, ""), part(uni, 0, "abc")} {
			x := of(came(s, f), uni)
			if x.Credit != 0 || x.Window != 70 || x.Limit != 70 {
				t.Errorf("%+v: %+v", f, x)
			}
		}
	}
}

// Streams are made by the limits that are there then.
func TestStreamsThatAreMadeByOtherLimits(t *testing.T) {
	for _, x := range []struct {
		own, peer      uint64
		credit, window [4]uint64 // of own, own uni, the other side's, the other side's uni
	}{
		{0, 0, [4]uint64{}, [4]uint64{}},
		{9, 0, [4]uint64{}, [4]uint64{9, 0, 9, 9}},
		{0, 9, [4]uint64{9, 9, 9, 0}, [4]uint64{}},
		{mostCredit, 1, [4]uint64{1, 1, 1, 0}, [4]uint64{mostCredit, 0, mostCredit, mostCredit}},
		{1, mostCredit, [4]uint64{mostCredit, mostCredit, mostCredit, 0}, [4]uint64{1, 0, 1, 1}},
	} {
		for _, server := range both {
			s := flow.New(server, Limits{Data: 3, Stream: x.own, Bidi: 1, Uni: 1}, Limits{Data: 4, Stream: x.peer, Bidi: 1, Uni: 1})
			s = came(done(s, doOpen(false), doOpen(true)), blockedOf(number(!server, false, 0), 0), blockedOf(number(!server, true, 0), 0))
			for i, id := range []uint64{number(server, false, 0), number(server, true, 0), number(!server, false, 0), number(!server, true, 0)} {
				if got, want := of(s, id), stream.New(x.credit[i], x.window[i]); !reflect.DeepEqual(got, want) {
					t.Errorf("%+v, stream %d: %+v, not %+v", x, id, got, want)
				}
			}
		}
	}
}

// P17.2: Open

func TestOpenUpToTheGrant(t *testing.T) {
	for _, server := range both {
		for bidi := range uint64(9) {
			for _, uni := range []uint64{0, 1, 3, 8} {
				s := flow.New(server, Limits{}, Limits{Stream: 5, Bidi: bidi, Uni: uni})
				for way, most := range [2]uint64{bidi, uni} {
					s := s
					for order := range most {
						want := more(s, number(server, way == 1, order), stream.New(5, 0))
						want.Opened[way] = order + 1
						s = check(t, fmt.Sprint("of ", most), s, doOpen(way == 1), want, answer{id: number(server, way == 1, order)})
					}
					checkRefused(t, fmt.Sprint("at ", most), s, doOpen(way == 1), api.ErrBlock)
				}
			}
		}
	}
}

// What the other side opened is not held against what this one may open.
func TestOpenBesideTheOtherSides(t *testing.T) {
	for _, server := range both {
		s := flow.New(server, Limits{Bidi: 8, Uni: 8}, Limits{Bidi: 1, Uni: 1})
		s = came(s, blockedOf(number(!server, false, 7), 0), blockedOf(number(!server, true, 7), 0))
		s = done(s, doOpen(true))
		checkRefused(t, "a uni one", s, doOpen(true), api.ErrBlock)
		s = done(s, doOpen(false))
		checkRefused(t, "a uni one", s, doOpen(true), api.ErrBlock)
		checkRefused(t, "the other kind", s, doOpen(false), api.ErrBlock)
		s = came(s, most(frame.MaxBidi, 2))
		checkRefused(t, "a uni one, when more of the other kind are granted", s, doOpen(true), api.ErrBlock)
		s, id, e := flow.Open(s, false)
		if id != number(server, false, 1) || e != api.OK || s.Opened != [2]uint64{2, 1} || len(s.L) != 19 {
			t.Errorf("%d, %d, %+v", id, e, s)
		}
		checkRefused(t, "again", s, doOpen(false), api.ErrBlock)
	}
}

// In whatever order they are made, streams stand by rising numbers.
func TestStreamsByRisingNumbers(t *testing.T) {
	for _, server := range both {
		makers := []deed{
			doOpen(false), doOpen(false), doOpen(true), doOpen(true),
			doOn(blockedOf(number(!server, false, 2), 0)), doOn(part(number(!server, true, 1), 0, "ab")), doOn(part(number(!server, false, 0), 3, "de")),
		}
		var want []uint64
		for order := range uint64(3) {
			want = append(want, number(!server, false, order))
			if order < 2 {
				want = append(want, number(server, false, order), number(server, true, order), number(!server, true, order))
			}
		}
		slices.Sort(want)
		d := newDice(7)
		var first State
		for round := range 200 {
			s := flow.New(server, full(), full())
			for i := range makers {
				j := i + d.below(len(makers)-i)
				makers[i], makers[j] = makers[j], makers[i]
				s = done(s, makers[i])
				if ids := numbers(s); !slices.IsSorted(ids) || len(slices.Compact(ids)) != len(s.L) {
					t.Fatal(numbers(s))
				}
			}
			if !slices.Equal(numbers(s), want) {
				t.Fatalf("%v, not %v", numbers(s), want)
			}
			if round == 0 {
				first = s
			}
			checkState(t, "in another order", s, first)
		}
	}
}

func numbers(s State) []uint64 {
	var l []uint64
	for _, x := range s.L {
		l = append(l, x.Id)
	}
	return l
}

// P17.2: calls of a stream

// callsOf are calls of stream id.
func callsOf(id uint64) []deed {
	return []deed{doWrite(id, "ab"), doWrite(id, ""), doFinish(id), doReset(id, 7), doStop(id, 7), doTake(id, 2), doTake(id, 0), doTake(id, -1)}
}

// four tells a side with a stream of each opener and kind, of order 1, and of order 0, on some of which bytes came.
func four(server bool) State {
	s := done(flow.New(server, full(), full()), doOpen(false), doOpen(false), doOpen(true), doOpen(true))
	bidi, uni, own := number(!server, false, 1), number(!server, true, 1), number(server, false, 1)
	return came(s, part(bidi, 0, "abcd"), part(uni, 1, "bc"), part(own, 0, "xyz"))
}

func TestCallsOfNoStream(t *testing.T) {
	for _, server := range both {
		empty := flow.New(server, full(), full())
		for _, id := range []uint64{0, 1, 2, 3, 4, 7, 31, mostNumber, 1 << 62, highest - 3, highest} {
			for _, d := range callsOf(id) {
				checkRefused(t, "none is there", empty, d, api.ErrNone)
			}
		}
		for _, id := range []uint64{8, 9, 10, 11, 12, 31, 32, mostNumber, 1 << 62, highest - 3, highest} {
			for _, d := range callsOf(id) {
				checkRefused(t, "others are there", four(server), d, api.ErrNone)
			}
		}
		// A gap: an own one, and one of the other side, but not those between.
		s := came(done(empty, doOpen(false), doOpen(false), doOpen(false)), blockedOf(number(!server, true, 0), 0))
		for _, id := range []uint64{number(!server, false, 0), number(server, true, 0), number(!server, true, 1), number(server, false, 3)} {
			for _, d := range callsOf(id) {
				checkRefused(t, "between others", s, d, api.ErrNone)
			}
		}
	}
}

func TestCallsOfTheWrongSide(t *testing.T) {
	for _, server := range both {
		s := four(server)
		for order := range uint64(2) {
			theirs, own := number(!server, true, order), number(server, true, order)
			for _, d := range []deed{doWrite(theirs, "ab"), doWrite(theirs, ""), doFinish(theirs), doReset(theirs, 0), doReset(theirs, 7)} {
				checkRefused(t, "where the other side alone sends", s, d, api.ErrState)
			}
			for _, d := range []deed{doStop(own, 0), doStop(own, 7), doTake(own, -1), doTake(own, 0), doTake(own, 5)} {
				checkRefused(t, "where this side alone sends", s, d, api.ErrState)
			}
		}
	}
}

// Each call changes its stream alone.
func TestCallsOfTheRightSide(t *testing.T) {
	for _, server := range both {
		s := four(server)
		for _, id := range numbers(s) {
			if id%4 != number(!server, true, 0) {
				want := turned(s, id, func(x *Stream) { x.Out = sendq.State{Data: "hello", Todo: set(0, 4)} })
				check(t, "it sends", s, doWrite(id, "hello"), want, answer{n: 5})
				check(t, "it sends", s, doWrite(id, ""), s, answer{})
				want = turned(s, id, func(x *Stream) { x.Out = sendq.State{Fin: true, FinTodo: true} })
				check(t, "it sends", s, doFinish(id), want, answer{})
				for _, code := range []uint64{0, 9, mostNumber} {
					want = turned(s, id, func(x *Stream) { x.Reset, x.Todo, x.Code = true, true, code })
					check(t, "it sends", s, doReset(id, code), want, answer{})
				}
			}
			if id%4 != number(server, true, 0) {
				for _, code := range []uint64{0, 9, mostNumber} {
					want := turned(s, id, func(x *Stream) { x.Stop, x.StopTodo, x.StopCode = true, true, code })
					check(t, "it takes", s, doStop(id, code), want, answer{})
				}
			}
		}
		bidi, own := number(!server, false, 1), number(server, false, 1)
		want := turned(s, bidi, func(x *Stream) { x.In = gather.State{Read: 3, L: []gather.Part{{Off: 3, Data: "d"}}} })
		want.Read = 3
		s = check(t, "some", s, doTake(bidi, 3), want, answer{data: "abc"})
		want = turned(s, own, func(x *Stream) { x.In = gather.State{Read: 3} })
		want.Read = 6
		s = check(t, "all", s, doTake(own, 99), want, answer{data: "xyz"})
		check(t, "none", s, doTake(own, 99), s, answer{})
		check(t, "none that is ready", s, doTake(number(!server, true, 1), 99), s, answer{})
		check(t, "none of one where nothing came", s, doTake(number(!server, true, 0), 99), s, answer{})
		for _, n := range []int{math.MinInt, -1, 0} {
			check(t, "none", s, doTake(bidi, n), s, answer{})
		}
	}
}

// What is given up, or finished, takes no more.
func TestCallsOfOneThatIsGivenUp(t *testing.T) {
	for _, server := range both {
		for _, uni := range both {
			s := done(flow.New(server, full(), full()), doOpen(false), doOpen(false), doOpen(true), doOpen(true))
			id := number(server, uni, 1)
			s = done(s, doWrite(id, "abc"))
			for name, s := range map[string]State{
				"given up":          done(s, doReset(id, 7)),
				"stopped":           came(s, stopOf(id, 7)),
				"given up, sent":    went(done(s, doReset(id, 7)), 1),
				"finished, stopped": came(done(s, doFinish(id)), stopOf(id, 7)),
			} {
				for _, d := range []deed{doWrite(id, "x"), doWrite(id, ""), doFinish(id)} {
					checkRefused(t, name, s, d, api.ErrState)
				}
				check(t, name+", again", s, doReset(id, 8), s, answer{})
				check(t, name+", stopped again", s, doOn(stopOf(id, 8)), s, answer{})
				other := number(server, uni, 0)
				want := turned(s, other, func(x *Stream) { x.Out = sendq.State{Data: "x", Todo: set(0, 0)} })
				check(t, name+", another one", s, doWrite(other, "x"), want, answer{n: 1})
			}
			for name, s := range map[string]State{"finished": done(s, doFinish(id)), "finished, sent": went(done(s, doFinish(id)), 1)} {
				checkRefused(t, name, s, doWrite(id, "x"), api.ErrState)
				checkRefused(t, name, s, doWrite(id, ""), api.ErrState)
				check(t, name+", again", s, doFinish(id), s, answer{})
				want := turned(s, id, func(x *Stream) { x.Reset, x.Todo, x.Code = true, true, 7 })
				check(t, name, s, doReset(id, 7), want, answer{})
				check(t, name, s, doOn(stopOf(id, 7)), want, answer{})
			}
			all := done(went(done(s, doFinish(id)), 1), doAcked(last(id, 0, "abc")))
			if !sendq.Done(of(all, id).Out) {
				t.Fatalf("%+v", all)
			}
			checkRefused(t, "all came", all, doWrite(id, "x"), api.ErrState)
			check(t, "all came", all, doFinish(id), all, answer{})
			check(t, "all came", all, doReset(id, 7), all, answer{})
			check(t, "all came", all, doOn(stopOf(id, 7)), all, answer{})
		}
	}
}

// What goes out that is given up leaves what comes in.
func TestCallsOfTheOtherWay(t *testing.T) {
	for _, server := range both {
		id := number(server, false, 0)
		s := done(flow.New(server, full(), full()), doOpen(false), doReset(id, 7), doOn(part(id, 0, "abc")))
		want := turned(s, id, func(x *Stream) { x.In = gather.State{Read: 3} })
		want.Read = 3
		check(t, "given up", s, doTake(id, 9), want, answer{data: "abc"})
		check(t, "given up", s, doStop(id, 8), turned(s, id, func(x *Stream) { x.Stop, x.StopTodo, x.StopCode = true, true, 8 }), answer{})
		s = done(s, doStop(id, 8))
		check(t, "asked again", s, doStop(id, 9), s, answer{})
		s = came(done(flow.New(server, full(), full()), doOpen(false)), resetOf(id, 5, 7))
		check(t, "broken", s, doWrite(id, "abc"), turned(s, id, func(x *Stream) { x.Out = sendq.State{Data: "abc", Todo: set(0, 2)} }), answer{n: 3})
		check(t, "broken", s, doStop(id, 8), s, answer{})
		s = came(done(flow.New(server, full(), full()), doOpen(false)), last(id, 0, "abc"))
		check(t, "all came", s, doStop(id, 8), s, answer{})
	}
}

func TestWriteByTheRoom(t *testing.T) {
	text := strings.Repeat("0123456789", 500)
	for _, server := range both {
		for _, uni := range both {
			id, other := number(server, uni, 1), number(server, uni, 0)
			empty := done(flow.New(server, full(), full()), doOpen(uni), doOpen(uni))
			for _, x := range []struct{ there, more, n int }{
				{0, 0, 0}, {0, 1, 1}, {0, 4095, 4095}, {0, 4096, 4096}, {0, 4097, 4096}, {0, 5000, 4096},
				{1, 4094, 4094}, {1, 4095, 4095}, {1, 4096, 4095},
				{1000, 3095, 3095}, {1000, 3096, 3096}, {1000, 3097, 3096}, {1000, 5000, 3096},
				{4095, 0, 0}, {4095, 1, 1}, {4095, 2, 1}, {4096, 0, 0}, {4096, 1, 0}, {4096, 5000, 0},
			} {
				s := done(empty, doWrite(id, text[:x.there]))
				end := x.there + x.n
				want := turned(s, id, func(s *Stream) {
					s.Out.Data = text[:x.there] + text[:x.n]
					if end > 0 {
						s.Out.Todo = set(0, uint64(end)-1)
					}
				})
				now := check(t, fmt.Sprint("behind ", x.there), s, doWrite(id, text[:x.more]), want, answer{n: x.n})
				// Each stream has a room of its own.
				if _, n, e := flow.Write(now, other, text); n != 4096 || e != api.OK {
					t.Errorf("another one: %d, %d", n, e)
				}
			}
			// What is acknowledged leaves room, what was sent alone does not.
			s := went(done(empty, doWrite(id, text)), 2)
			if _, n, _ := flow.Write(s, id, text); n != 0 {
				t.Errorf("sent: %d", n)
			}
			s = done(s, doAcked(part(id, 0, text[:1000])))
			if _, n, _ := flow.Write(s, id, text); n != 1000 {
				t.Errorf("acknowledged: %d", n)
			}
		}
	}
}

// P17.2: Take

func TestTakeOfABrokenStream(t *testing.T) {
	for _, server := range both {
		for _, uni := range both {
			id := number(!server, uni, 0)
			s := flow.New(server, Limits{Data: 10, Stream: 100, Bidi: 1, Uni: 1}, peers())
			for name, s := range map[string]State{
				"nothing came":       came(s, resetOf(id, 5, 7)),
				"bytes came":         came(s, part(id, 0, "abc"), resetOf(id, 5, 7)),
				"some were read":     came(done(s, doOn(part(id, 0, "abc")), doTake(id, 2)), resetOf(id, 10, 7)),
				"a limit was raised": came(done(s, doOn(part(id, 0, "abcdefghi")), doTake(id, 6)), resetOf(id, 10, 7)),
			} {
				for _, n := range []int{math.MinInt, -1, 0, 1, 99, math.MaxInt} {
					check(t, name, s, doTake(id, n), s, answer{all: true, e: api.ErrState})
				}
			}
		}
	}
}

func TestTakeToTheEnd(t *testing.T) {
	for _, server := range both {
		for _, uni := range both {
			id := number(!server, uni, 0)
			s := came(flow.New(server, full(), full()), last(id, 0, "abc"))
			rest := func(n uint64) State {
				now := turned(s, id, func(x *Stream) {
					if x.In.Read, x.In.L = n, nil; n < 3 {
						x.In.L = []gather.Part{{Off: n, Data: "abc"[n:]}}
					}
				})
				now.Read = n
				return now
			}
			check(t, "some", s, doTake(id, 2), rest(2), answer{data: "ab"})
			check(t, "the rest", rest(2), doTake(id, 1), rest(3), answer{data: "c", all: true})
			check(t, "all", s, doTake(id, 3), rest(3), answer{data: "abc", all: true})
			check(t, "all", s, doTake(id, 99), rest(3), answer{data: "abc", all: true})
			check(t, "behind all", rest(3), doTake(id, 99), rest(3), answer{all: true})
			check(t, "behind all", rest(3), doTake(id, 0), rest(3), answer{all: true})
		}
	}
}

// The limit goes on when less than half of Own.Data is left.
func TestTakeRaisesTheLimit(t *testing.T) {
	for _, x := range []struct {
		data, n int
		raise   bool
	}{
		{0, 0, false}, {1, 0, false}, {1, 1, false},
		{2, 0, false}, {2, 1, false}, {2, 2, true},
		{3, 1, false}, {3, 2, false}, {3, 3, true},
		{4, 1, false}, {4, 2, false}, {4, 3, true}, {4, 4, true},
		{5, 2, false}, {5, 3, false}, {5, 4, true}, {5, 5, true},
		{10, 4, false}, {10, 5, false}, {10, 6, true}, {10, 7, true}, {10, 10, true},
		{11, 5, false}, {11, 6, false}, {11, 7, true}, {11, 8, true}, {11, 11, true},
		{1000, 499, false}, {1000, 500, false}, {1000, 501, true},
		{1001, 500, false}, {1001, 501, false}, {1001, 502, true},
	} {
		for _, server := range both {
			for _, uni := range both {
				id := number(!server, uni, 0)
				text := strings.Repeat("x", x.data)
				s := came(flow.New(server, Limits{Data: uint64(x.data), Stream: mostCredit, Bidi: 1, Uni: 1}, peers()), part(id, 0, text))
				want := turned(s, id, func(s *Stream) {
					if s.In = (gather.State{Read: uint64(x.n)}); x.n < x.data {
						s.In.L = []gather.Part{{Off: uint64(x.n), Data: text[x.n:]}}
					}
				})
				want.Read = uint64(x.n)
				if x.raise {
					want.Limit, want.Raise = uint64(x.n+x.data), true
				}
				check(t, fmt.Sprint("of ", x.data), s, doTake(id, x.n), want, answer{data: text[:x.n]})
				// Byte by byte it goes on at the first of these.
				one := s
				for i := range x.n {
					before := one
					one = done(one, doTake(id, 1))
					if one.Raise != (before.Raise || x.data-i-1 < x.data/2) {
						t.Errorf("%+v, after %d: %+v", x, i+1, one)
					}
				}
			}
		}
	}
}

// Bytes of all streams count together, and each limit goes on by itself.
func TestTakeOfManyStreams(t *testing.T) {
	for _, server := range both {
		own, bidi, uni := number(server, false, 0), number(!server, false, 0), number(!server, true, 0)
		s := done(flow.New(server, Limits{Data: 20, Stream: 8, Bidi: 1, Uni: 1}, peers()), doOpen(false))
		s = came(s, part(own, 0, "abcde"), part(bidi, 0, "fghij"), part(uni, 0, "klmno"))
		s = done(s, doTake(own, 4), doTake(bidi, 4))
		if s.Read != 8 || s.Limit != 20 || s.Raise || of(s, own).Raise {
			t.Fatalf("%+v", s)
		}
		s = done(s, doTake(uni, 2))
		if s.Read != 10 || s.Limit != 20 || s.Raise {
			t.Fatalf("%+v", s)
		}
		two := done(s, doTake(own, 1))
		if two.Read != 11 || two.Limit != 31 || !two.Raise || !of(two, own).Raise || of(two, own).Limit != 13 || of(two, bidi).Raise {
			t.Errorf("%+v", two)
		}
		// What is read again of a raised one counts from there on.
		s = done(went(two, 2), doTake(bidi, 1), doTake(uni, 3), doOn(part(own, 5, "pqrstuvw")))
		if s.Read != 15 || s.Limit != 31 || s.Raise {
			t.Fatalf("%+v", s)
		}
		s = done(s, doTake(own, 6))
		if s.Read != 21 || s.Limit != 31 || s.Raise {
			t.Fatalf("%+v", s)
		}
		if s = done(s, doTake(own, 1)); s.Read != 22 || s.Limit != 42 || !s.Raise {
			t.Errorf("%+v", s)
		}
	}
}

// A known end raises no limit of its stream, but that of all.
func TestTakeToTheEndRaisesTheLimit(t *testing.T) {
	for _, server := range both {
		id := number(!server, true, 0)
		s := came(flow.New(server, Limits{Data: 4, Stream: 4, Uni: 1}, peers()), last(id, 0, "abcd"))
		s = done(s, doTake(id, 4))
		if s.Limit != 8 || !s.Raise || of(s, id).Raise || of(s, id).Limit != 4 {
			t.Errorf("%+v", s)
		}
	}
}

// P17.3

// framesOf are frames of stream id that it takes, if that side sends on it.
func framesOf(id uint64) (toReader, toWriter []Frame) {
	return []Frame{part(id, 0, ""), part(id, 0, "abc"), last(id, 0, ""), last(id, 3, "d"), resetOf(id, 0, 0), resetOf(id, 5, 7), blockedOf(id, 0), blockedOf(id, 50)},
		[]Frame{stopOf(id, 0), stopOf(id, 7), limitOf(id, 0), limitOf(id, 99)}
}

func TestOnOfTheWrongSide(t *testing.T) {
	for _, server := range both {
		s := done(flow.New(server, ours(), peers()), doOpen(false), doOpen(true), doOpen(true))
		s = came(s, blockedOf(number(!server, true, 0), 0))
		// Of those that are there, and of those that are not, also where they may not be.
		for _, order := range []uint64{0, 1, 2, 3, 7, 8, 9, 1 << 59} {
			toReader, _ := framesOf(number(server, true, order))
			for _, f := range append(toReader, part(number(server, true, order), mostNumber-1, "a")) {
				checkRefused(t, "where this side alone sends", s, doOn(f), api.ErrState)
			}
			_, toWriter := framesOf(number(!server, true, order))
			for _, f := range toWriter {
				checkRefused(t, "where the other side alone sends", s, doOn(f), api.ErrState)
			}
		}
	}
}

func TestOnOfTheRightSide(t *testing.T) {
	for _, server := range both {
		s := done(flow.New(server, ours(), peers()), doOpen(false), doOpen(true))
		s = came(s, blockedOf(number(!server, true, 0), 0), blockedOf(number(!server, false, 0), 0))
		for _, id := range numbers(s) {
			toReader, toWriter := framesOf(id)
			if id != number(server, true, 0) {
				for _, f := range toReader {
					want := s
					switch f.Kind {
					case frame.Stream:
						want = turned(s, id, func(x *Stream) { *x, _, _ = stream.Data(*x, f) })
						want.Got = f.Off + uint64(len(f.Data))
					case frame.Reset:
						want = turned(s, id, func(x *Stream) { *x, _, _ = stream.Break(*x, f) })
						want.Got = f.Max
					}
					check(t, "the other side sends", s, doOn(f), want, answer{})
				}
			}
			if id != number(!server, true, 0) {
				for _, f := range toWriter {
					want := turned(s, id, func(x *Stream) {
						switch f.Kind {
						case frame.Stop:
							x.Reset, x.Todo, x.Code = true, true, f.Code
						case frame.MaxStream:
							x.Credit = max(50, f.Max)
						}
					})
					check(t, "this side sends", s, doOn(f), want, answer{})
				}
			}
		}
	}
}

func TestOnOfAnOwnStreamThatIsNot(t *testing.T) {
	for _, server := range both {
		empty := flow.New(server, full(), full())
		for opened := range 3 {
			s := empty
			for range opened {
				s = done(s, doOpen(false), doOpen(true))
			}
			s = came(s, blockedOf(number(!server, false, 4), 0))
			for order := range uint64(3) {
				bidi, uni := number(server, false, order), number(server, true, order)
				toReader, toWriter := framesOf(bidi)
				_, toUni := framesOf(uni)
				for _, f := range slices.Concat(toReader, toWriter, toUni) {
					if order < uint64(opened) {
						came(s, f)
					} else {
						checkRefused(t, "an own one that is not there", s, doOn(f), api.ErrState)
					}
				}
			}
			for _, order := range []uint64{7, 8, 9, 1 << 59, 1<<60 - 1} {
				toReader, toWriter := framesOf(number(server, false, order))
				for _, f := range slices.Concat(toReader, toWriter) {
					checkRefused(t, "one far behind those that are there", s, doOn(f), api.ErrState)
				}
			}
		}
	}
}

// The other side's streams are made up to what is granted, each with those ahead of it.
func TestOnOfTheOthersStreams(t *testing.T) {
	for _, server := range both {
		for bidi := range uint64(9) {
			for _, uni := range []uint64{0, 1, 2, 7, 8} {
				empty := flow.New(server, Limits{Data: 1000, Stream: 70, Bidi: bidi, Uni: uni}, peers())
				for way, granted := range [2]uint64{bidi, uni} {
					for _, order := range []uint64{0, 1, 2, 6, 7, 8, 9, 1 << 59, 1<<60 - 1} {
						id := number(!server, way == 1, order)
						toReader, toWriter := framesOf(id)
						l := toReader
						if way == 0 {
							l = append(l, toWriter...)
						}
						for _, f := range l {
							if order >= granted {
								checkRefused(t, fmt.Sprint("at ", granted), empty, doOn(f), api.ErrStreams)
								continue
							}
							s := came(empty, f)
							want := empty
							for n := range order + 1 {
								want = more(want, number(!server, way == 1, n), stream.New(50*uint64(1-way), 70))
							}
							want.Got = s.Got
							got := turned(s, id, func(x *Stream) { *x = of(want, id) })
							checkState(t, fmt.Sprintf("%+v below %d", f, granted), got, want)
						}
					}
				}
			}
		}
	}
}

// Those that are there stay as they are.
func TestOnMakesWhatIsNotThere(t *testing.T) {
	for _, server := range both {
		for _, uni := range both {
			s := came(done(flow.New(server, full(), full()), doOpen(uni)), part(number(!server, uni, 1), 0, "abc"), last(number(!server, uni, 0), 1, "xy"))
			want := s
			for _, order := range []uint64{2, 3, 4} {
				want = more(want, number(!server, uni, order), of(came(s, blockedOf(number(!server, uni, order), 0)), number(!server, uni, order)))
			}
			check(t, "three more", s, doOn(blockedOf(number(!server, uni, 4), 0)), want, answer{})
			check(t, "none more", want, doOn(blockedOf(number(!server, uni, 4), 0)), want, answer{})
			check(t, "none more", want, doOn(blockedOf(number(!server, uni, 0), 0)), want, answer{})
		}
	}
}

// With a stream's own error nothing is made.
func TestOnWithAnErrorOfTheStream(t *testing.T) {
	for _, server := range both {
		for _, uni := range both {
			id := number(!server, uni, 1)
			s := flow.New(server, Limits{Data: 1000, Stream: 9, Bidi: 3, Uni: 3}, peers())
			for _, f := range []Frame{part(id, 9, "x"), part(id, 10, ""), part(id, 0, "0123456789"), last(id, 10, ""), last(id, 8, "ab"), part(id, mostNumber, ""), resetOf(id, 10, 7), resetOf(id, mostNumber, 7)} {
				checkRefused(t, "above the stream's limit", s, doOn(f), api.ErrCredit)
			}
			check(t, "at the stream's limit", s, doOn(last(id, 9, "")), func() State {
				want := came(s, blockedOf(id, 0))
				want.Got = 9
				return turned(want, id, func(x *Stream) { x.In = gather.State{Final: 9, Known: true} })
			}(), answer{})
			s = came(s, last(id, 4, "e"))
			for _, f := range []Frame{part(id, 5, "f"), part(id, 8, ""), last(id, 4, ""), last(id, 5, "f"), resetOf(id, 4, 7), resetOf(id, 6, 7)} {
				checkRefused(t, "another size", s, doOn(f), api.ErrFinal)
			}
			for _, f := range []Frame{part(id, 9, "x"), resetOf(id, 10, 7)} {
				checkRefused(t, "another size, above the stream's limit", s, doOn(f), api.ErrCredit)
			}
			s = came(s, resetOf(id, 5, 7))
			for _, f := range []Frame{part(id, 5, "f"), last(id, 4, ""), resetOf(id, 6, 7)} {
				checkRefused(t, "another size of a broken one", s, doOn(f), api.ErrFinal)
			}
			check(t, "a broken one", s, doOn(part(id, 0, "abc")), s, answer{})
			check(t, "a broken one", s, doOn(resetOf(id, 5, 8)), s, answer{})
		}
	}
}

// Which error is told where several apply.
func TestOnWithManyErrors(t *testing.T) {
	for _, server := range both {
		s := flow.New(server, Limits{Data: 10, Stream: 100, Bidi: 2, Uni: 1}, peers())
		far := number(!server, false, 2)
		for _, f := range []Frame{part(far, 200, "x"), part(far, 11, ""), resetOf(far, 200, 7), part(number(!server, true, 1), 200, "x")} {
			checkRefused(t, "one too many, above all limits", s, doOn(f), api.ErrStreams)
		}
		for _, f := range []Frame{part(number(server, false, 0), 200, "x"), part(number(server, true, 0), 200, "x"), resetOf(number(server, true, 9), 200, 7)} {
			checkRefused(t, "an own one that is not there, above all limits", s, doOn(f), api.ErrState)
		}
		for _, f := range []Frame{stopOf(number(!server, true, 1), 7), limitOf(number(!server, true, 1), 7)} {
			checkRefused(t, "one too many, of the wrong side", s, doOn(f), api.ErrState)
		}
		for _, uni := range both {
			id := number(!server, uni, 0)
			ended := came(s, last(id, 4, "e"))
			for _, f := range []Frame{part(id, 20, "x"), last(id, 20, ""), resetOf(id, 20, 7), resetOf(id, 11, 7), last(id, 4, "")} {
				checkRefused(t, "another size, above the limit of all", ended, doOn(f), api.ErrFinal)
			}
			for _, f := range []Frame{part(id, 100, "x"), resetOf(id, 101, 7)} {
				checkRefused(t, "another size, above both limits", ended, doOn(f), api.ErrCredit)
			}
		}
	}
}

// A number and Got may be as much as Limit, and no more; with more nothing is made.
func TestOnByTheLimitOfAll(t *testing.T) {
	for _, server := range both {
		for _, uni := range both {
			for _, before := range []uint64{0, 1, 4, 9, 10} {
				id, first := number(!server, uni, 1), number(!server, !uni, 0)
				s := flow.New(server, Limits{Data: 10, Stream: 100, Bidi: 2, Uni: 2}, peers())
				if before > 0 {
					s = came(s, last(first, before, ""))
				}
				if s.Got != before {
					t.Fatalf("%+v", s)
				}
				left := 10 - before
				text := strings.Repeat("x", int(left)+1)
				for _, f := range []Frame{part(id, 0, text), part(id, left, "x"), last(id, left+1, ""), last(id, 0, text), resetOf(id, left+1, 7), part(id, 99, "x"), resetOf(id, 100, 7)} {
					checkRefused(t, fmt.Sprint("above, of ", left), s, doOn(f), api.ErrCredit)
				}
				for _, f := range []Frame{last(id, left, ""), part(id, 0, text[:left]), last(id, 0, text[:left]), resetOf(id, left, 7)} {
					if now := came(s, f); now.Got != 10 || len(now.L) != len(s.L)+2 {
						t.Errorf("at, of %d, %+v: %+v", left, f, now)
					}
				}
				for _, f := range []Frame{part(id, left, ""), part(id, 100, "")} {
					if now := came(s, f); now.Got != before {
						t.Errorf("no bytes, %+v: %+v", f, now)
					}
				}
				if left > 0 {
					for _, f := range []Frame{last(id, left-1, ""), part(id, 0, text[:left-1]), resetOf(id, left-1, 7)} {
						if now := came(s, f); now.Got != 9 {
							t.Errorf("below, of %d, %+v: %+v", left, f, now)
						}
					}
				}
			}
		}
	}
}

// Got counts how far each stream goes, once.
func TestGot(t *testing.T) {
	for _, server := range both {
		own, bidi, uni := number(server, false, 0), number(!server, false, 0), number(!server, true, 0)
		s := done(flow.New(server, Limits{Data: 30, Stream: 20, Bidi: 1, Uni: 1}, peers()), doOpen(false))
		for _, x := range []struct {
			f   Frame
			got uint64
		}{
			{part(own, 0, "abc"), 3}, {part(own, 0, "abc"), 3}, {part(own, 1, "bcd"), 4}, {part(own, 7, "h"), 8}, {part(own, 4, "efg"), 8}, {part(own, 20, ""), 8},
			{part(bidi, 5, "f"), 14}, {part(bidi, 0, "abcde"), 14}, {last(bidi, 9, ""), 17}, {last(bidi, 8, "i"), 17}, {part(bidi, 3, "defgh"), 17},
			{resetOf(uni, 4, 7), 21}, {resetOf(uni, 4, 8), 21}, {part(uni, 0, "abcd"), 21},
			{resetOf(own, 12, 7), 25}, {part(own, 9, "jkl"), 25}, {resetOf(bidi, 9, 7), 25},
		} {
			s = came(s, x.f)
			if s.Got != x.got || s.Read != 0 || s.Limit != 30 {
				t.Errorf("%+v: %+v", x.f, s)
			}
		}
	}
}

// What was read lets as much more come.
func TestOnBehindARaisedLimit(t *testing.T) {
	for _, server := range both {
		id := number(!server, true, 0)
		s := came(flow.New(server, Limits{Data: 10, Stream: 100, Uni: 1}, peers()), part(id, 0, "0123456789"))
		checkRefused(t, "all is used up", s, doOn(part(id, 10, "a")), api.ErrCredit)
		five := done(s, doTake(id, 5))
		checkRefused(t, "half of it was read", five, doOn(part(id, 10, "a")), api.ErrCredit)
		s = done(s, doTake(id, 6))
		checkRefused(t, "more was read", s, doOn(part(id, 10, "abcdefg")), api.ErrCredit)
		checkRefused(t, "more was read", s, doOn(resetOf(id, 17, 7)), api.ErrCredit)
		if now := came(s, part(id, 10, "abcdef")); now.Got != 16 || now.Limit != 16 {
			t.Errorf("%+v", now)
		}
	}
}

func TestOnOfMaxStream(t *testing.T) {
	for _, server := range both {
		for _, id := range []uint64{number(server, false, 0), number(server, true, 0), number(!server, false, 0)} {
			for _, credit := range []uint64{0, 1, 9, mostCredit - 1, mostCredit} {
				s := done(flow.New(server, full(), Limits{Stream: credit, Bidi: 1, Uni: 1}), doOpen(false), doOpen(true))
				s = came(s, blockedOf(number(!server, false, 0), 0))
				for _, max := range []uint64{0, 1, 8, 9, 10, mostCredit - 1, mostCredit, mostCredit + 1, 1 << 40, mostNumber} {
					want := turned(s, id, func(x *Stream) {
						if max > credit {
							x.Credit = max
						}
						if x.Credit > mostCredit {
							x.Credit = mostCredit
						}
					})
					check(t, fmt.Sprint("a credit of ", credit), s, doOn(limitOf(id, max)), want, answer{})
				}
			}
		}
	}
}

func TestOnOfMaxData(t *testing.T) {
	for _, server := range both {
		for _, now := range []uint64{0, 1, 9, mostCredit - 1, mostCredit} {
			s := done(flow.New(server, ours(), Limits{Data: now, Bidi: 1}), doOpen(false))
			for _, max := range []uint64{0, 1, 8, 9, 10, mostCredit - 1, mostCredit, mostCredit + 1, 1 << 40, mostNumber} {
				want := s
				if max > now {
					want.Max = max
				}
				if want.Max > mostCredit {
					want.Max = mostCredit
				}
				check(t, fmt.Sprint("a Max of ", now), s, doOn(most(frame.MaxData, max)), want, answer{})
			}
		}
	}
}

func TestOnOfMaxBidiAndMaxUni(t *testing.T) {
	for _, server := range both {
		for bidi := range uint64(9) {
			for _, uni := range []uint64{0, 3, 8} {
				s := flow.New(server, ours(), Limits{Bidi: bidi, Uni: uni})
				for way, kind := range []uint64{frame.MaxBidi, frame.MaxUni} {
					for _, max := range []uint64{0, 1, 2, 3, 4, 7, 8, 9, 100, 1 << 60} {
						want := s
						if max > want.MaxOpen[way] {
							want.MaxOpen[way] = max
						}
						if want.MaxOpen[way] > 8 {
							want.MaxOpen[way] = 8
						}
						check(t, fmt.Sprint("of ", s.MaxOpen), s, doOn(most(kind, max)), want, answer{})
					}
				}
			}
		}
		// Neither changes what was opened, nor what the other side may open.
		s := done(flow.New(server, Limits{}, Limits{Bidi: 2, Uni: 2}), doOpen(false), doOpen(true))
		s = came(s, most(frame.MaxBidi, 8), most(frame.MaxUni, 8))
		if s.Opened != [2]uint64{1, 1} || s.MaxOpen != [2]uint64{8, 8} {
			t.Errorf("%+v", s)
		}
		checkRefused(t, "of the other side", s, doOn(blockedOf(number(!server, false, 0), 0)), api.ErrStreams)
	}
}

// others are frames that change nothing of streams, whatever else they have.
func others() []Frame {
	var l []Frame
	for _, kind := range []uint64{frame.DataBlocked, frame.BidiBlocked, frame.UniBlocked} {
		for _, max := range []uint64{0, 1, 7, 8, 9, 1 << 60} {
			l = append(l, most(kind, max))
		}
	}
	cid, token := strings.Repeat("c", 8), strings.Repeat("t", 16)
	l = append(l,
		Frame{Kind: frame.Padding}, Frame{Kind: frame.Ping}, Frame{Kind: frame.Done},
		Frame{Kind: frame.Ack, Set: set(1, 3)}, Frame{Kind: frame.Crypto, Data: "abc"}, Frame{Kind: frame.Crypto, Off: 3, Data: "abc"},
		Frame{Kind: frame.NewId, Seq: 4, Prior: 1, Cid: cid, Token: token}, Frame{Kind: frame.RetireId, Seq: 4},
		Frame{Kind: frame.Challenge, Token: cid}, Frame{Kind: frame.Response, Token: cid},
		Frame{Kind: frame.Close, Code: 7, Data: "abc"}, Frame{Kind: frame.AppClose, Code: 7, Data: "abc"})
	for _, f := range l {
		if !frame.May(f) {
			panic(fmt.Sprintf("%+v", f))
		}
	}
	return l
}

func TestOnOfOthers(t *testing.T) {
	for _, server := range both {
		for _, s := range []State{flow.New(server, ours(), peers()), four(server), midst(server)} {
			for _, f := range others() {
				check(t, "others", s, doOn(f), s, answer{})
			}
		}
	}
}

// P17.4

// size tells how many bytes f has.
func size(f Frame) int {
	p, e := frame.Put(f)
	if e != api.OK {
		panic(fmt.Sprintf("no frame: %+v", f))
	}
	return len(p)
}

func TestNextOfNothing(t *testing.T) {
	for _, server := range both {
		empty := flow.New(server, full(), full())
		id := number(server, false, 0)
		for name, s := range map[string]State{
			"no streams":         empty,
			"no bytes":           four(server),
			"all went":           went(done(empty, doOpen(false), doWrite(id, "abc"), doFinish(id)), 1),
			"no credit":          done(flow.New(server, ours(), Limits{Stream: 9, Bidi: 1}), doOpen(false), doWrite(id, "abc")),
			"no stream's credit": done(flow.New(server, ours(), Limits{Data: 9, Bidi: 1}), doOpen(false), doWrite(id, "abc")),
		} {
			for _, turn := range []uint64{0, 5, 32} {
				s.Turn = turn
				for _, most := range []int{math.MinInt, -1, 0, 1, 9, 1500, math.MaxInt} {
					check(t, name, s, doNext(most), s, answer{})
				}
			}
		}
	}
}

// raised tells a side whose limits, of all and of one stream, have to be told: that of all is half as much again as data, and 1.
func raised(server bool, data uint64) (State, uint64) {
	id := number(!server, false, 0)
	s := flow.New(server, Limits{Data: data, Stream: data, Bidi: 1}, full())
	n := int(data/2) + 1
	for from := 0; from < n; from += 1200 {
		s = came(s, part(id, uint64(from), strings.Repeat("x", min(1200, n-from))))
	}
	s = done(s, doTake(id, n))
	if !s.Raise || s.Limit != data+uint64(n) || !of(s, id).Raise {
		panic(fmt.Sprintf("%+v", s))
	}
	return s, id
}

func TestNextOfTheLimit(t *testing.T) {
	for _, server := range both {
		for _, x := range []struct {
			data uint64
			size int
		}{{10, 2}, {40, 2}, {42, 3}, {100, 3}, {10900, 3}, {10922, 5}, {20000, 5}} {
			s, id := raised(server, x.data)
			f := most(frame.MaxData, s.Limit)
			if size(f) != x.size {
				t.Fatalf("%+v: %d", f, size(f))
			}
			want := s
			want.Raise = false
			for _, most := range []int{x.size, x.size + 1, 100, 1500, math.MaxInt} {
				check(t, "it fits", s, doNext(most), want, answer{f: f, ok: true})
			}
			for _, most := range []int{x.size - 1, 1, 0, -1, math.MinInt} {
				check(t, "it does not fit", s, doNext(most), s, answer{})
			}
			// What fits of a stream goes, and the limit stays to be told.
			if x.size > 3 {
				s = done(s, doStop(id, 5))
				want = turned(s, id, func(x *Stream) { x.StopTodo = false })
				want.Turn = id + 1
				check(t, "it does not fit, another one does", s, doNext(x.size-1), want, answer{f: stopOf(id, 5), ok: true})
				check(t, "it does not fit, another one does", s, doNext(3), want, answer{f: stopOf(id, 5), ok: true})
				check(t, "neither fits", s, doNext(2), s, answer{})
			}
		}
	}
}

// The limit of all goes first, whosever turn it is, and changes no turn.
func TestNextOfTheLimitGoesFirst(t *testing.T) {
	for _, server := range both {
		s, id := raised(server, 10)
		s = done(s, doWrite(id, "abc"))
		for _, turn := range []uint64{0, id, id + 1} {
			s := s
			s.Turn = turn
			want := s
			want.Raise = false
			now := check(t, "first", s, doNext(wide), want, answer{f: most(frame.MaxData, 16), ok: true})
			want = turned(now, id, func(x *Stream) { x.Raise = false })
			want.Turn = id + 1
			now = check(t, "second", now, doNext(wide), want, answer{f: limitOf(id, 16), ok: true})
			want = turned(now, id, func(x *Stream) { x.Out.Todo, x.Out.Top = nil, 3 })
			want.Sent = 3
			now = check(t, "third", now, doNext(wide), want, answer{f: part(id, 0, "abc"), ok: true})
			check(t, "none is left", now, doNext(wide), now, answer{})
		}
	}
}

// talkative tells a side that wrote data on its streams 0, 1, 2, 5, 9 and 10 (a server on 0, 1, 3, 4, 8 and 11), but on none on its stream 6 (or 7), and these numbers.
func talkative(server bool, data string) (State, []uint64) {
	s := done(flow.New(server, full(), full()), doOpen(false), doOpen(true), doOpen(true), doOpen(true))
	s = came(s, blockedOf(number(!server, false, 2), 0))
	l := []uint64{number(server, false, 0), number(server, true, 0), number(server, true, 2)}
	for order := range uint64(3) {
		l = append(l, number(!server, false, order))
	}
	slices.Sort(l)
	for _, id := range l {
		s = done(s, doWrite(id, data))
	}
	return s, l
}

func TestNextByTurn(t *testing.T) {
	for _, server := range both {
		s, l := talkative(server, "abc")
		for turn := range uint64(14) {
			s := s
			s.Turn = turn
			first := l[0]
			for _, id := range slices.Backward(l) {
				if id >= turn {
					first = id
				}
			}
			want := turned(s, first, func(x *Stream) { x.Out.Todo, x.Out.Top = nil, 3 })
			want.Turn, want.Sent = first+1, 3
			check(t, fmt.Sprint("Turn ", turn), s, doNext(wide), want, answer{f: part(first, 0, "abc"), ok: true})
		}
		s.Turn = 32
		if now, f, ok := flow.Next(s, wide); !ok || f.Id != l[0] || now.Turn != l[0]+1 {
			t.Errorf("above all: %+v", f)
		}
	}
}

// Written out once by hand.
func TestNextByTurnOfThree(t *testing.T) {
	s := done(flow.New(false, full(), full()), doOpen(false), doOpen(true), doOpen(false))
	s = done(s, doWrite(0, "aaa"), doWrite(2, "bbb"), doWrite(4, "ccc"))
	for turn, id := range []uint64{0, 2, 2, 4, 4, 0, 0} {
		s.Turn = uint64(turn)
		if now, f, ok := flow.Next(s, wide); !ok || f.Id != id || now.Turn != id+1 {
			t.Errorf("Turn %d: %+v, %d", turn, f, now.Turn)
		}
	}
}

// All streams come by turns, as long as they have something to send.
func TestNextGoesAround(t *testing.T) {
	for _, server := range both {
		s, l := talkative(server, "abc")
		for round := range 3 {
			for _, id := range l {
				head := size(part(id, uint64(round), "x"))
				now, f, ok := flow.Next(s, head)
				if !ok || !frame.Same(f, part(id, uint64(round), "abc"[round:round+1])) || now.Sent != s.Sent+1 || now.Turn != id+1 {
					t.Fatalf("%d of %d: %+v, %+v", round, id, f, now)
				}
				s = now
			}
		}
		check(t, "none is left", s, doNext(wide), s, answer{})
		// One that was passed by comes in its turn when it has something again.
		s = done(s, doWrite(l[4], "d"), doWrite(l[1], "d"))
		s.Turn = l[2]
		for _, id := range []uint64{l[4], l[1]} {
			now, f, ok := flow.Next(s, wide)
			if !ok || !frame.Same(f, part(id, 3, "d")) || now.Turn != id+1 {
				t.Fatalf("%d: %+v", id, f)
			}
			s = now
		}
	}
}

// Those that have nothing to send, or nothing that fits, are passed by.
func TestNextPassesBy(t *testing.T) {
	for _, server := range both {
		s, l := talkative(server, "")
		for _, id := range l {
			s := done(s, doWrite(id, "abc"))
			for _, turn := range []uint64{0, id - min(id, 1), id, id + 1, l[0] + 1, l[5] + 1} {
				s.Turn = turn
				want := turned(s, id, func(x *Stream) { x.Out.Todo, x.Out.Top = nil, 3 })
				want.Turn, want.Sent = id+1, 3
				check(t, "one alone", s, doNext(wide), want, answer{f: part(id, 0, "abc"), ok: true})
			}
		}
		s = done(s, doReset(l[0], mostNumber), doWrite(l[3], "abc"))
		want := turned(s, l[3], func(x *Stream) { x.Out.Todo, x.Out.Top = set(2, 2), 2 })
		want.Turn, want.Sent = l[3]+1, 2
		check(t, "the first one does not fit", s, doNext(5), want, answer{f: part(l[3], 0, "ab"), ok: true})
		want = turned(s, l[0], func(x *Stream) { x.Todo = false })
		want.Turn = l[0] + 1
		check(t, "the first one fits", s, doNext(11), want, answer{f: resetOf(l[0], 0, mostNumber), ok: true})
		check(t, "none fits", s, doNext(3), s, answer{})
	}
}

// All streams together send no more than Max.
func TestNextByTheCreditOfAll(t *testing.T) {
	for _, server := range both {
		for max := range uint64(13) {
			a, b, c := number(server, false, 0), number(server, false, 1), number(server, false, 2)
			s := done(flow.New(server, ours(), Limits{Data: max, Stream: 4, Bidi: 3}), doOpen(false), doOpen(false), doOpen(false))
			s = done(s, doWrite(a, "abcdef"), doWrite(b, "ghi"), doFinish(b), doWrite(c, "jklmno"))
			left := max
			for _, x := range []struct {
				id   uint64
				data string
			}{{a, "abcd"}, {b, "ghi"}, {c, "jklm"}} {
				n := min(uint64(len(x.data)), left)
				if n == 0 {
					check(t, fmt.Sprint("no credit of ", max), s, doNext(wide), s, answer{})
					break
				}
				f := part(x.id, 0, x.data[:n])
				f.Fin = x.id == b && n == 3
				want := turned(s, x.id, func(x *Stream) { x.Out = sendq.Sent(x.Out, 0, int(n), f.Fin) })
				want.Turn, want.Sent = x.id+1, s.Sent+n
				s = check(t, fmt.Sprint("of ", max), s, doNext(wide), want, answer{f: f, ok: true})
				left -= n
			}
			check(t, "none is left", s, doNext(wide), s, answer{})
			// A greater Max lets go on where the credit ended.
			if max < 11 {
				now, f, ok := flow.Next(came(s, most(frame.MaxData, max+1)), wide)
				if !ok || len(f.Data) != 1 || now.Sent != max+1 {
					t.Errorf("Max of %d and 1: %+v, %+v", max, f, now)
				}
			}
		}
	}
}

// What was sent once goes again without credit, and so do an end, a Reset, a Stop and a MaxStream.
func TestNextWithoutCredit(t *testing.T) {
	for _, server := range both {
		a, b := number(server, false, 0), number(server, false, 1)
		s := done(flow.New(server, Limits{Data: 100, Stream: 4}, Limits{Data: 5, Stream: 9, Bidi: 2}), doOpen(false), doOpen(false))
		s = went(done(s, doWrite(a, "abcde"), doWrite(b, "fgh")), 1)
		if s.Sent != 5 || s.Max != 5 {
			t.Fatalf("%+v", s)
		}
		check(t, "no credit", s, doNext(wide), s, answer{})
		lost := done(s, doLost(part(a, 1, "bcd")))
		want := turned(s, a, func(*Stream) {})
		want.Turn = a + 1
		check(t, "bytes again", lost, doNext(wide), want, answer{f: part(a, 1, "bcd"), ok: true})
		ended := done(s, doFinish(a))
		want = turned(ended, a, func(x *Stream) { x.Out.FinTodo = false })
		check(t, "an end", ended, doNext(wide), want, answer{f: last(a, 5, ""), ok: true})
		reset := done(s, doReset(b, 7))
		want = turned(reset, b, func(x *Stream) { x.Todo = false })
		want.Turn = b + 1
		check(t, "a Reset", reset, doNext(wide), want, answer{f: resetOf(b, 0, 7), ok: true})
		stop := done(s, doStop(b, 7))
		want = turned(stop, b, func(x *Stream) { x.StopTodo = false })
		want.Turn = b + 1
		check(t, "a Stop", stop, doNext(wide), want, answer{f: stopOf(b, 7), ok: true})
		read := done(came(s, part(b, 0, "abcd")), doTake(b, 3))
		want = turned(read, b, func(x *Stream) { x.Raise = false })
		want.Turn = b + 1
		check(t, "a limit", read, doNext(wide), want, answer{f: limitOf(b, 7), ok: true})
	}
}

// Bytes that were sent ahead count once, with those that follow.
func TestNextCountsOnce(t *testing.T) {
	for _, server := range both {
		id := number(server, true, 0)
		s := went(done(flow.New(server, ours(), Limits{Data: 5, Stream: 9, Uni: 1}), doOpen(true), doWrite(id, "abc")), 1)
		s = done(s, doWrite(id, "defgh"), doLost(part(id, 1, "bc")))
		want := turned(s, id, func(x *Stream) { x.Out.Todo, x.Out.Top = set(5, 7), 5 })
		want.Sent = 5
		s = check(t, "two again, two more", s, doNext(wide), want, answer{f: part(id, 1, "bcde"), ok: true})
		check(t, "no credit", s, doNext(wide), s, answer{})
	}
}

// P17.5

func TestLostAndAckedOfTheLimit(t *testing.T) {
	for _, server := range both {
		s, _ := raised(server, 10)
		toTell := s
		s.Raise = false
		for _, x := range []struct {
			name string
			s    State
		}{{"told", s}, {"to be told", toTell}} {
			for _, max := range []uint64{0, 10, 15, 17, 26, mostNumber} {
				check(t, x.name, x.s, doLost(most(frame.MaxData, max)), x.s, answer{})
			}
			check(t, x.name+", the last one", x.s, doLost(most(frame.MaxData, 16)), toTell, answer{})
			for _, max := range []uint64{0, 10, 15, 16, 17, 26, mostNumber} {
				check(t, x.name, x.s, doAcked(most(frame.MaxData, max)), x.s, answer{})
			}
			for _, kind := range []uint64{frame.MaxBidi, frame.MaxUni, frame.DataBlocked, frame.BidiBlocked, frame.UniBlocked} {
				check(t, x.name+", another kind", x.s, doLost(most(kind, 16)), x.s, answer{})
				check(t, x.name+", another kind", x.s, doAcked(most(kind, 16)), x.s, answer{})
			}
		}
		first := flow.New(server, ours(), peers())
		want := first
		want.Raise = true
		check(t, "none was told", first, doLost(most(frame.MaxData, 1000)), want, answer{})
	}
}

func TestLostAndAckedOfNoStream(t *testing.T) {
	for _, server := range both {
		for _, s := range []State{flow.New(server, full(), full()), four(server), midst(server)} {
			for _, id := range []uint64{32, 33, 34, 35, 100, mostNumber} {
				toReader, toWriter := framesOf(id)
				for _, f := range slices.Concat(toReader, toWriter) {
					check(t, "no such stream", s, doLost(f), s, answer{})
					check(t, "no such stream", s, doAcked(f), s, answer{})
				}
			}
		}
		// Neither makes any.
		s := done(flow.New(server, full(), full()), doOpen(false))
		for _, id := range []uint64{number(server, false, 1), number(!server, false, 0), number(!server, true, 0), number(server, true, 0)} {
			toReader, toWriter := framesOf(id)
			for _, f := range slices.Concat(toReader, toWriter) {
				check(t, "one that may be", s, doLost(f), s, answer{})
				check(t, "one that may be", s, doAcked(f), s, answer{})
			}
		}
	}
}

func TestLostAndAckedOfOthers(t *testing.T) {
	for _, server := range both {
		for _, s := range []State{flow.New(server, full(), full()), four(server), midst(server)} {
			l := append(others(), most(frame.MaxBidi, 8), most(frame.MaxUni, 8))
			for _, id := range numbers(s) {
				l = append(l, blockedOf(id, 0), blockedOf(id, 9))
			}
			for _, f := range l {
				check(t, "others", s, doLost(f), s, answer{})
				check(t, "others", s, doAcked(f), s, answer{})
			}
		}
	}
}

// A stream is told of its frames, and no other one.
func TestLostAndAckedOfAStream(t *testing.T) {
	for _, server := range both {
		s, l := talkative(server, "abcdef")
		for _, id := range l {
			sent := turned(s, id, func(x *Stream) { x.Out.Todo, x.Out.Top = nil, 6 })
			sent.Sent = 6
			again := turned(sent, id, func(x *Stream) { x.Out.Todo = set(2, 4) })
			check(t, "bytes", sent, doLost(part(id, 2, "cde")), again, answer{})
			came := turned(sent, id, func(x *Stream) { x.Out.Acked = set(2, 4) })
			check(t, "bytes", sent, doAcked(part(id, 2, "cde")), came, answer{})
			check(t, "bytes, again", again, doAcked(part(id, 2, "cde")), came, answer{})
			gone := turned(sent, id, func(x *Stream) { x.Out.Base, x.Out.Data = 6, "" })
			check(t, "all bytes", sent, doAcked(part(id, 0, "abcdef")), gone, answer{})
			// A Reset, a Stop and a MaxStream.
			reset := turned(s, id, func(x *Stream) { x.Reset, x.Code = true, 7 })
			todo := turned(reset, id, func(x *Stream) { x.Todo = true })
			over := turned(reset, id, func(x *Stream) { x.Gone = true })
			check(t, "a Reset", reset, doLost(resetOf(id, 0, 7)), todo, answer{})
			check(t, "a Reset", todo, doAcked(resetOf(id, 0, 7)), over, answer{})
			check(t, "a Reset", reset, doAcked(resetOf(id, 0, 7)), over, answer{})
			check(t, "a Reset that came", over, doLost(resetOf(id, 0, 7)), over, answer{})
			if id%4 == number(server, true, 0) {
				continue
			}
			stopped := turned(s, id, func(x *Stream) { x.Stop, x.StopCode = true, 7 })
			check(t, "a Stop", stopped, doLost(stopOf(id, 7)), turned(stopped, id, func(x *Stream) { x.StopTodo = true }), answer{})
			check(t, "a Stop", stopped, doAcked(stopOf(id, 7)), stopped, answer{})
			window := of(s, id).Limit
			check(t, "a MaxStream", s, doLost(limitOf(id, window)), turned(s, id, func(x *Stream) { x.Raise = true }), answer{})
			check(t, "a MaxStream", s, doLost(limitOf(id, window+1)), s, answer{})
			check(t, "a MaxStream", s, doAcked(limitOf(id, window)), s, answer{})
		}
	}
}

// What is lost goes again, until it is acknowledged, and all of it is done then.
func TestLostUntilItIsAcked(t *testing.T) {
	for _, server := range both {
		for _, uni := range both {
			id := number(server, uni, 0)
			s := done(flow.New(server, ours(), peers()), doOpen(uni), doWrite(id, "abc"), doFinish(id))
			f := last(id, 0, "abc")
			for range 3 {
				now, got, ok := flow.Next(s, wide)
				if !ok || !frame.Same(got, f) || now.Sent != 3 {
					t.Fatalf("%+v, %+v", got, now)
				}
				check(t, "none is left", now, doNext(wide), now, answer{})
				s = flow.Lost(now, f)
			}
			s = flow.Acked(s, f)
			if !sendq.Done(of(s, id).Out) || s.Sent != 3 {
				t.Errorf("%+v", s)
			}
			check(t, "none is left", s, doNext(wide), s, answer{})
		}
	}
}

// A second reckoning

// book has what a state has, in its own way.
type book struct {
	server                              bool
	own, peer                           Limits
	max, sent, limit, got, read, nextId uint64
	raise                               bool
	mayOpen, opened                     map[bool]uint64 // of those that are uni, and of others
	streams                             map[uint64]Stream
}

func newBook(server bool, own, peer Limits) *book {
	return &book{
		server: server, own: own, peer: peer, max: peer.Data, limit: own.Data,
		mayOpen: map[bool]uint64{false: peer.Bidi, true: peer.Uni}, opened: map[bool]uint64{}, streams: map[uint64]Stream{},
	}
}

func (b *book) copied() *book {
	out := *b
	out.mayOpen, out.opened, out.streams = maps.Clone(b.mayOpen), maps.Clone(b.opened), maps.Clone(b.streams)
	return &out
}

// speaks tells whether a side sends on a stream.
func speaks(server bool, id uint64) bool {
	switch id % 4 {
	case 2:
		return !server
	case 3:
		return server
	}
	return true
}

// opens tells whether a side opens a stream.
func opens(server bool, id uint64) bool {
	return id%2 == 1 == server
}

// blank tells a stream that is made.
func (b *book) blank(id uint64) Stream {
	x := Stream{}
	if speaks(b.server, id) {
		x.Credit = b.peer.Stream
	}
	if speaks(!b.server, id) {
		x.Window, x.Limit = b.own.Stream, b.own.Stream
	}
	return x
}

func (b *book) openOne(uni bool) answer {
	if b.opened[uni] == b.mayOpen[uni] {
		return answer{e: 172}
	}
	id := number(b.server, uni, b.opened[uni])
	b.opened[uni]++
	b.streams[id] = b.blank(id)
	return answer{id: id}
}

// refuses tells the error of a call of a stream that has to be there, and on which a side has to send.
func (b *book) refuses(id uint64, sender bool) api.Errno {
	if _, ok := b.streams[id]; !ok {
		return 3
	}
	if !speaks(sender, id) {
		return 160
	}
	return 0
}

func (b *book) write(id uint64, data string) answer {
	x := b.streams[id]
	if e := b.refuses(id, b.server); e != 0 {
		return answer{e: e}
	}
	if x.Reset || x.Out.Fin {
		return answer{e: 160}
	}
	n := min(len(data), 4096-len(x.Out.Data))
	x.Out, _ = sendq.Write(x.Out, data[:n], 1<<20)
	b.streams[id] = x
	return answer{n: n}
}

func (b *book) finish(id uint64) answer {
	x := b.streams[id]
	if e := b.refuses(id, b.server); e != 0 {
		return answer{e: e}
	}
	if x.Reset {
		return answer{e: 160}
	}
	x.Out = sendq.Finish(x.Out)
	b.streams[id] = x
	return answer{}
}

func (b *book) reset(id, code uint64) answer {
	if e := b.refuses(id, b.server); e != 0 {
		return answer{e: e}
	}
	b.streams[id] = stream.Give(b.streams[id], code)
	return answer{}
}

func (b *book) stop(id, code uint64) answer {
	if e := b.refuses(id, !b.server); e != 0 {
		return answer{e: e}
	}
	b.streams[id] = stream.Ask(b.streams[id], code)
	return answer{}
}

func (b *book) take(id uint64, n int) answer {
	if e := b.refuses(id, !b.server); e != 0 {
		return answer{e: e}
	}
	x := b.streams[id]
	if x.Broken {
		return answer{all: true, e: 160}
	}
	var out answer
	b.streams[id], out.data, out.all, _ = stream.Read(x, n)
	b.read += uint64(len(out.data))
	if left := b.limit - b.read; left < (b.own.Data-b.own.Data%2)/2 {
		b.limit += b.own.Data - left
		b.raise = true
	}
	return out
}

func (b *book) on(f Frame) api.Errno {
	switch f.Kind {
	case 0x10:
		b.max = max(b.max, min(f.Max, 1<<32))
	case 0x12, 0x13:
		uni := f.Kind == 0x13
		b.mayOpen[uni] = max(b.mayOpen[uni], min(f.Max, 8))
	case 0x04, 0x08, 0x15:
		return b.onStream(f, !b.server)
	case 0x05, 0x11:
		return b.onStream(f, b.server)
	}
	return 0
}

// onStream goes by a frame of a stream on which sender has to send.
func (b *book) onStream(f Frame, sender bool) api.Errno {
	granted := b.own.Bidi
	if f.Id%4 > 1 {
		granted = b.own.Uni
	}
	_, there := b.streams[f.Id]
	switch own := opens(b.server, f.Id); {
	case !speaks(sender, f.Id), own && !there:
		return 160
	case !own && f.Id/4 >= granted:
		return 171
	}
	x := b.blank(f.Id)
	if there {
		x = b.streams[f.Id]
	}
	n, e := uint64(0), api.OK
	switch f.Kind {
	case 0x08:
		x, n, e = stream.Data(x, f)
	case 0x04:
		x, n, e = stream.Break(x, f)
	case 0x05:
		x = stream.Give(x, f.Code)
	case 0x11:
		x.Credit = max(x.Credit, min(f.Max, 1<<32))
	}
	if e != 0 {
		return e
	}
	if b.got+n > b.limit {
		return 170
	}
	b.got += n
	b.streams[f.Id] = x
	for id := f.Id % 4; id < f.Id; id += 4 {
		if _, ok := b.streams[id]; !ok {
			b.streams[id] = b.blank(id)
		}
	}
	return 0
}

// ids tells the numbers of the streams as they come by turns.
func (b *book) ids() []uint64 {
	all := slices.Sorted(maps.Keys(b.streams))
	var out, behind []uint64
	for _, id := range all {
		if id < b.nextId {
			behind = append(behind, id)
		} else {
			out = append(out, id)
		}
	}
	return append(out, behind...)
}

func (b *book) next(most int) answer {
	f := Frame{Kind: 0x10, Max: b.limit}
	if b.raise && size(f) <= most {
		b.raise = false
		return answer{f: f, ok: true}
	}
	for _, id := range b.ids() {
		x, f, n, ok := stream.Next(b.streams[id], id, most, b.max-b.sent)
		if ok {
			b.streams[id], b.nextId = x, id+1
			b.sent += n
			return answer{f: f, ok: true}
		}
	}
	return answer{}
}

func (b *book) lost(f Frame) {
	x, ok := b.streams[f.Id]
	switch f.Kind {
	case 0x10:
		b.raise = b.raise || f.Max == b.limit
	case 0x04, 0x05, 0x08, 0x11:
		if ok {
			b.streams[f.Id] = stream.Lost(x, f)
		}
	}
}

func (b *book) acked(f Frame) {
	x, ok := b.streams[f.Id]
	switch f.Kind {
	case 0x04, 0x05, 0x08, 0x11:
		if ok {
			b.streams[f.Id] = stream.Acked(x, f)
		}
	}
}

// state tells the state that the book has.
func (b *book) state() State {
	s := State{
		Server: b.server, Own: b.own, Peer: b.peer, Max: b.max, Sent: b.sent, Limit: b.limit, Got: b.got, Read: b.read, Raise: b.raise, Turn: b.nextId,
		MaxOpen: [2]uint64{b.mayOpen[false], b.mayOpen[true]}, Opened: [2]uint64{b.opened[false], b.opened[true]},
	}
	for _, id := range slices.Sorted(maps.Keys(b.streams)) {
		s.L = append(s.L, Item{Id: id, S: b.streams[id]})
	}
	return s
}

// beyond tells what of s is beyond a credit or a grant.
func beyond(s State) string {
	var went, came uint64
	var own, theirs [2]uint64
	for _, x := range s.L {
		went += x.S.Out.Top
		came += gather.Highest(x.S.In)
		way := x.Id % 4 / 2
		if opens(s.Server, x.Id) {
			own[way]++
		} else {
			theirs[way]++
		}
		switch {
		case x.S.Out.Top > x.S.Credit || x.S.Out.Top > 0 && !speaks(s.Server, x.Id):
			return fmt.Sprintf("stream %d went too far", x.Id)
		case gather.Highest(x.S.In) > x.S.Limit || gather.Highest(x.S.In) > 0 && !speaks(!s.Server, x.Id):
			return fmt.Sprintf("stream %d came too far", x.Id)
		}
	}
	switch {
	case s.Sent > s.Max || s.Sent != went:
		return fmt.Sprintf("%d bytes went, of %d", went, s.Max)
	case s.Got > s.Limit || s.Got != came || s.Read > s.Got || s.Limit > s.Read+s.Own.Data:
		return fmt.Sprintf("%d bytes came, of %d", came, s.Limit)
	case own != s.Opened || own[0] > s.MaxOpen[0] || own[1] > s.MaxOpen[1]:
		return fmt.Sprintf("%v were opened", own)
	case theirs[0] > s.Own.Bidi || theirs[1] > s.Own.Uni:
		return fmt.Sprintf("%v were made", theirs)
	}
	return ""
}

// try makes a call, also in the book, and tells what it answers, and a fault.
func (d deed) try(s State, b *book) (State, answer, string) {
	before := copied(s)
	out, told := d.do(s)
	want := d.reckon(b)
	fault := beyond(out)
	switch {
	case !reflect.DeepEqual(told, want):
		fault = fmt.Sprintf("%+v, not %+v", told, want)
	case !same(out, b.state()):
		fault = fmt.Sprintf("%+v, not\n%+v", out, b.state())
	case told.e != api.OK && !same(out, before):
		fault = fmt.Sprintf("with error %d: %+v", told.e, out)
	case !same(s, before):
		fault = fmt.Sprintf("what was handed in is %+v", s)
	}
	if fault != "" {
		fault = fmt.Sprintf("%s: of %+v:\n%s", d.name, before, fault)
	}
	return out, told, fault
}

// dice tells numbers by a fixed rule; each seed has its own.
type dice struct{ x uint64 }

func newDice(seed uint64) *dice { return &dice{seed*0x9e3779b97f4a7c15 + 1} }

// below tells a number below n.
func (d *dice) below(n int) int {
	d.x = d.x*6364136223846793005 + 1442695040888963407
	return int(d.x >> 33 % uint64(n))
}

// text tells n bytes of any value.
func (d *dice) text(n int) string {
	out := make([]byte, n)
	for i := range out {
		out[i] = byte(d.below(256))
	}
	return string(out)
}

// place tells a place near to from.
func (d *dice) place(from uint64, long int) uint64 {
	return max(from+uint64(d.below(3*long)), uint64(long)) - uint64(long)
}

// play is a side with what it sent.
type play struct {
	d    *dice
	s    State
	b    *book
	sent []Frame
	long int
}

// limits tells some of a few streams, and of bytes that are used up soon.
func (p *play) limits() Limits {
	d := p.d
	return Limits{Data: uint64(d.below(12 * p.long)), Stream: uint64(d.below(8 * p.long)), Bidi: uint64(d.below(5)), Uni: uint64(d.below(4))}
}

// id tells the number of a stream, mostly of one that is there.
func (p *play) id() uint64 {
	if l := numbers(p.s); len(l) > 0 && p.d.below(8) > 0 {
		return l[p.d.below(len(l))]
	}
	if p.d.below(9) == 0 {
		return []uint64{31, 32, 36, mostNumber - 3, mostNumber}[p.d.below(5)]
	}
	return uint64(p.d.below(22))
}

// in tells what came of a stream.
func (p *play) in(id uint64) gather.State {
	if slices.Contains(numbers(p.s), id) {
		return of(p.s, id).In
	}
	return gather.State{}
}

// frame tells any frame of a stream, or of all.
func (p *play) frame() Frame {
	d, id := p.d, p.id()
	switch d.below(20) {
	case 0:
		return resetOf(id, d.place(gather.Highest(p.in(id)), p.long), uint64(d.below(1000)))
	case 1:
		return stopOf(id, uint64(d.below(1000)))
	case 2, 3:
		return limitOf(id, []uint64{uint64(d.below(9 * p.long)), mostCredit - 1, mostCredit, mostCredit + 1, mostNumber}[max(d.below(30), 25)-25])
	case 4:
		return blockedOf(id, uint64(d.below(99)))
	case 5, 6:
		return most(frame.MaxData, []uint64{p.s.Max + uint64(d.below(4*p.long)), uint64(d.below(30 * p.long)), mostCredit, mostCredit + 1, mostNumber}[max(d.below(30), 25)-25])
	case 7:
		return most(frame.MaxBidi, uint64(d.below(11)))
	case 8:
		return most(frame.MaxUni, uint64(d.below(11)))
	case 9:
		l := others()
		return l[d.below(len(l))]
	}
	f := part(id, d.place(p.in(id).Read, p.long), d.text(d.below(p.long+1)))
	f.Fin = d.below(30) == 0
	return f
}

// answered tells what became of a frame, mostly of one that was sent.
func (p *play) answered() deed {
	d, f := p.d, p.frame()
	if len(p.sent) > 0 && d.below(12) > 0 {
		f = p.sent[d.below(len(p.sent))]
	} else if d.below(3) == 0 {
		f = most(frame.MaxData, p.s.Limit-uint64(d.below(2)))
	} else if f.Kind == frame.Stream {
		// Bytes that never went are not acknowledged.
		return doLost(f)
	}
	if d.below(2) == 0 {
		return doLost(f)
	}
	return doAcked(f)
}

// deed tells any call.
func (p *play) deed() deed {
	d := p.d
	switch d.below(24) {
	case 0:
		return doOpen(d.below(2) == 0)
	case 1, 2, 3:
		return doWrite(p.id(), d.text(d.below(2*p.long+1)))
	case 4:
		if d.below(3) == 0 {
			return doReset(p.id(), uint64(d.below(1000)))
		}
		return doFinish(p.id())
	case 5:
		if d.below(3) > 0 {
			return doTake(p.id(), d.below(3)-1)
		}
		return doStop(p.id(), uint64(d.below(1000)))
	case 6, 7, 8, 9:
		return doTake(p.id(), d.below(p.long+2))
	case 10, 11, 12, 13, 14:
		return doNext([]int{d.below(p.long + 12), 5000}[min(d.below(3), 1)])
	case 15, 16, 17:
		return p.answered()
	}
	return doOn(p.frame())
}

// tell counts which things came about.
func (p *play) tell(count map[string]int, told answer) {
	s := p.s
	for name, is := range map[string]bool{
		fmt.Sprint("error ", int(told.e)): told.e != api.OK, fmt.Sprint("frame ", told.f.Kind): told.ok,
		"raised": s.Limit > s.Own.Data, "used up": s.Max > 0 && s.Sent == s.Max, "full": s.Limit > 0 && s.Got == s.Limit,
		"many": len(s.L) > 8, "granted": s.MaxOpen[0] > s.Peer.Bidi && s.MaxOpen[1] > s.Peer.Uni, "8 granted": s.MaxOpen[0] == 8, "end": told.all && told.e == api.OK,
	} {
		if is {
			count[name]++
		}
	}
}

// Strewn calls, of few bytes and of many.
func TestPlaysByASecondReckoning(t *testing.T) {
	count := map[string]int{}
	for _, long := range []int{1, 2, 4, 9, 30, 200} {
		for seed := range uint64(100) {
			p := &play{d: newDice(seed), long: long}
			server, own, peer := seed%2 == 0, p.limits(), p.limits()
			p.s, p.b = flow.New(server, own, peer), newBook(server, own, peer)
			for range 150 {
				var told answer
				var fault string
				if p.s, told, fault = p.deed().try(p.s, p.b); fault != "" {
					t.Fatalf("%d bytes, seed %d: %s", long, seed, fault)
				}
				if told.ok {
					p.sent = append(p.sent, told.f)
				}
				p.tell(count, told)
			}
		}
	}
	for _, name := range []string{
		"error 3", "error 140", "error 160", "error 170", "error 171", "error 172", "frame 4", "frame 5", "frame 8", "frame 16", "frame 17",
		"raised", "used up", "full", "many", "granted", "8 granted", "end",
	} {
		if count[name] < 50 {
			t.Errorf("%d of %s: %v", count[name], name, count)
		}
	}
}

// smallDeeds are calls of two bytes at most, of the first two streams of each kind.
func smallDeeds() []deed {
	out := []deed{doOpen(false), doOpen(true), doNext(1), doNext(2), doNext(3), doNext(4), doNext(wide)}
	for id := range uint64(6) {
		out = append(out, doWrite(id, "ab"), doFinish(id), doReset(id, 7), doStop(id, 8), doTake(id, 1), doTake(id, 9),
			doOn(part(id, 0, "a")), doOn(part(id, 1, "b")), doOn(last(id, 0, "a")), doOn(last(id, 2, "")), doOn(resetOf(id, 1, 5)), doOn(resetOf(id, 2, 6)),
			doOn(stopOf(id, 4)), doOn(limitOf(id, 3)), doOn(blockedOf(id, 3)),
			doLost(part(id, 0, "a")), doLost(last(id, 0, "ab")), doLost(resetOf(id, 0, 7)), doLost(stopOf(id, 8)), doLost(limitOf(id, 2)), doLost(limitOf(id, 3)),
			doAcked(resetOf(id, 0, 7)), doAcked(stopOf(id, 8)), doAcked(limitOf(id, 2)), doLost(blockedOf(id, 3)), doAcked(blockedOf(id, 3)))
	}
	for _, max := range []uint64{2, 3, 4} {
		out = append(out, doOn(most(frame.MaxData, max)), doLost(most(frame.MaxData, max)), doAcked(most(frame.MaxData, max)))
	}
	return append(out, doOn(most(frame.MaxBidi, 2)), doOn(most(frame.MaxUni, 2)), doOn(most(frame.MaxBidi, 1)), doOn(Frame{Kind: frame.Ping}))
}

// position is a state, and what the book has of it.
type position struct {
	s State
	b *book
}

// grown tells a small side behind these calls.
func grown(t *testing.T, server bool, own Limits, l ...deed) position {
	peer := Limits{Data: 3, Stream: 2, Bidi: 1, Uni: 1}
	p := position{flow.New(server, own, peer), newBook(server, own, peer)}
	for _, d := range l {
		var fault string
		if p.s, _, fault = d.try(p.s, p.b); fault != "" {
			t.Fatal(fault)
		}
	}
	return p
}

// All small states that a few calls lead to, and all answers of one call more.
func TestSmallStatesByASecondReckoning(t *testing.T) {
	deeds, seen := smallDeeds(), map[string]bool{}
	grow := func(l []position, last bool) []position {
		var behind []position
		for _, p := range l {
			for _, d := range deeds {
				b := p.b.copied()
				out, _, fault := d.try(p.s, b)
				if fault != "" {
					t.Fatal(fault)
				}
				if last {
					continue
				}
				if name := fmt.Sprint(out); !seen[name] {
					seen[name] = true
					behind = append(behind, position{out, b})
				}
			}
		}
		return behind
	}
	var now []position
	for _, server := range both {
		now = append(now, grown(t, server, Limits{Data: 2, Stream: 2, Bidi: 2, Uni: 1}))
	}
	now = grow(now, false)
	for _, server := range both {
		// One more that has some streams already, and bytes on these.
		now = append(now, grown(t, server, Limits{Data: 3, Stream: 1, Bidi: 1, Uni: 2},
			doOpen(false), doOpen(true), doOn(blockedOf(number(!server, false, 0), 0)), doOn(part(number(!server, true, 0), 0, "a")),
			doWrite(number(server, false, 0), "ab"), doWrite(number(server, true, 0), "ab"), doNext(wide)))
	}
	grow(grow(now, false), true)
	if len(seen) < 900 {
		t.Errorf("%d states", len(seen))
	}
}

// P17.6

// side is one end: its state, what it wrote on each stream, what it read there, and whether that was all.
type side struct {
	s           State
	wrote, read map[uint64]string
	goal        map[uint64]int // how many bytes it will write on a stream
	ended, lost map[uint64]bool
	way, old    []Frame
}

// pair is the two ends of a connection.
type pair struct {
	t    *testing.T
	d    *dice
	ends [2]*side
}

func newPair(t *testing.T, d *dice, long int) *pair {
	var l [2]Limits
	for i := range l {
		l[i] = Limits{Data: uint64(2 + d.below(6*long)), Stream: uint64(2 + d.below(3*long)), Bidi: uint64(d.below(4)), Uni: uint64(d.below(4))}
	}
	p := &pair{t: t, d: d}
	for i := range p.ends {
		p.ends[i] = &side{s: flow.New(i == 1, l[i], l[1-i]), wrote: map[uint64]string{}, read: map[uint64]string{}, goal: map[uint64]int{}, ended: map[uint64]bool{}, lost: map[uint64]bool{}}
	}
	return p
}

// any tells one of the streams of x on which that side sends.
func (p *pair) any(x *side, server bool) (uint64, bool) {
	l := numbers(x.s)
	l = slices.DeleteFunc(l, func(id uint64) bool { return !speaks(server, id) })
	if len(l) == 0 {
		return 0, false
	}
	return l[p.d.below(len(l))], true
}

// write writes some of what is left on a stream; behind the last byte it finishes.
func (p *pair) write(x *side) {
	id, ok := p.any(x, x.s.Server)
	if !ok || of(x.s, id).Reset || of(x.s, id).Out.Fin {
		return
	}
	if _, ok := x.goal[id]; !ok {
		x.goal[id] = p.d.below(100)
	}
	left := x.goal[id] - len(x.wrote[id])
	if left == 0 {
		x.s = done(x.s, doFinish(id))
		return
	}
	data := p.d.text(min(left, p.d.below(50)))
	s, n, e := flow.Write(x.s, id, data)
	if n != len(data) || e != api.OK {
		p.t.Fatalf("Write: %d, %d", n, e)
	}
	x.s = s
	x.wrote[id] += data
}

// hold tells where an end is beyond a credit or a grant.
func (p *pair) hold(x, y *side) {
	for _, s := range []State{x.s, y.s} {
		if fault := beyond(s); fault != "" {
			p.t.Fatalf("%s: %+v", fault, s)
		}
	}
	// Neither sends more than the other one takes.
	if x.s.Max > y.s.Limit || y.s.Max > x.s.Limit || y.s.Got > x.s.Sent || x.s.Got > y.s.Sent {
		p.t.Fatalf("%+v\n%+v", x.s, y.s)
	}
}

// send sends what Next tells.
func (p *pair) send(x *side, most int) {
	now, f, ok := flow.Next(x.s, most)
	if !ok {
		return
	}
	end := int(f.Off) + len(f.Data)
	if size(f) > most || f.Kind == frame.Stream && (f.Data != x.wrote[f.Id][f.Off:end] || f.Fin && end != x.goal[f.Id]) {
		p.t.Fatalf("%+v, of %+v", f, x.s)
	}
	x.s, x.way = now, append(x.way, f)
}

// settle tells that one frame of x came to y, or is lost, or both. Nobody who keeps to his credit is refused.
func (p *pair) settle(x, y *side) {
	if len(x.way) == 0 {
		return
	}
	i := p.d.below(len(x.way))
	f := x.way[i]
	x.way, x.old = slices.Delete(x.way, i, i+1), append(x.old, f)
	came := p.d.below(3) > 0
	if came {
		y.s = done(y.s, doOn(f))
	}
	if !came || p.d.below(5) == 0 {
		x.s = flow.Lost(x.s, f)
		return
	}
	x.s = flow.Acked(x.s, f)
}

// take reads some, which has to be what the other end wrote.
func (p *pair) take(x, y *side) {
	id, ok := p.any(x, !x.s.Server)
	if !ok {
		return
	}
	s, data, all, e := flow.Take(x.s, id, p.d.below(40)-1)
	if e != api.OK {
		if e != api.ErrState || !all || data != "" || !of(x.s, id).Broken {
			p.t.Fatalf("stream %d: %q, %v, %d", id, data, all, e)
		}
		x.lost[id] = true
		return
	}
	x.s = s
	x.read[id] += data
	if !strings.HasPrefix(y.wrote[id], x.read[id]) || all && (len(x.read[id]) != y.goal[id] || !of(y.s, id).Out.Fin) {
		p.t.Fatalf("stream %d: %q, %v, of %q", id, x.read[id], all, y.wrote[id])
	}
	x.ended[id] = all
}

// step does anything at one of the ends.
func (p *pair) step(round int) {
	x, y := p.ends[round%2], p.ends[(round+1)%2]
	switch p.d.below(12) {
	case 0:
		uni := p.d.below(2) == 0
		if now, _, e := flow.Open(x.s, uni); e == api.OK {
			x.s = now
		}
	case 1, 2:
		p.write(x)
	case 3, 4, 5:
		p.send(x, 3+p.d.below(60))
	case 6, 7, 8:
		p.settle(x, y)
	case 9, 10:
		p.take(x, y)
	case 11:
		// One that was told already comes once more.
		if len(x.old) > 0 && p.d.below(5) == 0 {
			y.s = done(y.s, doOn(x.old[p.d.below(len(x.old))]))
		}
	}
	p.hold(x, y)
}

// over tells whether all streams that x may open are there, and all that was written on those of y was read or given up.
func (p *pair) over(x, y *side) bool {
	if x.s.Opened != x.s.MaxOpen {
		return false
	}
	for _, item := range x.s.L {
		id, out := item.Id, item.S.Out
		if !speaks(x.s.Server, id) {
			continue
		}
		if !item.S.Gone && !sendq.Done(out) || !y.ended[id] && !y.lost[id] {
			return false
		}
	}
	return true
}

// Whatever is lost, doubled, or late, all comes, within the credit and the limit of both.
func TestBothWays(t *testing.T) {
	raised, streams := 0, 0
	for seed := range uint64(60) {
		p := newPair(t, newDice(seed), 40)
		a, b := p.ends[0], p.ends[1]
		for round := 0; !p.over(a, b) || !p.over(b, a); round++ {
			if round > 300000 {
				t.Fatalf("seed %d: %+v\n%+v", seed, a.s, b.s)
			}
			p.step(round)
		}
		for i, x := range p.ends {
			y := p.ends[1-i]
			if len(y.lost) > 0 {
				t.Fatalf("seed %d: %v", seed, y.lost)
			}
			for id := range x.goal {
				if x.wrote[id] != y.read[id] || len(y.read[id]) != x.goal[id] || !y.ended[id] {
					t.Fatalf("seed %d, stream %d: %q, not %q", seed, id, y.read[id], x.wrote[id])
				}
				streams++
			}
			if x.s.Read != x.s.Got || x.s.Got != y.s.Sent {
				t.Fatalf("seed %d: %+v\n%+v", seed, x.s, y.s)
			}
			if x.s.Limit > x.s.Own.Data {
				raised++
			}
		}
	}
	if raised < 60 || streams < 300 {
		t.Errorf("raised %d times, %d streams", raised, streams)
	}
}

// Where an end gives a stream up, or asks the other one to, nothing goes behind a credit either.
func TestBothWaysGivenUp(t *testing.T) {
	count := map[string]int{}
	for seed := range uint64(60) {
		d := newDice(seed)
		p := newPair(t, d, 40)
		for round := range 3000 {
			p.step(round)
			x := p.ends[d.below(2)]
			if round%100 != 99 {
				continue
			}
			if id, ok := p.any(x, x.s.Server); ok && d.below(2) == 0 {
				x.s = done(x.s, doReset(id, 11))
			} else if id, ok := p.any(x, !x.s.Server); ok {
				x.s = done(x.s, doStop(id, 12))
			}
		}
		for i, x := range p.ends {
			y := p.ends[1-i]
			for _, item := range x.s.L {
				s := item.S
				if s.Broken && (s.Why != 11 && s.Why != 12 || s.Why != of(y.s, item.Id).Code) {
					t.Fatalf("seed %d: %+v", seed, s)
				}
				for name, is := range map[string]bool{"given up": s.Code == 11, "stopped": s.Code == 12, "gone": s.Gone, "broken": s.Broken, "whole": s.In.Known && !s.Broken && s.In.Read == s.In.Final} {
					if is {
						count[name]++
					}
				}
			}
		}
	}
	for _, name := range []string{"given up", "stopped", "gone", "broken", "whole"} {
		if count[name] < 10 {
			t.Errorf("no %s: %v", name, count)
		}
	}
}

// Whoever keeps to no credit is taken in up to the limits, and no further.
func TestNothingIsTakenInBehindTheLimits(t *testing.T) {
	count := map[api.Errno]int{}
	for seed := range uint64(150) {
		p := &play{d: newDice(seed), long: 9}
		p.s = flow.New(seed%2 == 0, p.limits(), Limits{Data: 9, Stream: 9, Bidi: 2, Uni: 2})
		p.s = done(p.s, doOpen(false), doOpen(true))
		for range 200 {
			f := p.frame()
			if f.Kind == frame.MaxBidi || f.Kind == frame.MaxUni || f.Kind == frame.MaxData {
				continue
			}
			now, e := flow.On(p.s, f)
			count[e]++
			if fault := beyond(now); fault != "" {
				t.Fatalf("seed %d: %s: %+v", seed, fault, now)
			}
			if e != api.OK && !same(now, p.s) {
				t.Fatalf("seed %d: %d: %+v", seed, e, now)
			}
			p.s = now
			if id := p.id(); p.d.below(3) == 0 {
				p.s, _, _, _ = flow.Take(p.s, id, p.d.below(20))
			}
		}
	}
	for _, e := range []api.Errno{api.OK, api.ErrState, api.ErrStreams, api.ErrCredit, api.ErrFinal} {
		if count[e] < 500 {
			t.Errorf("%d of error %d", count[e], e)
		}
	}
}

// Rules

// midst tells a state that has some of all: bytes gone, acknowledged, on their way and to be sent; bytes read, ready, and behind gaps; and all kinds of frames to be sent.
func midst(server bool) State {
	own, uni, theirs, far := number(server, false, 0), number(server, true, 0), number(!server, false, 0), number(!server, true, 1)
	s := done(flow.New(server, Limits{Data: 12, Stream: 12, Bidi: 2, Uni: 2}, Limits{Data: 30, Stream: 12, Bidi: 2, Uni: 2}), doOpen(false), doOpen(true))
	s = went(done(s, doWrite(own, "0123456789"), doWrite(uni, "uvwxyz")), 2)
	s = done(s, doAcked(part(own, 0, "01")), doAcked(part(own, 4, "4")), doAcked(part(own, 7, "7")), doLost(part(own, 3, "3")), doLost(part(own, 6, "6")))
	s = done(s, doAcked(part(uni, 1, "v")), doAcked(part(uni, 3, "x")), doLost(part(uni, 4, "yz")), doWrite(own, "abcd"))
	s = came(s, part(theirs, 0, "abcdefgh"), part(theirs, 9, "j"), part(far, 1, "b"))
	s = done(s, doTake(theirs, 7), doStop(theirs, 8), doWrite(theirs, "hello"), doReset(theirs, 9), doFinish(uni), doStop(far, 3))
	return s
}

func TestMidst(t *testing.T) {
	want := State{
		Own: Limits{Data: 12, Stream: 12, Bidi: 2, Uni: 2}, Peer: Limits{Data: 30, Stream: 12, Bidi: 2, Uni: 2},
		Max: 30, Sent: 16, Limit: 19, Got: 12, Read: 7, Raise: true, MaxOpen: [2]uint64{2, 2}, Opened: [2]uint64{1, 1}, Turn: 3,
		L: []Item{
			{0, Stream{Out: sendq.State{Base: 2, Top: 10, Data: "23456789abcd", Acked: set(4, 4, 7, 7), Todo: set(3, 3, 6, 6, 10, 13)}, Credit: 12, Window: 12, Limit: 12}},
			{1, Stream{Out: sendq.State{Data: "hello", Todo: set(0, 4)}, Credit: 12, Code: 9, Reset: true, Todo: true,
				In: gather.State{Read: 7, L: []gather.Part{{Off: 7, Data: "h"}, {Off: 9, Data: "j"}}}, Window: 12, Limit: 19, Raise: true, Stop: true, StopTodo: true, StopCode: 8}},
			{2, Stream{Out: sendq.State{Top: 6, Data: "uvwxyz", Acked: set(1, 1, 3, 3), Todo: set(4, 5), Fin: true, FinTodo: true}, Credit: 12}},
			{3, Stream{Window: 12, Limit: 12}},
			{7, Stream{In: gather.State{L: []gather.Part{{Off: 1, Data: "b"}}}, Window: 12, Limit: 12, Stop: true, StopTodo: true, StopCode: 3}},
		},
	}
	checkState(t, "some of all", midst(false), want)
}

// some are states that have some of all, and such of which lists are empty.
func some() map[string]State {
	out := map[string]State{}
	for name, server := range map[string]bool{"a client": false, "a server": true} {
		out[name+" without streams"] = flow.New(server, full(), full())
		out[name+" with four kinds"] = four(server)
		out[name] = midst(server)
		out[name+" that was told more"] = came(midst(server), most(frame.MaxData, 99), most(frame.MaxUni, 8), limitOf(number(server, false, 0), 50))
		out[name+" that opened all"] = done(midst(server), doOpen(false), doOpen(true))
		out[name+" that sent much"] = went(done(midst(server), doOn(last(number(!server, true, 1), 0, "ab"))), 5)
	}
	return out
}

// calls are some of each.
func calls() []deed {
	out := []deed{doOpen(false), doOpen(true)}
	var frames []Frame
	for _, id := range []uint64{0, 1, 2, 3, 4, 5, 6, 7, 8, 100} {
		out = append(out, doWrite(id, "abc"), doWrite(id, ""), doFinish(id), doReset(id, 7), doStop(id, 7), doTake(id, -1), doTake(id, 1), doTake(id, 99))
		frames = append(frames, part(id, 0, "abc"), part(id, 8, "i"), part(id, 4, "efg"), last(id, 10, ""), last(id, 3, "d"), part(id, 99, "x"),
			resetOf(id, 10, 7), resetOf(id, 0, 7), resetOf(id, 99, 7), stopOf(id, 7), limitOf(id, 12), limitOf(id, 19), limitOf(id, 99), blockedOf(id, 9))
	}
	frames = append(frames, others()...)
	for _, max := range []uint64{0, 2, 5, 19, 99} {
		frames = append(frames, most(frame.MaxData, max), most(frame.MaxBidi, max), most(frame.MaxUni, max))
	}
	for _, f := range frames {
		out = append(out, doOn(f), doLost(f), doAcked(f))
	}
	for _, most := range []int{-1, 1, 2, 3, 4, 5, 9, wide} {
		out = append(out, doNext(most))
	}
	return out
}

// roomy tells a state whose lists have room behind them.
func roomy(s State) State {
	s.L = append(make([]Item, 0, len(s.L)+9), s.L...)
	for i := range s.L {
		x := &s.L[i].S
		x.Out.Acked = append(make(Set, 0, len(x.Out.Acked)+9), x.Out.Acked...)
		x.Out.Todo = append(make(Set, 0, len(x.Out.Todo)+9), x.Out.Todo...)
		x.In.L = append(make([]gather.Part, 0, len(x.In.L)+9), x.In.L...)
	}
	return s
}

// whole tells all that is in the lists of s, also behind them.
func whole(s State) string {
	out := fmt.Sprint(s.L[:cap(s.L)])
	for _, x := range s.L {
		out += fmt.Sprint(x.S.Out.Acked[:cap(x.S.Out.Acked)], x.S.Out.Todo[:cap(x.S.Out.Todo)], x.S.In.L[:cap(x.S.In.L)])
	}
	return out
}

// scribble writes over all lists of s, also behind them.
func scribble(s State) {
	for _, x := range s.L {
		for _, l := range []Set{x.S.Out.Acked, x.S.Out.Todo} {
			l = l[:cap(l)]
			for i := range l {
				l[i] = ranges.Range{Lo: 77, Hi: 7777}
			}
		}
		l := x.S.In.L[:cap(x.S.In.L)]
		for i := range l {
			l[i] = gather.Part{Off: 77, Data: "scribble"}
		}
	}
	l := s.L[:cap(s.L)]
	for i := range l {
		l[i] = Item{Id: 7777}
	}
}

// R4
func TestWhatIsHandedInStays(t *testing.T) {
	deeds := calls()
	for which, first := range some() {
		for _, d := range deeds {
			name := d.name + ", of " + which
			s := roomy(first)
			before := whole(s)
			out, told := d.do(s)
			after := copied(out)
			checkState(t, name, s, first)
			if whole(s) != before {
				t.Errorf("%s: %s, not %s", name, whole(s), before)
			}
			// Writing over what was answered changes nothing.
			scribble(out)
			if whole(s) != before {
				t.Errorf("%s, written over: %s, not %s", name, whole(s), before)
			}
			// Nor does writing over what was handed in.
			again, toldAgain := d.do(s)
			checkState(t, name+", again", again, after)
			if !reflect.DeepEqual(told, toldAgain) {
				t.Errorf("%s: %+v, then %+v", name, told, toldAgain)
			}
			scribble(s)
			checkState(t, name+", of a state written over", again, after)
			if told.e != api.OK && (!same(after, first) || told.id != 0 || told.n != 0 || told.data != "" || told.all && !(told.e == api.ErrState && strings.HasPrefix(name, "Take"))) {
				t.Errorf("%s: %+v, with %+v", name, told, after)
			}
		}
	}
}

// No two lists of an answer share anything.
func TestListsOfAnAnswer(t *testing.T) {
	for which, first := range some() {
		for _, d := range calls() {
			out, _ := d.do(roomy(first))
			var sets []Set
			var parts [][]gather.Part
			for _, x := range out.L {
				sets = append(sets, x.S.Out.Acked[:cap(x.S.Out.Acked)], x.S.Out.Todo[:cap(x.S.Out.Todo)])
				parts = append(parts, x.S.In.L[:cap(x.S.In.L)])
			}
			for i, l := range sets {
				for j := range l {
					l[j] = ranges.Range{Lo: uint64(i), Hi: uint64(j)}
				}
			}
			for i, l := range parts {
				for j := range l {
					l[j] = gather.Part{Off: uint64(i), Data: fmt.Sprint(j)}
				}
			}
			for i, l := range sets {
				for j := range l {
					if l[j] != (ranges.Range{Lo: uint64(i), Hi: uint64(j)}) {
						t.Fatalf("%s, of %s: %v", d.name, which, sets)
					}
				}
			}
			for i, l := range parts {
				for j := range l {
					if l[j] != (gather.Part{Off: uint64(i), Data: fmt.Sprint(j)}) {
						t.Fatalf("%s, of %s: %v", d.name, which, parts)
					}
				}
			}
		}
	}
}

// Two that go on from one state do not meet.
func TestTwoOfOneState(t *testing.T) {
	for _, server := range both {
		s := roomy(midst(server))
		one, _, e := flow.Open(s, true)
		two := came(s, blockedOf(number(!server, false, 1), 0))
		three := flow.Acked(s, part(number(server, false, 0), 2, "2"))
		if e != api.OK || len(one.L) != 6 || len(two.L) != 6 || one.Opened[1] != 2 {
			t.Fatalf("%d: %+v", e, one)
		}
		if a, b := numbers(one), numbers(two); !slices.Contains(a, number(server, true, 1)) || slices.Contains(b, number(server, true, 1)) || !slices.Contains(b, number(!server, false, 1)) {
			t.Errorf("%v, %v", a, b)
		}
		checkState(t, "three", three, turned(midst(server), number(server, false, 0), func(x *Stream) { x.Out.Base, x.Out.Data = 3, "3456789abcd" }))
		checkState(t, "all are of", s, midst(server))
	}
}

// R6: lists without elements are like none.
func TestListsOfNone(t *testing.T) {
	for _, server := range both {
		none := []State{flow.New(server, full(), full()), four(server)}
		for _, s := range none {
			empty := copied(s)
			if empty.L == nil {
				empty.L = []Item{}
			}
			for i := range empty.L {
				x := &empty.L[i].S
				if len(x.Out.Acked) == 0 {
					x.Out.Acked = Set{}
				}
				if len(x.Out.Todo) == 0 {
					x.Out.Todo = Set{}
				}
				if len(x.In.L) == 0 {
					x.In.L = []gather.Part{}
				}
			}
			for _, d := range calls() {
				a, told := d.do(empty)
				b, want := d.do(bare(s))
				checkState(t, d.name, a, b)
				if !reflect.DeepEqual(told, want) {
					t.Errorf("%s: %+v, not %+v", d.name, told, want)
				}
			}
		}
	}
}

// R1
func TestAnyArgumentsEnd(t *testing.T) {
	ids := []uint64{0, 1, 2, 3, 4, 7, 31, mostCredit, mostNumber, 1 << 62, 1 << 63, highest - 4, highest}
	many := []int{math.MinInt, math.MinInt + 1, -1, 0, 1, 4096, 1 << 40, math.MaxInt}
	for which, s := range some() {
		for _, id := range ids {
			for _, code := range []uint64{0, mostNumber} {
				doReset(id, code).do(s)
				doStop(id, code).do(s)
			}
			for _, n := range many {
				if _, told := doTake(id, n).do(s); n <= 0 && told.data != "" {
					t.Errorf("%s: %+v", which, told)
				}
			}
			for _, n := range []int{0, 1, 4096, 5000, 100000} {
				if _, told := doWrite(id, strings.Repeat("x", n)).do(s); told.n > min(n, 4096) {
					t.Errorf("%s: %+v", which, told)
				}
			}
			if id <= mostNumber {
				toReader, toWriter := framesOf(id)
				for _, f := range append(slices.Concat(toReader, toWriter), limitOf(id, mostNumber), blockedOf(id, mostNumber), resetOf(id, mostNumber, mostNumber), last(id, mostNumber, ""), part(id, mostNumber-1200, strings.Repeat("x", 1200))) {
					doOn(f).do(s)
					doLost(f).do(s)
					doAcked(f).do(s)
				}
			}
		}
		for _, n := range many {
			if _, told := doNext(n).do(s); told.ok && size(told.f) > n {
				t.Errorf("%s: %+v", which, told)
			}
		}
	}
}

// R5
func TestManyCallsAtOnce(t *testing.T) {
	shared := midst(true)
	deeds := calls()
	var want []string
	for _, d := range deeds {
		s, told := d.do(shared)
		want = append(want, fmt.Sprint(s, told))
	}
	var group sync.WaitGroup
	for range 8 {
		group.Go(func() {
			for i, d := range deeds {
				if s, told := d.do(shared); fmt.Sprint(s, told) != want[i] {
					t.Error(d.name)
				}
			}
		})
	}
	group.Wait()
	checkState(t, "what all call of", shared, midst(true))
}
