package ledger_test

import (
	"fmt"
	"math"
	"slices"
	"sync"
	"testing"

	"domino/api"
	"domino/frame"
	"domino/ledger"
	"domino/ranges"
	"domino/rtt"
)

type (
	F     = frame.Frame
	P     = ledger.Packet
	R     = ranges.Range
	S     = ranges.Set
	State = ledger.State
)

const (
	mostNumber = 1<<62 - 1
	farTick    = 1 << 40
	highest    = math.MaxUint64
)

// While there is no sample, so many ticks pass before a packet is lost by its tick, and before the first one is told in vain (with most 0).
const (
	newThreshold = 11
	newPto       = 30
)

// ping is what a packet has that is kept; quiet is what one has that is not.
func ping() []F  { return []F{{Kind: frame.Ping}} }
func quiet() []F { return []F{{Kind: frame.Ack, Set: S{{Lo: 0, Hi: 3}, {Lo: 7, Hi: 9}}}} }

// copied tells the same frames in memory of their own.
func copied(l []F) []F {
	var out []F
	for _, f := range l {
		f.Set = append(S{}, f.Set...)
		out = append(out, f)
	}
	return out
}

// copiedPackets tells the same packets in memory of their own.
func copiedPackets(l []P) []P {
	var out []P
	for _, p := range l {
		p.Frames = copied(p.Frames)
		out = append(out, p)
	}
	return out
}

// copiedState tells the same state in memory of its own.
func copiedState(s State) State {
	s.L = copiedPackets(s.L)
	return s
}

func samePacket(a, b P) bool {
	return a.Num == b.Num && a.Tick == b.Tick && a.Size == b.Size && slices.EqualFunc(a.Frames, b.Frames, frame.Same)
}

// samePackets tells whether two lists are alike; lists without elements are, and nil ones.
func samePackets(a, b []P) bool {
	return slices.EqualFunc(a, b, samePacket)
}

func same(a, b State) bool {
	return a.Next == b.Next && a.Largest == b.Largest && a.Any == b.Any && a.Rtt == b.Rtt && a.Probes == b.Probes && samePackets(a.L, b.L)
}

// nums tells the numbers of packets.
func nums(l []P) []uint64 {
	var out []uint64
	for _, p := range l {
		out = append(out, p.Num)
	}
	return out
}

// send sends one packet more, that has to be sent.
func send(s State, tick int, l []F) State {
	s, _, e := ledger.Send(s, tick, 100+int(s.Next), l)
	if e != api.OK {
		panic(fmt.Sprint("Send: ", e))
	}
	return s
}

// sent tells a state of which packets 0, 1, 2 .. with a Ping went out at these ticks.
func sent(ticks ...int) State {
	s := ledger.New()
	for _, tick := range ticks {
		s = send(s, tick, ping())
	}
	return s
}

// skipped tells s with so many packets more that are not kept.
func skipped(s State, many int) State {
	for range many {
		s = send(s, 0, quiet())
	}
	return s
}

// of tells the set of these numbers.
func of(l ...uint64) S {
	var out []R
	for _, n := range l {
		out = append(out, R{Lo: n, Hi: n})
	}
	return ranges.Of(out...)
}

// sampled tells what such samples lead to, whose answers were not held back.
func sampled(l ...int) rtt.State {
	s := rtt.New()
	for _, n := range l {
		s = rtt.Sample(s, n, 0, 0)
	}
	return s
}

// acked acknowledges, at a tick, what has to be taken.
func acked(t *testing.T, s State, tick int, l ...uint64) (State, []P, []P) {
	t.Helper()
	s, came, lost, e := ledger.Ack(s, of(l...), 0, 0, tick)
	if e != api.OK {
		t.Fatalf("Ack of %v: %d", l, e)
	}
	return s, came, lost
}

// checkNums tells whether these packets have these numbers.
func checkNums(t *testing.T, name string, l []P, want ...uint64) {
	t.Helper()
	if got := nums(l); !slices.Equal(got, want) {
		t.Errorf("%s: %v, not %v", name, got, want)
	}
}

// checkState tells whether s is want.
func checkState(t *testing.T, name string, s, want State) {
	t.Helper()
	if !same(s, want) {
		t.Errorf("%s: %+v, not %+v", name, s, want)
	}
}

// checkAck acknowledges at a tick, and tells whether just these came, these are lost, and these are left.
func checkAck(t *testing.T, name string, s State, set S, tick int, came, lost, left []uint64) State {
	t.Helper()
	out, a, b, e := ledger.Ack(s, set, 0, 0, tick)
	if e != api.OK {
		t.Errorf("%s: %d", name, e)
	}
	checkNums(t, name+": came", a, came...)
	checkNums(t, name+": lost", b, lost...)
	checkNums(t, name+": left", out.L, left...)
	return out
}

// checkTick goes to a tick with a most of 0, and tells whether just these are told, these are left, and so many Probes.
func checkTick(t *testing.T, name string, s State, tick int, told, left []uint64, probes int) State {
	t.Helper()
	out, l := ledger.Tick(s, tick, 0)
	checkNums(t, name+": told", l, told...)
	checkNums(t, name+": left", out.L, left...)
	if out.Probes != probes {
		t.Errorf("%s: Probes %d, not %d", name, out.Probes, probes)
	}
	out2 := s
	out2.L, out2.Probes = out.L, probes
	checkState(t, name+": all else", out, out2)
	return out
}

func none() []uint64             { return nil }
func some(l ...uint64) []uint64  { return l }
func upTo(n uint64) (l []uint64) { return from(0, n) }

// from tells the numbers from a up to b, without b.
func from(a, b uint64) (l []uint64) {
	for n := a; n < b; n++ {
		l = append(l, n)
	}
	return l
}

// The chapter's example.
func TestTheExample(t *testing.T) {
	s := checkAck(t, "0 to 4, of which 4 came", sent(0, 0, 0, 0, 0), of(4), 8, some(4), some(0, 1), some(2, 3))
	want := State{Next: 5, Largest: 4, Any: true, Rtt: sampled(8), L: []P{{2, 0, 102, ping()}, {3, 0, 103, ping()}}}
	checkState(t, "the state", s, want)
}

// P12.1

func TestNew(t *testing.T) {
	s := ledger.New()
	checkState(t, "New", s, State{Rtt: rtt.State{Smooth: 10, Var: 5}})
	if len(s.L) != 0 || s.Any || s.Rtt != rtt.New() {
		t.Errorf("%+v", s)
	}
}

// frames are one of each kind, and whether it elicits.
func frames() []struct {
	f       F
	elicits bool
} {
	return []struct {
		f       F
		elicits bool
	}{
		{F{Kind: 0x00}, false},
		{F{Kind: 0x01}, true},
		{F{Kind: 0x02, Delay: 4, Set: S{{Lo: 1, Hi: 3}, {Lo: 6, Hi: 6}}}, false},
		{F{Kind: 0x04, Id: 4, Code: 5, Max: 6}, true},
		{F{Kind: 0x05, Id: 4, Code: 5}, true},
		{F{Kind: 0x06, Off: 7, Data: "crypto"}, true},
		{F{Kind: 0x08, Id: 4, Off: 9, Data: "stream", Fin: true}, true},
		{F{Kind: 0x10, Max: 1}, true},
		{F{Kind: 0x11, Id: 4, Max: 2}, true},
		{F{Kind: 0x12, Max: 3}, true},
		{F{Kind: 0x13, Max: 4}, true},
		{F{Kind: 0x14, Max: 5}, true},
		{F{Kind: 0x15, Id: 8, Max: 6}, true},
		{F{Kind: 0x16, Max: 7}, true},
		{F{Kind: 0x17, Max: 8}, true},
		{F{Kind: 0x18, Seq: 2, Prior: 1, Cid: "abcdefgh", Token: "0123456789abcdef"}, true},
		{F{Kind: 0x19, Seq: 3}, true},
		{F{Kind: 0x1a, Token: "pathpath"}, true},
		{F{Kind: 0x1b, Token: "pathpath"}, true},
		{F{Kind: 0x1c, Code: 1, Delay: 2, Data: "close"}, false},
		{F{Kind: 0x1d, Code: 3, Data: "close"}, false},
		{F{Kind: 0x1e}, true},
	}
}

// checkSend sends a packet, and tells whether it has its number, and is kept just if it should be.
func checkSend(t *testing.T, name string, s State, l []F, kept bool) State {
	t.Helper()
	out, num, e := ledger.Send(s, 77, 1200, l)
	if num != s.Next || e != api.OK {
		t.Errorf("%s: %d, %d", name, num, e)
	}
	want := copiedState(s)
	want.Next++
	if kept {
		want.L = append(want.L, P{Num: s.Next, Tick: 77, Size: 1200, Frames: copied(l)})
	}
	checkState(t, name, out, want)
	return out
}

func TestSendOfEachKind(t *testing.T) {
	s := ledger.New()
	for _, x := range frames() {
		s = checkSend(t, fmt.Sprint("kind ", x.f.Kind), s, []F{x.f}, x.elicits)
	}
	if s.Next != 22 || len(s.L) != 18 {
		t.Errorf("Next %d, %d packets", s.Next, len(s.L))
	}
}

// One frame that elicits is enough, wherever it stands; all the others are kept with it.
func TestSendOfSeveralFrames(t *testing.T) {
	s := sent(1, 2)
	var silent, all []F
	for _, x := range frames() {
		all = append(all, x.f)
		if !x.elicits {
			silent = append(silent, x.f)
		}
	}
	checkSend(t, "all that do not elicit", s, silent, false)
	checkSend(t, "all that do not elicit, thrice", s, slices.Concat(silent, silent, silent), false)
	checkSend(t, "all", s, all, true)
	for place := range len(silent) + 1 {
		checkSend(t, fmt.Sprint("a Ping at ", place), s, slices.Insert(copied(silent), place, F{Kind: frame.Ping}), true)
	}
	checkSend(t, "two Pings", s, slices.Concat(ping(), ping()), true)
}

func TestSendOfNoFrames(t *testing.T) {
	for _, s := range []State{ledger.New(), sent(1, 2)} {
		checkSend(t, "nil", s, nil, false)
		checkSend(t, "none", s, []F{}, false)
	}
}

// Tick and Size are what was handed in.
func TestSendOfTicksAndSizes(t *testing.T) {
	for _, tick := range []int{0, 1, 1000, farTick} {
		for _, size := range []int{math.MinInt, -1, 0, 1, 64, 1500, math.MaxInt} {
			s, num, e := ledger.Send(sent(5), tick, size, ping())
			if num != 1 || e != api.OK {
				t.Errorf("at %d, of %d: %d, %d", tick, size, num, e)
			}
			checkState(t, fmt.Sprintf("at %d, of %d", tick, size), s, State{Next: 2, Rtt: rtt.New(), L: []P{{0, 5, 100, ping()}, {1, tick, size, ping()}}})
		}
	}
}

// A packet stands behind the others, also if its tick is ahead of theirs.
func TestSendBehindTheOthers(t *testing.T) {
	checkNums(t, "ticks that fall", sent(9, 7, 8, 1).L, 0, 1, 2, 3)
}

// What else a state has stays where a packet is sent.
func TestSendLeavesTheOthers(t *testing.T) {
	s, _, _ := acked(t, sent(0, 0, 0, 0), 8, 1)
	s, _ = ledger.Tick(s, 1000, 0)
	s, _ = ledger.Tick(s, 1000, 0)
	if !s.Any || s.Largest != 1 || s.Probes != 1 || s.Rtt == rtt.New() {
		t.Fatalf("%+v", s)
	}
	checkSend(t, "a Ping", s, ping(), true)
	checkSend(t, "an Ack", s, quiet(), false)
}

func TestSendOfTheLastNumber(t *testing.T) {
	for _, l := range [][]F{ping(), quiet(), nil} {
		elicits := len(l) > 0 && l[0].Kind == frame.Ping
		s := sent(3, 4)
		s.Next = mostNumber - 1
		s = checkSend(t, "2^62 - 2", s, l, elicits)
		s = checkSend(t, "2^62 - 1", s, l, elicits)
		if s.Next != 1<<62 {
			t.Errorf("Next %d", s.Next)
		}
		for _, next := range []uint64{1 << 62, 1<<62 + 1, 1<<63 - 1, 1 << 63, 1<<63 + 1, highest - 1, highest} {
			s.Next = next
			out, num, e := ledger.Send(s, 77, 1200, l)
			if num != 0 || e != api.ErrNumber {
				t.Errorf("Next %d: %d, %d", next, num, e)
			}
			checkState(t, fmt.Sprint("Next ", next), out, s)
		}
	}
}

func TestFlight(t *testing.T) {
	for _, x := range []struct {
		name string
		s    State
		want int
	}{
		{"New", ledger.New(), 0},
		{"the zero state", State{}, 0},
		{"one", sent(0), 100},
		{"three", sent(0, 9, 4), 303},
		{"none that is kept", skipped(ledger.New(), 3), 0},
		{"some that are kept", send(skipped(sent(0), 3), 0, ping()), 204},
	} {
		if n := ledger.Flight(x.s); n != x.want {
			t.Errorf("%s: %d, not %d", x.name, n, x.want)
		}
	}
}

func TestFlightOfWhatIsLeft(t *testing.T) {
	s := sent(0, 0, 0, 0, 0, 0)
	s, _, _ = acked(t, s, 8, 1)
	if n := ledger.Flight(s); n != 615-101 {
		t.Errorf("when 1 came: %d", n)
	}
	s, _, _ = acked(t, s, 8, 3)
	if n := ledger.Flight(s); n != 615-101-103-100 {
		t.Errorf("when 3 came, and 0 is lost: %d", n)
	}
	s, _ = ledger.Tick(s, 1<<30, 0)
	if n := ledger.Flight(s); n != 104+105 {
		t.Errorf("when 2 is lost: %d", n)
	}
	s, _ = ledger.Tick(s, 1<<30, 0)
	if n := ledger.Flight(s); n != 105 {
		t.Errorf("when 4 is told: %d", n)
	}
	s, _, _ = acked(t, s, 1<<30, 5)
	if n := ledger.Flight(s); n != 0 || len(s.L) != 0 {
		t.Errorf("when 5 came: %d", n)
	}
}

func TestFlightOfAllSizes(t *testing.T) {
	s := ledger.New()
	for i, x := range []struct{ size, want int }{
		{0, 0}, {-5, -5}, {1, -4}, {64, 60}, {1200, 1260}, {1500, 2760}, {1 << 40, 1<<40 + 2760},
		{math.MaxInt - 1<<40 - 2760, math.MaxInt}, {1, math.MinInt}, {-1, math.MaxInt},
	} {
		s, _, _ = ledger.Send(s, i, x.size, ping())
		if n := ledger.Flight(s); n != x.want {
			t.Errorf("with %d: %d, not %d", x.size, n, x.want)
		}
	}
}

// P12.2

// checkRefused tells whether a set has an error, and changes nothing.
func checkRefused(t *testing.T, name string, s State, set S, want api.Errno) {
	t.Helper()
	before := copiedState(s)
	out, came, lost, e := ledger.Ack(s, set, 1, 2, 1<<30)
	if e != want || len(came) != 0 || len(lost) != 0 {
		t.Errorf("%s: %v, %v, %d, not %d", name, nums(came), nums(lost), e, want)
	}
	checkState(t, name, out, before)
	checkState(t, name+": what was handed in", s, before)
}

// busy is a state in which all fields are other than New's, and both packets, 2 and 3, are lost at a great tick.
func busy(t *testing.T) State {
	t.Helper()
	s, _, _ := acked(t, sent(0, 0, 0, 0), 8, 0)
	s, _ = ledger.Tick(s, 1000, 0)
	s, _, _ = acked(t, skipped(s, 1), 0, 4)
	want := State{Next: 5, Largest: 4, Any: true, Rtt: sampled(8), Probes: 1, L: []P{{2, 0, 102, ping()}, {3, 0, 103, ping()}}}
	checkState(t, "busy", s, want)
	return s
}

func TestAckOfWhatIsNoSet(t *testing.T) {
	for name, set := range map[string]S{
		"nil":                       nil,
		"no range":                  {},
		"an empty range":            {{Lo: 2, Hi: 1}},
		"an empty range behind one": {{Lo: 0, Hi: 0}, {Lo: 3, Hi: 2}},
		"ranges that touch":         {{Lo: 0, Hi: 1}, {Lo: 2, Hi: 2}},
		"ranges that overlap":       {{Lo: 0, Hi: 1}, {Lo: 1, Hi: 2}},
		"a range twice":             {{Lo: 1, Hi: 1}, {Lo: 1, Hi: 1}},
		"ranges that fall":          {{Lo: 2, Hi: 2}, {Lo: 0, Hi: 0}},
		"ranges that fall, great":   {{Lo: 90, Hi: 99}, {Lo: 0, Hi: 0}},
		"2^63":                      {{Lo: 0, Hi: 1 << 63}},
		"2^63 alone":                {{Lo: 1 << 63, Hi: 1 << 63}},
		"2^64 - 1":                  {{Lo: 0, Hi: 1}, {Lo: 5, Hi: highest}},
		"touching, and too great":   {{Lo: 0, Hi: 1}, {Lo: 2, Hi: 1000}},
		"empty, and too great":      {{Lo: 1000, Hi: 999}},
		"2^63, behind one":          {{Lo: 0, Hi: 0}, {Lo: 1 << 63, Hi: 1 << 63}},
	} {
		checkRefused(t, name+", of New", ledger.New(), set, api.ErrArg)
		s := busy(t)
		checkRefused(t, name, s, set, api.ErrArg)
		s.Next = highest
		checkRefused(t, name+", with a Next of 2^64 - 1", s, set, api.ErrArg)
	}
}

func TestAckOfWhatWasNotSent(t *testing.T) {
	s := sent(0, 0, 0, 0, 0)
	for name, set := range map[string]S{
		"Next":                        {{Lo: 5, Hi: 5}},
		"one above Next":              {{Lo: 6, Hi: 6}},
		"just below Next, and Next":   {{Lo: 4, Hi: 5}},
		"all, and Next":               {{Lo: 0, Hi: 5}},
		"one, and Next":               {{Lo: 0, Hi: 0}, {Lo: 5, Hi: 5}},
		"one, and far above":          {{Lo: 0, Hi: 0}, {Lo: 1 << 40, Hi: 1<<63 - 1}},
		"two, and one that goes past": {{Lo: 0, Hi: 0}, {Lo: 2, Hi: 2}, {Lo: 4, Hi: 9}},
	} {
		checkRefused(t, name, s, set, api.ErrAck)
	}
	checkRefused(t, "0 of New", ledger.New(), of(0), api.ErrAck)
	checkRefused(t, "1 of one", sent(0), of(1), api.ErrAck)
	checkAck(t, "just below Next", s, of(4), 8, some(4), some(0, 1), some(2, 3))
	checkAck(t, "all below Next", s, of(0, 1, 2, 3, 4), 8, upTo(5), none(), none())
	checkAck(t, "0 of one", sent(0), of(0), 8, some(0), none(), none())
}

func TestAckOfWhatWasNotSentByAGreatNext(t *testing.T) {
	for _, next := range []uint64{1000, 1 << 32, mostNumber, 1 << 62, 1 << 63, 1<<63 + 5, highest} {
		s := sent(0, 0)
		s.Next = next
		last := min(next-1, 1<<63-1)
		out := checkAck(t, fmt.Sprint("just below ", next), s, of(last), 0, none(), upTo(2), none())
		if out.Largest != last || !out.Any || out.Rtt != rtt.New() {
			t.Errorf("just below %d: %+v", next, out)
		}
		if next < 1<<63 {
			checkRefused(t, fmt.Sprint("Next ", next), s, of(next), api.ErrAck)
			checkRefused(t, fmt.Sprint("0 and Next ", next), s, of(0, next), api.ErrAck)
		}
	}
}

// Packets are acknowledged at both ends of each range, and between.
func TestAckOfSeveralRanges(t *testing.T) {
	s := sent(make([]int, 20)...)
	set := S{{Lo: 0, Hi: 2}, {Lo: 5, Hi: 5}, {Lo: 8, Hi: 13}, {Lo: 16, Hi: 17}}
	out := checkAck(t, "four ranges", s, set, 8,
		some(0, 1, 2, 5, 8, 9, 10, 11, 12, 13, 16, 17), some(3, 4, 6, 7, 14), some(15, 18, 19))
	checkState(t, "four ranges", out, State{Next: 20, Largest: 17, Any: true, Rtt: sampled(8), L: []P{{15, 0, 115, ping()}, {18, 0, 118, ping()}, {19, 0, 119, ping()}}})
}

// What is told, and what is left, is all that a packet was.
func TestAckTellsPacketsWhole(t *testing.T) {
	var all []F
	for _, x := range frames() {
		all = append(all, x.f)
	}
	s := ledger.New()
	var want []P
	for i := range 6 {
		s, _, _ = ledger.Send(s, 40+i, 1000+i, all[i:])
		want = append(want, P{uint64(i), 40 + i, 1000 + i, all[i:]})
	}
	out, came, lost, _ := ledger.Ack(s, of(2, 4), 0, 0, 60)
	if !samePackets(came, []P{want[2], want[4]}) {
		t.Errorf("came: %+v", came)
	}
	if !samePackets(lost, []P{want[0], want[1]}) {
		t.Errorf("lost: %+v", lost)
	}
	if !samePackets(out.L, []P{want[3], want[5]}) {
		t.Errorf("left: %+v", out.L)
	}
}

// Numbers whose packets came or were lost ahead, and those of packets that never were in L, tell nothing more.
func TestAckOfWhatIsNotInL(t *testing.T) {
	s := checkAck(t, "4", sent(0, 0, 0, 0, 0), of(4), 8, some(4), some(0, 1), some(2, 3))
	checkAck(t, "4 again", s, of(4), 8, none(), none(), some(2, 3))
	checkAck(t, "what is lost", s, of(0, 1), 8, none(), none(), some(2, 3))
	checkAck(t, "both", s, of(0, 1, 4), 8, none(), none(), some(2, 3))
	s = checkAck(t, "both, and one that is there", s, of(0, 1, 3, 4), 8, some(3), none(), some(2))
	checkAck(t, "all", s, of(0, 1, 2, 3, 4), 8, some(2), none(), none())
	s = skipped(s, 3)
	s = checkAck(t, "5, which never was", s, of(5), 8, none(), some(2), none())
	checkAck(t, "5 to 7", s, of(5, 6, 7), 8, none(), none(), none())
	jumped := sent(0)
	jumped.Next = 1000
	checkAck(t, "999, which was not sent by this state", jumped, of(999), 8, none(), some(0), none())
	checkAck(t, "0 and 999", jumped, of(0, 999), 8, some(0), none(), none())
}

func TestLargest(t *testing.T) {
	s := sent(make([]int, 10)...)
	for _, x := range []struct {
		l    []uint64
		want uint64
	}{
		{some(5), 5}, {some(3), 5}, {some(4), 5}, {some(5), 5}, {some(0, 5), 5}, {some(0), 5}, {some(6), 6}, {some(6), 6}, {some(5), 6}, {some(1, 2, 9), 9}, {some(8), 9},
	} {
		s, _, _ = acked(t, s, 8, x.l...)
		if s.Largest != x.want || !s.Any {
			t.Errorf("with %v: %d, %v", x.l, s.Largest, s.Any)
		}
	}
	if s, _, _ := acked(t, sent(0), 8, 0); s.Largest != 0 || !s.Any {
		t.Errorf("with 0: %d, %v", s.Largest, s.Any)
	}
	if s, _, _ := acked(t, skipped(ledger.New(), 1), 8, 0); s.Largest != 0 || !s.Any {
		t.Errorf("with 0, which is not in L: %d, %v", s.Largest, s.Any)
	}
}

// A sample is the time of the greatest number's packet, if that came just now.
func TestTheSample(t *testing.T) {
	s := sent(0, 5, 11, 13, 30)
	for _, x := range []struct {
		name string
		l    []uint64
		tick int
		want rtt.State
	}{
		{"of 0", some(0), 20, sampled(20)},
		{"of 1", some(1), 20, sampled(15)},
		{"of 2", some(2), 20, sampled(9)},
		{"of 0 to 2", some(0, 1, 2), 20, sampled(9)},
		{"of 0 and 3", some(0, 3), 20, sampled(7)},
		{"at its tick", some(3), 13, sampled(0)},
		{"one behind its tick", some(3), 14, sampled(1)},
		{"ahead of its tick", some(3), 12, sampled(0)},
		{"far ahead of its tick", some(4), 0, sampled(0)},
		{"at the last tick", some(0), farTick, sampled(farTick)},
	} {
		out, _, _ := acked(t, s, x.tick, x.l...)
		if out.Rtt != x.want {
			t.Errorf("%s: %+v, not %+v", x.name, out.Rtt, x.want)
		}
	}
}

func TestNoSample(t *testing.T) {
	s, _, _ := acked(t, skipped(sent(0, 0, 0), 2), 8, 2)
	if s.Rtt != sampled(8) {
		t.Fatalf("%+v", s.Rtt)
	}
	for name, l := range map[string][]uint64{
		"the greatest one came ahead":                    {0, 1, 2},
		"the greatest one came ahead, and no other came": {2},
		"the greatest one never was":                     {0, 3},
		"the greatest one never was, and all others":     {0, 1, 2, 3, 4},
		"there was none but it":                          {4},
	} {
		out, _, _ := acked(t, s, 50, l...)
		if out.Rtt != s.Rtt {
			t.Errorf("%s: %+v", name, out.Rtt)
		}
	}
	// A greatest number below Largest is as good as any other one.
	out, _, _ := acked(t, s, 16, 0, 1)
	if out.Rtt != sampled(8, 16) || out.Largest != 2 {
		t.Errorf("1, when Largest is 2: %+v", out)
	}
	// What was lost is not acknowledged any more.
	gone, lost := ledger.Tick(sent(0), newPto, 0)
	checkNums(t, "told", lost, 0)
	out, _, _ = acked(t, gone, 50, 0)
	if out.Rtt != rtt.New() {
		t.Errorf("what was told ahead: %+v", out.Rtt)
	}
}

// delay and most are rtt.Sample's: what is held back counts, as far as it is believed.
func TestTheSampleThatWasHeldBack(t *testing.T) {
	first, _, _ := acked(t, sent(0, 0), 80, 0)
	for _, x := range []struct{ delay, most, smooth, variance int }{
		{0, 0, 90, 50}, {16, 17, 88, 46}, {16, 16, 88, 46}, {17, 16, 88, 46}, {16, 8, 89, 48}, {8, 16, 89, 48}, {16, 0, 90, 50}, {-1, 16, 90, 50}, {16, -1, 90, 50},
		{80, 100, 80, 30}, {81, 100, 90, 50}, {math.MaxInt, 16, 88, 46}, {16, math.MaxInt, 88, 46}, {math.MinInt, math.MinInt, 90, 50},
	} {
		s, _, _, e := ledger.Ack(first, of(1), x.delay, x.most, 160)
		want := rtt.State{Any: true, Latest: 160, Smooth: x.smooth, Var: x.variance, Min: 80}
		if e != api.OK || s.Rtt != want {
			t.Errorf("%d, %d: %d, %+v, not %+v", x.delay, x.most, e, s.Rtt, want)
		}
	}
	s, _, _, _ := ledger.Ack(sent(0), of(0), 16, 16, 160)
	if s.Rtt != sampled(160) {
		t.Errorf("a first one: %+v", s.Rtt)
	}
}

// probed tells a state of five packets, 2 to 6, and two Probes.
func probed(t *testing.T) State {
	t.Helper()
	s := sent(0, 0, 0, 0, 0, 0, 0)
	for range 2 {
		s, _ = ledger.Tick(s, 1000, 0)
	}
	if s.Probes != 2 || !slices.Equal(nums(s.L), from(2, 7)) {
		t.Fatalf("%+v", s)
	}
	return s
}

func TestAckAndProbes(t *testing.T) {
	s := skipped(probed(t), 1)
	for _, x := range []struct {
		name string
		l    []uint64
		want int
	}{
		{"one", some(2), 0},
		{"the last one", some(6), 0},
		{"all", from(2, 7), 0},
		{"one, and a greatest one that never was", some(3, 7), 0},
		{"one, and one that was told", some(1, 2), 0},
		{"what was told", some(0), 2},
		{"all that was told", some(0, 1), 2},
		{"what never was: all others are lost, or wait", some(7), 2},
	} {
		if out, _, _ := acked(t, s, 8, x.l...); out.Probes != x.want {
			t.Errorf("%s: %d, not %d", x.name, out.Probes, x.want)
		}
	}
	_, came, lost := acked(t, s, 8, 7)
	checkNums(t, "came", came)
	checkNums(t, "lost", lost, 2, 3, 4)
	if out, _, _ := acked(t, State{Next: 9, Probes: 7, Rtt: rtt.New()}, 8, 8); out.Probes != 7 {
		t.Errorf("of an empty L: %d", out.Probes)
	}
}

// What a set has is acknowledged, also if it were lost without: what is lost is what is left then.
func TestAcknowledgedAheadOfLost(t *testing.T) {
	s := sent(0, 0, 0, 0, 0, 0)
	checkAck(t, "5 alone", s, of(5), 1<<30, some(5), some(0, 1, 2), some(3, 4))
	checkAck(t, "all", s, of(0, 1, 2, 3, 4, 5), 1<<30, upTo(6), none(), none())
	checkAck(t, "0 and 5", s, of(0, 5), 1<<30, some(0, 5), some(1, 2), some(3, 4))
	checkAck(t, "1 and 5", s, of(1, 5), 1<<30, some(1, 5), some(0, 2), some(3, 4))
	old, _, _ := acked(t, skipped(sent(0, 0), 1), 10, 2)
	checkNums(t, "nothing is lost yet", old.L, 0, 1)
	checkAck(t, "both, at a tick at which both were lost", old, of(0, 1), 11, upTo(2), none(), none())
	// 0's own sample puts off when 1 is lost.
	checkAck(t, "one of them", old, of(0), 12, some(0), none(), some(1))
	late, _, _ := acked(t, skipped(sent(0, 4), 1), 10, 2)
	checkAck(t, "one of them, of which the other one is lost then", late, of(1), 11, some(1), some(0), none())
}

// What is lost goes by the Largest and the Rtt that the set itself leads to.
func TestLostByWhatTheSetTells(t *testing.T) {
	// A sample of 8 makes 9 of the threshold of 11, one of 100 makes 112.
	checkAck(t, "a smaller threshold", sent(0, 2), of(1), 10, some(1), some(0), none())
	checkAck(t, "a smaller threshold, at its edge", sent(1, 2), of(1), 10, some(1), some(0), none())
	checkAck(t, "a smaller threshold, just above", sent(2, 2), of(1), 10, some(1), none(), some(0))
	checkAck(t, "a greater threshold", sent(0, 0), of(1), 100, some(1), none(), some(0))
	checkAck(t, "a greater threshold, behind", sent(0, 12), of(1), 112, some(1), some(0), none())
	checkAck(t, "a greater threshold, just above", sent(1, 12), of(1), 112, some(1), none(), some(0))
	checkAck(t, "no sample", skipped(sent(0), 1), of(1), 11, none(), some(0), none())
	checkAck(t, "no sample, just above", skipped(sent(1), 1), of(1), 11, none(), none(), some(0))
}

// A set whose greatest number is below Largest leaves what is lost by Largest.
func TestLostByAnEarlierLargest(t *testing.T) {
	for _, x := range []struct {
		name       string
		set        S
		tick       int
		came, lost []uint64
	}{
		{"0, and 1 waits", of(0), 9, some(0), none()},
		{"0, whose sample puts off when 1 is lost", of(0), 80, some(0), none()},
		{"1, and 0 is lost", of(1), 150, some(1), some(0)},
	} {
		s, _, _ := acked(t, skipped(sent(0, 100), 1), 0, 2)
		left := 2 - len(x.came) - len(x.lost)
		out := checkAck(t, x.name, s, x.set, x.tick, x.came, x.lost, some(1)[:left])
		if out.Largest != 2 {
			t.Errorf("%s: Largest %d", x.name, out.Largest)
		}
	}
	checkAck(t, "0, and nothing behind it came", sent(0, 0, 0), of(0), 150, some(0), none(), some(1, 2))
}

// P12.3

func TestLostByNumber(t *testing.T) {
	for _, x := range []struct {
		largest    uint64
		lost, left []uint64
	}{
		{5, some(2), some(8)}, {6, some(2), some(8)}, {7, some(2), some(8)}, {9, some(2), some(8)}, {10, some(2), some(8)}, {11, some(2, 8), none()}, {12, some(2, 8), none()},
		{4, none(), some(2, 8)}, {3, none(), some(2, 8)}, {1, none(), some(2, 8)}, {0, none(), some(2, 8)},
	} {
		// 2 and 8 are in L, at a tick at which nothing is lost by its own.
		s := skipped(send(skipped(send(skipped(ledger.New(), 2), 0, ping()), 5), 0, ping()), 6)
		checkNums(t, "L", s.L, 2, 8)
		name := fmt.Sprint("Largest ", x.largest)
		s = checkAck(t, name, s, of(x.largest), 0, none(), x.lost, x.left)
		checkTick(t, name, s, newThreshold-1, none(), x.left, 0)
	}
}

// 1, 2, 3 and 4 below, at great numbers.
func TestLostByGreatNumbers(t *testing.T) {
	for _, largest := range []uint64{1 << 32, 1<<32 + 1, 1 << 53, mostNumber - 9, mostNumber} {
		for below := range uint64(6) {
			s := ledger.New()
			s.Next = largest - below
			s = send(s, 0, ping())
			s.Next = largest + 1
			if below == 0 {
				checkAck(t, fmt.Sprint(largest), s, of(largest), 0, some(largest), none(), none())
				continue
			}
			lost, left := none(), some(largest-below)
			if below >= 3 {
				lost, left = left, lost
			}
			checkAck(t, fmt.Sprint(below, " below ", largest), s, of(largest), 0, none(), lost, left)
		}
	}
}

// The tick of a packet that is just one below Largest, and the threshold, come to tick, or not.
func TestLostByTick(t *testing.T) {
	for _, tick := range []int{0, 1, 100, farTick - newThreshold - 1} {
		s := skipped(sent(tick), 1)
		end := tick + newThreshold
		checkAck(t, "just above", s, of(1), end-1, none(), none(), some(0))
		checkAck(t, "of it", s, of(1), end, none(), some(0), none())
		checkAck(t, "below", s, of(1), end+1, none(), some(0), none())
		checkAck(t, "far above", s, of(1), 0, none(), none(), some(0))
		known, _, _ := acked(t, s, tick, 1)
		checkTick(t, "just above", known, end-1, none(), some(0), 0)
		checkTick(t, "of it", known, end, some(0), none(), 0)
		checkTick(t, "below", known, end+1, some(0), none(), 0)
		checkTick(t, "at 0", known, 0, none(), some(0), 0)
		checkTick(t, "at the last tick", known, farTick, some(0), none(), 0)
	}
}

// The same edges, with samples: the threshold is nine eighths of the greater one of Smooth and Latest, 1 at least.
func TestLostByTickAndSamples(t *testing.T) {
	for _, x := range []struct{ sample, threshold int }{
		{0, 1}, {1, 1}, {2, 2}, {7, 7}, {8, 9}, {16, 18}, {80, 90}, {1000, 1125},
	} {
		s, _, _ := acked(t, sent(0), x.sample, 0)
		s = skipped(send(s, 50, ping()), 1)
		s, _, _ = acked(t, s, 0, 2)
		checkNums(t, "1 is on its way", s.L, 1)
		checkTick(t, fmt.Sprint("just above, of ", x.sample), s, 50+x.threshold-1, none(), some(1), 0)
		checkTick(t, fmt.Sprint("of it, of ", x.sample), s, 50+x.threshold, some(1), none(), 0)
		checkTick(t, fmt.Sprint("below, of ", x.sample), s, 50+x.threshold+1, some(1), none(), 0)
	}
}

// One above Largest, or any while nothing was acknowledged, is not lost, at any tick.
func TestNotLostAboveLargest(t *testing.T) {
	s, _, _ := acked(t, sent(0, 0, 0), 8, 1)
	checkNums(t, "0 and 2 are on their way", s.L, 0, 2)
	s = checkTick(t, "0 is lost", s, 9, some(0), some(2), 0)
	s = checkAck(t, "1 again", s, of(1), farTick, none(), none(), some(2))
	checkAck(t, "0", s, of(0), farTick, none(), none(), some(2))
	// 8, and 4 times 4: 24 is Pto.
	checkTick(t, "2 is no more than waited for", s, 23, none(), some(2), 0)
	checkTick(t, "2 is waited for in vain", s, 24, some(2), none(), 1)
	fresh := sent(0, 0, 0, 0, 0)
	checkTick(t, "nothing was acknowledged", fresh, newPto-1, none(), upTo(5), 0)
	checkTick(t, "nothing was acknowledged, and 0 is waited for in vain", fresh, farTick, some(0), from(1, 5), 1)
}

// By number and by tick together: what is lost need not stand side by side, for ticks may fall.
func TestLostByEither(t *testing.T) {
	for _, x := range []struct {
		name       string
		ticks      []int
		lost, left []uint64
	}{
		{"all but two by number", []int{90, 90, 90, 90, 90}, some(0, 1, 2), some(3, 4)},
		{"all by number, or by tick", []int{90, 90, 90, 0, 0}, upTo(5), none()},
		{"0 and 1 by number, 3 by tick", []int{90, 0, 50, 9}, some(0, 1, 3), some(2)},
		{"0 by number, 2 by tick", []int{0, 50, 0}, some(0, 2), some(1)},
		{"0 by number, 1 by tick", []int{50, 0, 10}, some(0, 1), some(2)},
		{"1 by tick", []int{50, 0}, some(1), some(0)},
		{"0 by tick", []int{0, 50}, some(0), some(1)},
		{"both by tick", []int{9, 8}, some(0, 1), none()},
		{"none", []int{10, 50}, none(), some(0, 1)},
	} {
		s := skipped(sent(x.ticks...), 1)
		last := s.Next - 1
		checkAck(t, x.name, s, of(last), 20, none(), x.lost, x.left)
	}
}

// P12.4

func TestTickOfNothing(t *testing.T) {
	for name, s := range map[string]State{
		"New":                  ledger.New(),
		"none that is kept":    skipped(ledger.New(), 4),
		"none that is left":    {Next: 7, Largest: 5, Any: true, Rtt: sampled(3), Probes: 4},
		"none, with 10 Probes": {Next: 7, Rtt: rtt.New(), Probes: 10},
	} {
		for _, tick := range []int{0, 1, newThreshold, newPto, 1000, farTick} {
			for _, most := range []int{math.MinInt, -1, 0, 2, math.MaxInt} {
				out, l := ledger.Tick(s, tick, most)
				if len(l) != 0 {
					t.Errorf("%s at %d, %d: %+v", name, tick, most, l)
				}
				checkState(t, name, out, s)
			}
		}
	}
}

// Where one is lost, just those that are lost are told, also if the first one is waited for in vain.
func TestTickWithOneThatIsLost(t *testing.T) {
	s, _, _ := acked(t, send(skipped(sent(0), 1), 0, ping()), 5, 1)
	checkNums(t, "0 and 2 are on their way", s.L, 0, 2)
	s = checkTick(t, "0 is lost", s, 100, some(0), some(2), 0)
	s = checkTick(t, "2 is told", s, 100, some(2), none(), 1)
	checkTick(t, "none is left", s, 100, none(), none(), 1)
}

// The first packet is waited for in vain, but another one is lost: the first one stays for now.
func TestTickWithOneThatIsLostBehindTheFirst(t *testing.T) {
	s, _, _ := acked(t, sent(0, 0), 0, 0)
	// A sample of 1000 that was held back all the time: what is lost goes by 1125, what is waited for by 1.
	s, _, _, e := ledger.Ack(s, of(1), 1000, 1000, 1000)
	if want := (rtt.State{Any: true, Latest: 1000}); e != api.OK || s.Rtt != want {
		t.Fatalf("%d, %+v", e, s.Rtt)
	}
	// Of 2 and 3, both just below Largest, the second one has the earlier tick.
	s, _, _ = acked(t, skipped(send(send(s, 2000, ping()), 0, ping()), 1), 0, 4)
	checkNums(t, "2 and 3 are on their way", s.L, 2, 3)
	s = checkTick(t, "3 is lost", s, 2100, some(3), some(2), 0)
	s = checkTick(t, "2 is told", s, 2100, some(2), none(), 1)
	checkTick(t, "none is left", s, farTick, none(), none(), 1)
}

func TestTickKeepsProbesWithOneThatIsLost(t *testing.T) {
	s := skipped(probed(t), 1)
	s, _, _ = acked(t, s, 0, 7)
	checkNums(t, "5 and 6 are on their way", s.L, 5, 6)
	s = checkTick(t, "just above", s, newThreshold-1, none(), some(5, 6), 2)
	checkTick(t, "both are lost", s, newThreshold, some(5, 6), none(), 2)
	checkTick(t, "both are lost, far behind", s, farTick, some(5, 6), none(), 2)
}

// Without one that is lost, the first one's tick and Pto come to just above tick, to it, and below it.
func TestTickOfTheFirst(t *testing.T) {
	for _, x := range []struct {
		name      string
		s         State
		most, pto int
	}{
		{"new", sent(7, 7, 7), 0, 30},
		{"new, most 2", sent(7, 7, 7), 2, 32},
		{"new, most 25", sent(7, 7, 7), 25, 55},
		{"new, most below 0", sent(7, 7, 7), -9, 30},
		{"new, the least most", sent(7, 7, 7), math.MinInt, 30},
		{"new, most 2^40", sent(7, 7, 7), farTick, 30 + farTick},
		{"new, a greater most", sent(7, 7, 7), math.MaxInt, 30 + farTick},
		{"behind others", sent(7, 0, 1, 2), 0, 30},
		{"ahead of others", sent(7, 1000, 2000), 0, 30},
		{"one alone", sent(7), 1, 31},
	} {
		end, rest := 7+x.pto, nums(x.s.L)[1:]
		for _, far := range []int{0, 7, end - 2, end - 1} {
			out, l := ledger.Tick(x.s, far, x.most)
			checkNums(t, fmt.Sprint(x.name, ": at ", far), l)
			checkState(t, x.name+": just above", out, x.s)
		}
		for _, far := range []int{end, end + 1, end + 1000} {
			out, l := ledger.Tick(x.s, far, x.most)
			if !samePackets(l, x.s.L[:1]) {
				t.Errorf("%s: at %d: %+v", x.name, far, l)
			}
			checkNums(t, fmt.Sprint(x.name, ": left at ", far), out.L, rest...)
			want := x.s
			want.L, want.Probes = want.L[1:], 1
			checkState(t, x.name, out, want)
		}
	}
}

// Pto goes by the samples, and doubles with each probe.
func TestTickOfTheFirstBySamplesAndProbes(t *testing.T) {
	for _, x := range []struct{ sample, probes, most, pto int }{
		{8, 0, 0, 24}, {8, 0, 3, 27}, {8, 1, 0, 48}, {8, 1, 3, 54}, {8, 4, 0, 384}, {0, 0, 0, 1}, {1, 0, 0, 2}, {0, 3, 0, 8}, {80, 2, 5, 980}, {80, 10, 0, 245760},
	} {
		s, _, _ := acked(t, sent(0), x.sample, 0)
		for range x.probes {
			s, _ = ledger.Tick(send(s, 7, ping()), farTick, 0)
		}
		s = send(send(s, 7, ping()), 7, ping())
		if s.Probes != x.probes || s.Rtt != sampled(x.sample) || len(s.L) != 2 {
			t.Fatalf("%+v", s)
		}
		end, name := 7+x.pto, fmt.Sprintf("%+v", x)
		out, l := ledger.Tick(s, end-1, x.most)
		checkNums(t, name, l)
		checkState(t, name, out, s)
		for _, tick := range []int{end, end + 1} {
			out, l = ledger.Tick(s, tick, x.most)
			checkNums(t, name, l, s.L[0].Num)
			checkNums(t, name, out.L, s.L[1].Num)
			if out.Probes != min(x.probes+1, 10) {
				t.Errorf("%s: Probes %d", name, out.Probes)
			}
		}
	}
}

// Each probe makes the next one wait twice as long, up to ten of them: 30, 60, .. 30720, and 30720 again.
func TestProbesUpToTen(t *testing.T) {
	s := sent(make([]int, 14)...)
	wait := newPto
	for n := range uint64(14) {
		before, after := int(min(n, 10)), int(min(n+1, 10))
		s = checkTick(t, fmt.Sprint("ahead of ", n), s, wait-1, none(), from(n, 14), before)
		s = checkTick(t, fmt.Sprint("at ", n), s, wait, some(n), from(n+1, 14), after)
		if n < 10 {
			wait *= 2
		}
	}
	if wait != 30720 || s.Probes != 10 || len(s.L) != 0 {
		t.Errorf("%d, %+v", wait, s)
	}
}

func TestProbesOfNineAndOfTen(t *testing.T) {
	for _, probes := range []int{0, 1, 8, 9, 10} {
		s := sent(make([]int, 12)...)
		for range probes {
			s, _ = ledger.Tick(s, farTick, 0)
		}
		if s.Probes != probes {
			t.Fatalf("%+v", s)
		}
		n := uint64(probes)
		checkTick(t, fmt.Sprint("of ", probes), s, farTick, some(n), from(n+1, 12), min(probes+1, 10))
	}
}

// One tick tells one probe; the next one is waited for twice as long.
func TestOneProbeATick(t *testing.T) {
	s := sent(0, 0, 0)
	s = checkTick(t, "the first", s, 59, some(0), some(1, 2), 1)
	s = checkTick(t, "the same tick again", s, 59, none(), some(1, 2), 1)
	s = checkTick(t, "one behind", s, 60, some(1), some(2), 2)
	s, _, _ = acked(t, s, 60, 2)
	if s.Probes != 0 || len(s.L) != 0 {
		t.Errorf("%+v", s)
	}
}

// A probe is of the first one by number, whatever the others' ticks are.
func TestTheProbeIsTheFirstByNumber(t *testing.T) {
	s := sent(500, 0, 0, 0)
	checkTick(t, "the others wait with it", s, 529, none(), upTo(4), 0)
	checkTick(t, "it goes first", s, 530, some(0), from(1, 4), 1)
}

func TestTickOfTheLastTicks(t *testing.T) {
	s := sent(farTick-newPto, farTick-newPto+1)
	s = checkTick(t, "the first", s, farTick, some(0), some(1), 1)
	checkTick(t, "the second", s, farTick, none(), some(1), 1)
	slow, _, _ := acked(t, sent(0), farTick, 0)
	slow = send(slow, farTick, ping())
	checkTick(t, "by the slowest", slow, farTick, none(), some(1), 0)
}

// A second reckoning of all calls

// book is one: what became of each number, with what was sent.
type book struct {
	next, largest uint64
	any           bool
	came          rtt.State
	probes        int
	order         []uint64
	packets       map[uint64]P
	flying        map[uint64]bool
}

func newBook() *book {
	return &book{came: rtt.New(), packets: map[uint64]P{}, flying: map[uint64]bool{}}
}

// state is the book as a state.
func (b *book) state() State {
	s := State{Next: b.next, Largest: b.largest, Any: b.any, Rtt: b.came, Probes: b.probes}
	for _, n := range b.order {
		if b.flying[n] {
			s.L = append(s.L, b.packets[n])
		}
	}
	return s
}

// settle ends the flight of those that are such.
func (b *book) settle(such func(p P) bool) []P {
	var out []P
	for _, p := range b.state().L {
		if such(p) {
			delete(b.flying, p.Num)
			out = append(out, p)
		}
	}
	return out
}

func (b *book) send(tick, size int, l []F) (uint64, api.Errno) {
	n := b.next
	if n > mostNumber {
		return 0, api.ErrNumber
	}
	b.next++
	for _, f := range l {
		if k := f.Kind; k != frame.Padding && k != frame.Ack && k != frame.Close && k != frame.AppClose {
			b.order = append(b.order, n)
			b.packets[n], b.flying[n] = P{n, tick, size, copied(l)}, true
			break
		}
	}
	return n, api.OK
}

// refused tells the error of a set, number by number.
func (b *book) refused(set S) api.Errno {
	if len(set) == 0 {
		return api.ErrArg
	}
	for i, r := range set {
		if r.Lo > r.Hi || r.Hi >= 1<<63 || i > 0 && (r.Lo <= set[i-1].Hi || r.Lo-set[i-1].Hi < 2) {
			return api.ErrArg
		}
	}
	for _, r := range set {
		if r.Hi >= b.next {
			return api.ErrAck
		}
	}
	return api.OK
}

func (b *book) lost(tick int) []P {
	return b.settle(func(p P) bool {
		if !b.any || p.Num >= b.largest {
			return false
		}
		wait := 9 * max(b.came.Smooth, b.came.Latest) / 8
		return p.Num+3 <= b.largest || p.Tick+max(wait, 1) <= tick
	})
}

func (b *book) ack(set S, delay, most, tick int) ([]P, []P, api.Errno) {
	if e := b.refused(set); e != api.OK {
		return nil, nil, e
	}
	came := b.settle(func(p P) bool {
		for _, r := range set {
			if p.Num >= r.Lo && p.Num <= r.Hi {
				return true
			}
		}
		return false
	})
	greatest := uint64(0)
	for _, r := range set {
		greatest = max(greatest, r.Hi)
	}
	b.largest = max(b.largest, greatest)
	b.any = true
	for _, p := range came {
		if p.Num == greatest {
			b.came = rtt.Sample(b.came, tick-p.Tick, delay, most)
		}
	}
	if len(came) > 0 {
		b.probes = 0
	}
	return came, b.lost(tick), api.OK
}

func (b *book) tick(tick, most int) []P {
	if l := b.lost(tick); len(l) > 0 {
		return l
	}
	s := b.state()
	if len(s.L) == 0 || s.L[0].Tick+rtt.Pto(b.came, most, b.probes) > tick {
		return nil
	}
	delete(b.flying, s.L[0].Num)
	b.probes = min(b.probes+1, 10)
	return s.L[:1]
}

// dice tells numbers by a fixed rule; each seed has its own.
type dice struct{ x uint64 }

func newDice(seed uint64) *dice { return &dice{seed*0x9e3779b97f4a7c15 + 1} }

// below tells a number below n.
func (d *dice) below(n int) int {
	d.x = d.x*6364136223846793005 + 1442695040888963407
	return int(d.x >> 33 % uint64(n))
}

// frames tells some frames: sometimes none, sometimes such as do not elicit alone.
func (d *dice) frames() []F {
	all := frames()
	var l []F
	for range d.below(4) {
		f := all[d.below(len(all))].f
		f.Set = append(S(nil), f.Set...)
		l = append(l, f)
	}
	return l
}

// set tells a set of some of the numbers below next, the latest ones above all; sometimes one that goes past, or that may not be.
func (d *dice) set(next uint64) S {
	switch d.below(12) {
	case 0:
		return S{{Lo: uint64(d.below(3)), Hi: next + uint64(d.below(3))}}
	case 1:
		return S{{Lo: 3, Hi: 4}, {Lo: uint64(d.below(6)), Hi: 5}}
	case 2:
		return nil
	}
	var l []uint64
	for range 1 + d.below(6) {
		l = append(l, next-min(next, 1+uint64(d.below(12))))
	}
	return of(l...)
}

// player plays calls on a state and a book at once.
type player struct {
	t    *testing.T
	d    *dice
	s    State
	b    *book
	now  int
	told map[uint64]int
	kept map[uint64]bool
}

func newPlayer(t *testing.T, seed uint64) *player {
	return &player{t: t, d: newDice(seed), s: ledger.New(), b: newBook(), told: map[uint64]int{}, kept: map[uint64]bool{}}
}

// ended counts what is told.
func (p *player) ended(l []P) {
	for _, x := range l {
		p.told[x.Num]++
	}
}

// send plays a Send, and tells whether both tell the same.
func (p *player) send() bool {
	l, size := p.d.frames(), 64+p.d.below(1400)
	s, num, e := ledger.Send(p.s, p.now, size, l)
	wantNum, wantE := p.b.send(p.now, size, l)
	p.s = s
	if e == api.OK {
		p.kept[num] = p.b.flying[wantNum]
	}
	return num == wantNum && e == wantE
}

// ack plays an Ack.
func (p *player) ack() bool {
	set, delay, most := p.d.set(p.s.Next), p.d.below(20), p.d.below(8)
	s, came, lost, e := ledger.Ack(p.s, set, delay, most, p.now)
	wantCame, wantLost, wantE := p.b.ack(set, delay, most, p.now)
	p.s = s
	p.ended(came)
	p.ended(lost)
	return samePackets(came, wantCame) && samePackets(lost, wantLost) && e == wantE
}

// tick plays a Tick.
func (p *player) tick() bool {
	most := p.d.below(6) - 1
	s, lost := ledger.Tick(p.s, p.now, most)
	want := p.b.tick(p.now, most)
	p.s = s
	p.ended(lost)
	return samePackets(lost, want)
}

// step plays one call, at a tick that mostly does not fall.
func (p *player) step() bool {
	p.now = max(p.now+p.d.below(5)-p.d.below(20)/19*6, 0)
	switch n := p.d.below(20); {
	case n < 10:
		return p.send()
	case n < 14:
		return p.ack()
	case n < 19:
		return p.tick()
	}
	// Another Next, that is not below, is as good.
	p.s.Next += uint64(p.d.below(4))
	p.b.next = p.s.Next
	return true
}

// checkOnce tells whether what was kept was told once, or is in L.
func (p *player) checkOnce() {
	p.t.Helper()
	in := map[uint64]int{}
	for _, x := range p.s.L {
		in[x.Num]++
	}
	for n, kept := range p.kept {
		want := 0
		if kept {
			want = 1
		}
		if p.told[n]+in[n] != want {
			p.t.Fatalf("%d: told %d times, and in L %d times, not %d", n, p.told[n], in[n], want)
		}
	}
	for n := range p.told {
		if !p.kept[n] {
			p.t.Fatalf("%d: told, but not kept", n)
		}
	}
}

// play plays so many calls.
func (p *player) play(calls int) {
	p.t.Helper()
	for i := range calls {
		if !p.step() || !same(p.s, p.b.state()) {
			p.t.Fatalf("call %d: %+v, not %+v", i, p.s, p.b.state())
		}
		flight := 0
		for _, x := range p.s.L {
			flight += x.Size
		}
		if n := ledger.Flight(p.s); n != flight {
			p.t.Fatalf("call %d: Flight %d, not %d", i, n, flight)
		}
		p.checkOnce()
	}
}

// P12.5, and all others by the second reckoning.

func TestPlaysByASecondReckoning(t *testing.T) {
	told := 0
	for seed := range uint64(300) {
		p := newPlayer(t, seed)
		p.play(100)
		told += len(p.told)
	}
	if told < 5000 {
		t.Errorf("only %d packets are told", told)
	}
}

func TestPlaysUpToTheLastNumber(t *testing.T) {
	for seed := range uint64(40) {
		p := newPlayer(t, seed)
		p.s.Next = mostNumber - uint64(seed)
		p.b.next = p.s.Next
		p.play(80)
		if p.s.Next < 1<<62 {
			t.Errorf("seed %d: Next %d", seed, p.s.Next)
		}
	}
}

// All small states: some of five packets are kept, and any of them are acknowledged, at a tick, twice.
func TestSmallStatesByASecondReckoning(t *testing.T) {
	const many = 5
	subset := func(bits int) (l []uint64) {
		for n := range many {
			if bits>>n&1 != 0 {
				l = append(l, uint64(n))
			}
		}
		return l
	}
	for n := range 1 << (3 * many) {
		kept, first, second := n%32, n/32%32, n/1024
		s, b := ledger.New(), newBook()
		for i := range many {
			l := quiet()
			if kept>>i&1 != 0 {
				l = ping()
			}
			s, _, _ = ledger.Send(s, 3*i, 100, l)
			b.send(3*i, 100, l)
		}
		for i, bits := range []int{first, second} {
			tick := 9 + 9*i
			set := of(subset(bits)...)
			out, came, lost, e := ledger.Ack(s, set, 0, 0, tick)
			wantCame, wantLost, wantE := b.ack(set, 0, 0, tick)
			if !samePackets(came, wantCame) || !samePackets(lost, wantLost) || e != wantE || !same(out, b.state()) {
				t.Fatalf("%05b, %05b, %05b: %+v, not %+v", kept, first, second, out, b.state())
			}
			s = out
		}
	}
}

// A packet that is acknowledged is not lost any more, one that is lost not acknowledged, and one that was told as a probe neither.
func TestToldOnce(t *testing.T) {
	s := checkAck(t, "2 came", sent(0, 0, 0, 0, 0, 0), of(2), 8, some(2), none(), some(0, 1, 3, 4, 5))
	s = checkAck(t, "2 came again", s, of(2), 8, none(), none(), some(0, 1, 3, 4, 5))
	s = checkTick(t, "0 and 1 are lost", s, 9, some(0, 1), from(3, 6), 0)
	s = checkAck(t, "0 to 2 came", s, of(0, 1, 2), 9, none(), none(), from(3, 6))
	s = checkTick(t, "3 is told", s, 24, some(3), some(4, 5), 1)
	s = checkAck(t, "3 came", s, of(3), 24, none(), none(), some(4, 5))
	s = checkAck(t, "all came", s, of(0, 1, 2, 3, 4, 5), 24, some(4, 5), none(), none())
	s = checkAck(t, "all came again", s, of(0, 1, 2, 3, 4, 5), 24, none(), none(), none())
	checkTick(t, "nothing is left", s, farTick, none(), none(), 0)
}

// Rules

// R3, R4

// scribble writes over all that a state, and lists that were answered, share with others, also where they have room.
func scribble(l ...[]P) {
	for _, packets := range l {
		packets = packets[:cap(packets)]
		for i := range packets {
			written := packets[i].Frames[:cap(packets[i].Frames)]
			for j := range written {
				set := written[j].Set[:cap(written[j].Set)]
				for k := range set {
					set[k] = R{Lo: 99, Hi: 99}
				}
				written[j] = F{Kind: 99, Set: S{{Lo: 98, Hi: 98}}}
			}
			packets[i] = P{Num: 97, Tick: 97, Size: 97}
		}
	}
}

// roomy tells a state whose lists have room behind them, with what stands there.
func roomy(s State) State {
	out := s
	out.L = make([]P, 0, len(s.L)+20)
	for _, p := range s.L {
		l := make([]F, 0, len(p.Frames)+20)
		for _, f := range p.Frames {
			f.Set = append(make(S, 0, len(f.Set)+20), f.Set...)
			l = append(l, f)
		}
		p.Frames = l
		out.L = append(out.L, p)
	}
	return out
}

// whole tells all that is in the lists of a state, also behind them.
func whole(s State) State {
	out := s
	out.L = nil
	for _, p := range s.L[:cap(s.L)] {
		l := p.Frames[:cap(p.Frames)]
		p.Frames = nil
		for _, f := range l {
			f.Set = append(S(nil), f.Set[:cap(f.Set)]...)
			p.Frames = append(p.Frames, f)
		}
		out.L = append(out.L, p)
	}
	return out
}

// talkative is a state of six packets, each with an Ack and a Stream.
func talkative() State {
	s := ledger.New()
	for i := range 6 {
		s = send(s, i, append(quiet(), F{Kind: frame.Stream, Id: uint64(i), Data: "data"}))
	}
	return skipped(s, 1)
}

// calls are some of each, at which packets come, are lost, are told as probes, and wait, or which have an error.
func calls() map[string]func(s State) (State, []P, []P) {
	ack := func(tick int, set S) func(s State) (State, []P, []P) {
		return func(s State) (State, []P, []P) {
			out, came, lost, _ := ledger.Ack(s, set, 1, 2, tick)
			return out, came, lost
		}
	}
	tick := func(tick int) func(s State) (State, []P, []P) {
		return func(s State) (State, []P, []P) {
			out, lost := ledger.Tick(s, tick, 0)
			return out, lost, nil
		}
	}
	put := func(l []F) func(s State) (State, []P, []P) {
		return func(s State) (State, []P, []P) {
			out, _, _ := ledger.Send(s, 9, 9, l)
			return out, nil, nil
		}
	}
	return map[string]func(s State) (State, []P, []P){
		"Ack of 4":              ack(8, of(4)),
		"Ack of all":            ack(8, of(0, 1, 2, 3, 4, 5)),
		"Ack of 6, not in L":    ack(8, of(6)),
		"Ack, at a great tick":  ack(1000, of(1, 3)),
		"Ack of no set":         ack(8, S{{Lo: 2, Hi: 1}}),
		"Ack of nothing":        ack(8, nil),
		"Ack of Next":           ack(8, of(7)),
		"Tick, and all wait":    tick(5),
		"Tick, and one is told": tick(30),
		"Send that is kept":     put(append(quiet(), ping()...)),
		"Send that is not kept": put(quiet()),
		"Send of nothing":       put(nil),
	}
}

func TestTheStateThatIsHandedInStays(t *testing.T) {
	for name, call := range calls() {
		for _, next := range []uint64{7, 1 << 62} {
			s := roomy(talkative())
			s.Next = next
			before := whole(s)
			out, came, lost := call(s)
			checkState(t, name, whole(s), before)
			after, cameAfter, lostAfter := copiedState(out), copiedPackets(came), copiedPackets(lost)
			scribble(out.L, came, lost)
			checkState(t, name+", written over", whole(s), before)
			again, cameAgain, lostAgain := call(s)
			checkState(t, name+", again", again, after)
			if !samePackets(cameAgain, cameAfter) || !samePackets(lostAgain, lostAfter) {
				t.Errorf("%s, again: %v, %v", name, nums(cameAgain), nums(lostAgain))
			}
			// Nor does what is written over in the state change what was answered.
			scribble(s.L)
			checkState(t, name+", of a state written over", again, after)
			if !samePackets(cameAgain, cameAfter) || !samePackets(lostAgain, lostAfter) {
				t.Errorf("%s, of a state written over: %v, %v", name, nums(cameAgain), nums(lostAgain))
			}
		}
	}
}

// Each list of an answer has memory of its own, also behind its end.
func TestListsOfOneAnswerShareNothing(t *testing.T) {
	for name, call := range calls() {
		for which := range 3 {
			s, came, lost := call(roomy(talkative()))
			l := [][]P{s.L, came, lost}
			var want [][]P
			for _, x := range l {
				want = append(want, copiedPackets(x))
			}
			scribble(l[which])
			for i, x := range l {
				if i != which && !samePackets(x, want[i]) {
					t.Errorf("%s: list %d, with %d written over: %+v", name, i, which, x)
				}
			}
		}
	}
}

// What is put behind a probe does not stand in the place of the packet behind it.
func TestAProbeHasNoRoomBehindIt(t *testing.T) {
	s, l := ledger.Tick(sent(0, 0, 0), newPto, 0)
	checkNums(t, "told", l, 0)
	if len(append(l, P{Num: 99})) != 2 {
		t.Error("nothing is put behind it")
	}
	checkNums(t, "left", s.L, 1, 2)
	// Nor does what is sent then.
	next := send(s, 9, ping())
	checkNums(t, "told, when another one is sent", l, 0)
	checkNums(t, "left, when another one is sent", next.L, 1, 2, 3)
}

func TestFramesAndSetsThatAreHandedInStay(t *testing.T) {
	l := append(make([]F, 0, 9), quiet()...)
	l[0].Set = append(make(S, 0, 9), l[0].Set...)
	l = append(l, ping()...)
	before := copied(l)
	s := send(ledger.New(), 0, l)
	if !slices.EqualFunc(l, before, frame.Same) || l[:3][2].Kind != 0 || l[0].Set[:3][2] != (R{}) {
		t.Errorf("frames: %+v", l[:3])
	}
	l[0].Set[0] = R{Lo: 5, Hi: 5}
	l[1] = F{Kind: frame.Done}
	if !slices.EqualFunc(s.L[0].Frames, before, frame.Same) {
		t.Errorf("when they are written over: %+v", s.L[0].Frames)
	}
	set := append(make(S, 0, 9), of(0, 2, 4)...)
	out, came, _, e := ledger.Ack(sent(0, 0, 0, 0, 0), set, 1, 2, 8)
	if e != api.OK || !slices.Equal(set, of(0, 2, 4)) || set[:4][3] != (R{}) {
		t.Errorf("set: %v, %d", set[:4], e)
	}
	set[0], set[2] = R{Lo: 1, Hi: 1}, R{Lo: 9, Hi: 9}
	checkNums(t, "came", came, 0, 2, 4)
	checkNums(t, "left", out.L, 3)
}

// Two that go on from one state do not meet.
func TestTwoOfOneState(t *testing.T) {
	s := roomy(sent(0, 0))
	one, two := send(s, 5, ping()), send(s, 6, append(ping(), quiet()...))
	checkState(t, "one", one, State{Next: 3, Rtt: rtt.New(), L: []P{{0, 0, 100, ping()}, {1, 0, 101, ping()}, {2, 5, 102, ping()}}})
	checkState(t, "two", two, State{Next: 3, Rtt: rtt.New(), L: []P{{0, 0, 100, ping()}, {1, 0, 101, ping()}, {2, 6, 102, append(ping(), quiet()...)}}})
	checkState(t, "both are of", s, sent(0, 0))
}

// R6: an L without elements is like none.
func TestEmptyLists(t *testing.T) {
	s := State{Rtt: rtt.New(), L: []P{}}
	checkSend(t, "a Ping", s, ping(), true)
	checkTick(t, "a tick", s, farTick, none(), none(), 0)
	if n := ledger.Flight(s); n != 0 {
		t.Errorf("Flight %d", n)
	}
}

// R1: of odd states, ticks and frames nothing is said, but all calls end.
func TestOddThingsEnd(t *testing.T) {
	ends := []int{math.MinInt, -farTick, -1, 0, 1, 5, farTick, farTick + 1, math.MaxInt}
	odd := []P{{Num: highest}, {Num: 5, Tick: math.MaxInt, Size: math.MaxInt}, {Num: 5}, {Num: 0, Tick: math.MinInt, Size: math.MinInt, Frames: []F{{Kind: highest}}}}
	for _, any := range []bool{false, true} {
		for _, n := range []uint64{0, 1, 4, 5, 1 << 62, 1 << 63, highest} {
			for _, a := range ends {
				for _, b := range ends {
					s := State{Next: n, Largest: n, Any: any, L: odd, Rtt: rtt.State{Any: any, Latest: a, Smooth: b, Var: a, Min: b}, Probes: a}
					ledger.Flight(s)
					ledger.Send(s, a, b, []F{{Kind: highest, Set: S{{Lo: 4, Hi: 1}}}})
					ledger.Tick(s, a, b)
					ledger.Ack(s, of(0, 5), a, b, a)
					ledger.Ack(s, of(1<<62, 1<<63-1), a, b, b)
				}
			}
		}
	}
}

// R5
func TestManyCallsAtOnce(t *testing.T) {
	shared := talkative()
	var all sync.WaitGroup
	for seed := range uint64(16) {
		all.Go(func() {
			s, b := ledger.New(), newBook()
			d := newDice(seed)
			for i := range 60 {
				l := d.frames()
				s, _, _ = ledger.Send(s, i, 100, l)
				b.send(i, 100, l)
				if i%5 == 4 {
					set := d.set(s.Next)
					s, _, _, _ = ledger.Ack(s, set, 0, 0, i)
					b.ack(set, 0, 0, i)
				}
				ledger.Ack(shared, of(2, 5), 0, 0, i)
				ledger.Tick(shared, i, 0)
			}
			if !same(s, b.state()) {
				t.Error(fmt.Sprint(seed, ": ", s, ", not ", b.state()))
			}
		})
	}
	all.Wait()
	checkState(t, "what all call of", shared, talkative())
}
