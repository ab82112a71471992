package frame_test

import (
	"fmt"
	"math"
	"reflect"
	"slices"
	"strings"
	"testing"

	"domino/api"
	"domino/frame"
	"domino/ranges"
)

type (
	F = frame.Frame
	R = ranges.Range
	S = ranges.Set
)

const (
	mostOfAny   = 1<<62 - 1
	mostStreams = 1 << 60
	cid         = "abcdefgh"
	token       = "0123456789abcdef"
	path        = "pathpath"
)

// kind is one of the kinds: its number as the chapter writes it, its constant, and what it has.
type kind struct {
	number, constant uint64
	has              string
}

func kinds() []kind {
	return []kind{
		{0x00, frame.Padding, ""},
		{0x01, frame.Ping, ""},
		{0x02, frame.Ack, "Delay Set"},
		{0x04, frame.Reset, "Id Code Max"},
		{0x05, frame.Stop, "Id Code"},
		{0x06, frame.Crypto, "Off Data"},
		{0x08, frame.Stream, "Id Off Data Fin"},
		{0x10, frame.MaxData, "Max"},
		{0x11, frame.MaxStream, "Id Max"},
		{0x12, frame.MaxBidi, "Max"},
		{0x13, frame.MaxUni, "Max"},
		{0x14, frame.DataBlocked, "Max"},
		{0x15, frame.StreamBlocked, "Id Max"},
		{0x16, frame.BidiBlocked, "Max"},
		{0x17, frame.UniBlocked, "Max"},
		{0x18, frame.NewId, "Seq Prior Cid Token"},
		{0x19, frame.RetireId, "Seq"},
		{0x1a, frame.Challenge, "Token"},
		{0x1b, frame.Response, "Token"},
		{0x1c, frame.Close, "Code Delay Data"},
		{0x1d, frame.AppClose, "Code Data"},
		{0x1e, frame.Done, ""},
	}
}

func kindOf(number uint64) (kind, bool) {
	for _, k := range kinds() {
		if k.number == number {
			return k, true
		}
	}
	return kind{}, false
}

func (k kind) hasPart(name string) bool {
	return slices.Contains(strings.Fields(k.has), name)
}

// field is a number of a frame.
type field struct {
	name string
	of   func(f *F) *uint64
}

func fields() []field {
	return []field{
		{"Id", func(f *F) *uint64 { return &f.Id }},
		{"Off", func(f *F) *uint64 { return &f.Off }},
		{"Max", func(f *F) *uint64 { return &f.Max }},
		{"Code", func(f *F) *uint64 { return &f.Code }},
		{"Seq", func(f *F) *uint64 { return &f.Seq }},
		{"Prior", func(f *F) *uint64 { return &f.Prior }},
		{"Delay", func(f *F) *uint64 { return &f.Delay }},
	}
}

// others give a frame that has none of it something that is no number.
func others() []struct {
	name string
	give func(f *F)
} {
	return []struct {
		name string
		give func(f *F)
	}{
		{"Fin", func(f *F) { f.Fin = true }},
		{"Data", func(f *F) { f.Data = "\x00" }},
		{"Cid", func(f *F) { f.Cid = cid }},
		{"Token", func(f *F) { f.Token = token }},
		{"Token", func(f *F) { f.Token = path }},
		{"Set", func(f *F) { f.Set = S{{Lo: 0, Hi: 0}} }},
	}
}

// form is a frame, its first byte, and the parts behind it, written out by hand: numbers, and texts.
type form struct {
	f     F
	first byte
	parts []any
}

// inBytes tells the varint of n in so many bytes, which may be more than it needs.
func inBytes(n uint64, wide int) string {
	b := make([]byte, wide)
	for i := range b {
		b[i] = byte(n >> (8 * (wide - 1 - i)))
	}
	b[0] |= map[int]byte{1: 0x00, 2: 0x40, 4: 0x80, 8: 0xc0}[wide]
	return string(b)
}

// needs tells in how many bytes n fits.
func needs(n uint64) int {
	switch {
	case n < 1<<6:
		return 1
	case n < 1<<14:
		return 2
	case n < 1<<30:
		return 4
	}
	return 8
}

func num(n uint64) string {
	return inBytes(n, needs(n))
}

func nums(l ...uint64) string {
	s := ""
	for _, n := range l {
		s += num(n)
	}
	return s
}

// told tells the bytes of x, with its numbers in at least so many bytes.
func (x form) told(wide int) string {
	s := string([]byte{x.first})
	for _, p := range x.parts {
		switch p := p.(type) {
		case int:
			s += inBytes(uint64(p), max(wide, needs(uint64(p))))
		case string:
			s += p
		}
	}
	return s
}

func ackForms() []form {
	return []form{
		{F{Kind: 2, Set: set(1, 3, 6, 6)}, 2, []any{6, 0, 1, 0, 1, 2}},
		{F{Kind: 2, Set: set(0, 0)}, 2, []any{0, 0, 0, 0}},
		{F{Kind: 2, Set: set(5, 5), Delay: 7}, 2, []any{5, 7, 0, 0}},
		{F{Kind: 2, Set: set(0, 63), Delay: 64}, 2, []any{63, 64, 0, 63}},
		{F{Kind: 2, Set: set(0, mostOfAny), Delay: mostOfAny}, 2, []any{mostOfAny, mostOfAny, 0, mostOfAny}},
		{F{Kind: 2, Set: set(mostOfAny, mostOfAny)}, 2, []any{mostOfAny, 0, 0, 0}},
		{F{Kind: 2, Set: set(0, 0, 2, 2)}, 2, []any{2, 0, 1, 0, 0, 0}},
		{F{Kind: 2, Set: set(0, 0, mostOfAny, mostOfAny)}, 2, []any{mostOfAny, 0, 1, 0, mostOfAny - 2, 0}},
		{F{Kind: 2, Set: set(0, 9, 20, 20, 64, 127), Delay: 63}, 2, []any{127, 63, 2, 63, 42, 0, 9, 9}},
		{F{Kind: 2, Set: set(4, 5, 8, 10, 100, 20000), Delay: 1 << 30}, 2, []any{20000, 1 << 30, 2, 19900, 88, 2, 1, 1}},
		{ackOf(32), 2, append([]any{93, 0, 31, 0}, repeated(31, 1, 0)...)},
	}
}

// set tells a set by the ends of its ranges: the first and the last number of each.
func set(ends ...uint64) S {
	var s S
	for i := 0; i+1 < len(ends); i += 2 {
		s = append(s, R{Lo: ends[i], Hi: ends[i+1]})
	}
	return s
}

// ackOf tells an Ack of so many ranges, of one number each: 0, 3, 6, and so on.
func ackOf(many int) F {
	f := F{Kind: frame.Ack}
	for i := range uint64(many) {
		f.Set = append(f.Set, R{Lo: 3 * i, Hi: 3 * i})
	}
	return f
}

func repeated(many int, l ...any) []any {
	return slices.Repeat(l, many)
}

func streamForms() []form {
	long := strings.Repeat("s", 1200)
	return []form{
		{F{Kind: 8}, 0x0a, []any{0, 0}},
		{F{Kind: 8, Data: "abc"}, 0x0a, []any{0, 3, "abc"}},
		{F{Kind: 8, Id: 64, Fin: true}, 0x0b, []any{64, 0}},
		{F{Kind: 8, Id: 1, Off: 5, Data: "x"}, 0x0e, []any{1, 5, 1, "x"}},
		{F{Kind: 8, Id: mostOfAny, Off: 1, Fin: true, Data: "\x00\xff"}, 0x0f, []any{mostOfAny, 1, 2, "\x00\xff"}},
		{F{Kind: 8, Id: 4, Off: mostOfAny}, 0x0e, []any{4, mostOfAny, 0}},
		{F{Kind: 8, Id: 4, Off: mostOfAny - 1200, Data: long, Fin: true}, 0x0f, []any{4, mostOfAny - 1200, 1200, long}},
		{F{Kind: 8, Data: long}, 0x0a, []any{0, 1200, long}},
	}
}

func otherForms() []form {
	long := strings.Repeat("l", 1200)
	return []form{
		{F{Kind: 0}, 0, nil},
		{F{Kind: 1}, 1, nil},
		{F{Kind: 0x1e}, 0x1e, nil},
		{F{Kind: 4, Id: 1, Code: 2, Max: 3}, 4, []any{1, 2, 3}},
		{F{Kind: 4, Id: mostOfAny, Code: 64, Max: 1 << 14}, 4, []any{mostOfAny, 64, 1 << 14}},
		{F{Kind: 5, Id: 1, Code: 2}, 5, []any{1, 2}},
		{F{Kind: 6}, 6, []any{0, 0}},
		{F{Kind: 6, Off: 64, Data: "hello"}, 6, []any{64, 5, "hello"}},
		{F{Kind: 6, Off: mostOfAny - 1200, Data: long}, 6, []any{mostOfAny - 1200, 1200, long}},
		{F{Kind: 6, Off: mostOfAny}, 6, []any{mostOfAny, 0}},
		{F{Kind: 0x10, Max: 5}, 0x10, []any{5}},
		{F{Kind: 0x10, Max: mostOfAny}, 0x10, []any{mostOfAny}},
		{F{Kind: 0x11, Id: 6, Max: 7}, 0x11, []any{6, 7}},
		{F{Kind: 0x12, Max: 8}, 0x12, []any{8}},
		{F{Kind: 0x12, Max: mostStreams}, 0x12, []any{mostStreams}},
		{F{Kind: 0x13, Max: 9}, 0x13, []any{9}},
		{F{Kind: 0x13, Max: mostStreams}, 0x13, []any{mostStreams}},
		{F{Kind: 0x14, Max: 10}, 0x14, []any{10}},
		{F{Kind: 0x14, Max: mostOfAny}, 0x14, []any{mostOfAny}},
		{F{Kind: 0x15, Id: 11, Max: 12}, 0x15, []any{11, 12}},
		{F{Kind: 0x16, Max: 13}, 0x16, []any{13}},
		{F{Kind: 0x16, Max: mostStreams}, 0x16, []any{mostStreams}},
		{F{Kind: 0x17, Max: 14}, 0x17, []any{14}},
		{F{Kind: 0x17, Max: mostStreams}, 0x17, []any{mostStreams}},
		{F{Kind: 0x18, Seq: 3, Prior: 2, Cid: cid, Token: token}, 0x18, []any{3, 2, "\x08" + cid, token}},
		{F{Kind: 0x18, Seq: 300, Prior: 300, Cid: "\x00\x00\x00\x00\x00\x00\x00\x00", Token: strings.Repeat("\xff", 16)}, 0x18, []any{300, 300, "\x08\x00\x00\x00\x00\x00\x00\x00\x00", strings.Repeat("\xff", 16)}},
		{F{Kind: 0x19, Seq: 15}, 0x19, []any{15}},
		{F{Kind: 0x1a, Token: path}, 0x1a, []any{path}},
		{F{Kind: 0x1b, Token: path}, 0x1b, []any{path}},
		{F{Kind: 0x1c, Code: 16, Delay: 17, Data: "why"}, 0x1c, []any{16, 17, 3, "why"}},
		{F{Kind: 0x1c, Code: 100, Delay: 1 << 32, Data: long}, 0x1c, []any{100, 1 << 32, 1200, long}},
		{F{Kind: 0x1d, Code: 18, Data: "bye"}, 0x1d, []any{18, 3, "bye"}},
		{F{Kind: 0x1d}, 0x1d, []any{0, 0}},
		{F{Kind: 0x1d, Data: long}, 0x1d, []any{0, 1200, long}},
	}
}

func forms() []form {
	return slices.Concat(ackForms(), streamForms(), otherForms())
}

// example tells a frame of that kind that may be.
func example(number uint64) F {
	for _, x := range forms() {
		if x.f.Kind == number {
			return x.f
		}
	}
	return F{Kind: number}
}

// tails stand behind a frame; none of them may be taken for a part of it.
func tails() []string {
	return []string{"", "\x00", "\x01\x02", "\xff\xff\xff", strings.Repeat("\x0a", 100)}
}

func show(f F) string {
	return fmt.Sprintf("%#v", f)
}

// same holds all fields against each other, by another way than Same does.
func same(a, b F) bool {
	if len(a.Set) != len(b.Set) {
		return false
	}
	for i := range a.Set {
		if a.Set[i] != b.Set[i] {
			return false
		}
	}
	a.Set, b.Set = nil, nil
	return reflect.DeepEqual(a, b)
}

// checkMay holds that f may be, and is put as s.
func checkMay(t *testing.T, f F, s string) {
	t.Helper()
	if !frame.May(f) {
		t.Errorf("May(%s) is false", show(f))
	}
	if got, e := frame.Put(f); got != s || e != api.OK {
		t.Errorf("Put(%s) = %x %d, not %x", show(f), got, e, s)
	}
}

// checkMayNot holds that f may not be, and is not put.
func checkMayNot(t *testing.T, f F) {
	t.Helper()
	if frame.May(f) {
		t.Errorf("May(%s) is true", show(f))
	}
	if got, e := frame.Put(f); got != "" || e != api.ErrArg {
		t.Errorf("Put(%s) = %x %d", show(f), got, e)
	}
}

// checkIf holds that f may be, or not.
func checkIf(t *testing.T, f F, may bool) {
	t.Helper()
	if !may {
		checkMayNot(t, f)
		return
	}
	checkMay(t, f, reckonedPut(f))
}

func checkGet(t *testing.T, s string, f F, rest string) {
	t.Helper()
	if got, behind, e := frame.Get(s); !same(got, f) || behind != rest || e != api.OK {
		t.Errorf("Get(%x) = %s %x %d, not %s %x", s, show(got), behind, e, show(f), rest)
	}
}

// checkWrong holds that s begins by no frame, and that nothing stands beside the error.
func checkWrong(t *testing.T, s string) {
	t.Helper()
	if got, rest, e := frame.Get(s); !same(got, F{}) || got.Set != nil || rest != "" || e != api.ErrFrame {
		t.Errorf("Get(%x) = %s %x %d", s, show(got), rest, e)
	}
}

func checkAll(t *testing.T, s string, l ...F) {
	t.Helper()
	if got, e := frame.All(s); !slices.EqualFunc(got, l, same) || e != api.OK {
		t.Errorf("All(%x) = %v %d, not %v", s, got, e, l)
	}
}

func checkAllWrong(t *testing.T, s string) {
	t.Helper()
	if got, e := frame.All(s); len(got) > 0 || e != api.ErrFrame {
		t.Errorf("All(%x) = %v %d", s, got, e)
	}
}

// The chapter's example, by each call.

func TestTheExample(t *testing.T) {
	f := F{Kind: frame.Ack, Set: set(1, 3, 6, 6)}
	checkMay(t, f, "\x02\x06\x00\x01\x00\x01\x02")
	checkGet(t, "\x02\x06\x00\x01\x00\x01\x02", f, "")
	checkAll(t, "\x02\x06\x00\x01\x00\x01\x02", f)
	if frame.Elicits(f) {
		t.Error("an Ack elicits")
	}
}

// P6.1

func TestConstants(t *testing.T) {
	for _, k := range kinds() {
		if k.number != k.constant {
			t.Errorf("the kind %#x is %#x", k.number, k.constant)
		}
	}
}

func TestEachKindAsBytes(t *testing.T) {
	came := map[uint64]int{}
	for _, x := range forms() {
		checkMay(t, x.f, x.told(1))
		checkGet(t, x.told(1), x.f, "")
		came[x.f.Kind]++
	}
	for _, k := range kinds() {
		if came[k.number] == 0 {
			t.Errorf("no form of kind %#x", k.number)
		}
	}
}

// The bytes of one frame of each kind, written out whole.
func TestBytesWrittenOut(t *testing.T) {
	for _, x := range []struct {
		f F
		s string
	}{
		{F{Kind: frame.Padding}, "\x00"},
		{F{Kind: frame.Ping}, "\x01"},
		{F{Kind: frame.Done}, "\x1e"},
		{F{Kind: frame.Ack, Delay: 64, Set: set(7, 7, 9, 11, 100, 164)}, "\x02\x40\xa4\x40\x40\x02\x40\x40\x40\x57\x02\x00\x00"},
		{F{Kind: frame.Reset, Id: 4, Code: 70, Max: 5}, "\x04\x04\x40\x46\x05"},
		{F{Kind: frame.Stop, Id: 4, Code: 5}, "\x05\x04\x05"},
		{F{Kind: frame.Crypto, Data: "ab"}, "\x06\x00\x02ab"},
		{F{Kind: frame.Stream, Id: 3, Data: "ab"}, "\x0a\x03\x02ab"},
		{F{Kind: frame.Stream, Id: 3, Data: "ab", Fin: true}, "\x0b\x03\x02ab"},
		{F{Kind: frame.Stream, Id: 3, Off: 9, Data: "ab"}, "\x0e\x03\x09\x02ab"},
		{F{Kind: frame.Stream, Id: 3, Off: 9, Data: "ab", Fin: true}, "\x0f\x03\x09\x02ab"},
		{F{Kind: frame.MaxData, Max: 16384}, "\x10\x80\x00\x40\x00"},
		{F{Kind: frame.MaxStream, Id: 1, Max: 2}, "\x11\x01\x02"},
		{F{Kind: frame.MaxBidi, Max: 2}, "\x12\x02"},
		{F{Kind: frame.MaxUni, Max: 2}, "\x13\x02"},
		{F{Kind: frame.DataBlocked, Max: 2}, "\x14\x02"},
		{F{Kind: frame.StreamBlocked, Id: 1, Max: 2}, "\x15\x01\x02"},
		{F{Kind: frame.BidiBlocked, Max: 2}, "\x16\x02"},
		{F{Kind: frame.UniBlocked, Max: 2}, "\x17\x02"},
		{F{Kind: frame.NewId, Seq: 9, Prior: 8, Cid: cid, Token: token}, "\x18\x09\x08\x08" + cid + token},
		{F{Kind: frame.RetireId, Seq: 9}, "\x19\x09"},
		{F{Kind: frame.Challenge, Token: path}, "\x1a" + path},
		{F{Kind: frame.Response, Token: path}, "\x1b" + path},
		{F{Kind: frame.Close, Code: 1, Delay: 2, Data: "x"}, "\x1c\x01\x02\x01x"},
		{F{Kind: frame.AppClose, Code: 1, Data: "x"}, "\x1d\x01\x01x"},
	} {
		checkMay(t, x.f, x.s)
		checkGet(t, x.s+"behind", x.f, "behind")
	}
}

// P6.2: May, Put

func TestMayOfKindsThatThereAreNot(t *testing.T) {
	l := []uint64{1<<8 + 1, 1<<14 + 1, 1<<32 + 1, 1<<32 + 0x1e, 1 << 62, 1 << 63, math.MaxUint64}
	for n := range uint64(300) {
		l = append(l, n)
	}
	for _, n := range l {
		_, is := kindOf(n)
		checkIf(t, example(n), is)
		if is {
			continue
		}
		for _, x := range forms() {
			f := x.f
			f.Kind = n
			checkMayNot(t, f)
		}
	}
}

func TestMayOfEachNumber(t *testing.T) {
	for _, k := range kinds() {
		for _, x := range fields() {
			for _, n := range []uint64{0, 1, 63, mostStreams, mostStreams + 1, mostOfAny - 1, mostOfAny, mostOfAny + 1, 1 << 63, math.MaxUint64} {
				f := example(k.number)
				// What has to be with this number is left open by the others.
				f.Off, f.Prior, f.Data = 0, 0, ""
				if x.name == "Prior" && k.hasPart("Prior") {
					f.Seq = mostOfAny
				}
				*x.of(&f) = n
				may := n <= mostOfAny
				if x.name == "Max" && (k.number == 0x12 || k.number == 0x13 || k.number == 0x16 || k.number == 0x17) {
					may = n <= mostStreams
				}
				if !k.hasPart(x.name) {
					may = n == 0
				}
				checkIf(t, f, may)
			}
		}
	}
}

func TestMayOfFieldsThatAKindHasNot(t *testing.T) {
	for _, x := range forms() {
		k, _ := kindOf(x.f.Kind)
		for _, part := range fields() {
			if k.hasPart(part.name) {
				continue
			}
			for _, n := range []uint64{1, 8, 1 << 32, mostOfAny, 1 << 63, math.MaxUint64} {
				f := x.f
				*part.of(&f) = n
				checkMayNot(t, f)
			}
		}
		for _, part := range others() {
			if k.hasPart(part.name) {
				continue
			}
			f := x.f
			part.give(&f)
			checkMayNot(t, f)
		}
	}
}

// A list without elements is as none.
func TestMayOfAnEmptySet(t *testing.T) {
	for _, x := range forms() {
		if x.f.Kind == frame.Ack {
			continue
		}
		f := x.f
		f.Set = S{}
		checkMay(t, f, x.told(1))
	}
}

func TestMayOfAcks(t *testing.T) {
	for many := range 120 {
		checkIf(t, ackOf(many), many >= 1 && many <= api.MaxRanges)
	}
	for _, s := range []S{
		set(0, 0), set(0, 1), set(5, 5, 7, 7), set(5, 9, 11, 20), set(mostOfAny-1, mostOfAny), set(0, 3, mostOfAny, mostOfAny), set(0, mostOfAny),
	} {
		checkIf(t, F{Kind: frame.Ack, Set: s}, true)
	}
	for _, s := range []S{
		nil, {}, set(1, 0), set(5, 4), set(0, 0, 1, 1), set(0, 0, 0, 0), set(0, 5, 3, 9), set(7, 7, 5, 5), set(0, 1, 2, 3), set(0, 1, 5, 4),
		set(0, 1, 5, 6, 7, 8), set(0, 1, 5, 6, 3, 3),
		set(0, mostOfAny+1), set(mostOfAny+1, mostOfAny+1), set(0, 0, 2, mostOfAny+1), set(0, 1<<63-1), set(0, 1<<63), set(0, math.MaxUint64),
		set(math.MaxUint64, math.MaxUint64), set(math.MaxUint64-1, 0), set(0, 5, 1<<63, 1<<63), set(0, math.MaxUint64, 1, 1),
	} {
		checkMayNot(t, F{Kind: frame.Ack, Set: s})
	}
}

func TestMayOfWhereDataEnds(t *testing.T) {
	for _, kind := range []uint64{frame.Crypto, frame.Stream} {
		for _, n := range []uint64{0, 1, 2, 63, 64, 1199, 1200} {
			data := strings.Repeat("d", int(n))
			checkIf(t, F{Kind: kind, Data: data}, true)
			checkIf(t, F{Kind: kind, Data: data, Off: mostOfAny - n - 1}, true)
			checkIf(t, F{Kind: kind, Data: data, Off: mostOfAny - n}, true)
			checkIf(t, F{Kind: kind, Data: data, Off: mostOfAny - n + 1}, false)
			for _, off := range []uint64{mostOfAny + 1, 1 << 63, math.MaxUint64 - n, math.MaxUint64 - n + 1, math.MaxUint64} {
				if off > mostOfAny {
					checkIf(t, F{Kind: kind, Data: data, Off: off}, false)
				}
			}
		}
	}
}

func TestMayOfLongData(t *testing.T) {
	for _, kind := range []uint64{frame.Crypto, frame.Stream, frame.Close, frame.AppClose} {
		for _, n := range []int{0, 1, 63, 64, 1199, 1200, 1201, 1202, 1300, 16384} {
			checkIf(t, F{Kind: kind, Data: strings.Repeat("d", n)}, n <= 1200)
		}
		checkIf(t, F{Kind: kind, Data: strings.Repeat("é", 600)}, true)
		checkIf(t, F{Kind: kind, Data: strings.Repeat("é", 601)}, false)
	}
}

func TestMayOfPrior(t *testing.T) {
	for _, seq := range []uint64{0, 1, 63, 1 << 30, mostOfAny - 1, mostOfAny} {
		for _, prior := range []uint64{0, 1, 63, seq - 1, seq, seq + 1, mostOfAny, mostOfAny + 1, math.MaxUint64} {
			checkIf(t, F{Kind: frame.NewId, Seq: seq, Prior: prior, Cid: cid, Token: token}, prior <= seq)
		}
	}
}

func TestMayOfTheLengthsOfIdsAndTokens(t *testing.T) {
	for n := range 41 {
		text := strings.Repeat("t", n)
		checkIf(t, F{Kind: frame.NewId, Cid: text, Token: token}, n == 8)
		checkIf(t, F{Kind: frame.NewId, Cid: cid, Token: text}, n == 16)
		checkIf(t, F{Kind: frame.Challenge, Token: text}, n == 8)
		checkIf(t, F{Kind: frame.Response, Token: text}, n == 8)
		checkIf(t, F{Kind: frame.NewId, Cid: text, Token: strings.Repeat("t", 24-min(n, 24))}, n == 8)
	}
	checkIf(t, F{Kind: frame.NewId, Cid: "", Token: token + cid}, false)
	checkIf(t, F{Kind: frame.NewId, Cid: strings.Repeat("c", 256+8), Token: token}, false)
}

func TestMayOfTheNumberOfStreams(t *testing.T) {
	for _, kind := range []uint64{frame.MaxBidi, frame.MaxUni, frame.BidiBlocked, frame.UniBlocked} {
		for _, n := range []uint64{0, 1, 1<<60 - 1, 1 << 60, 1<<60 + 1, 1 << 61, mostOfAny, mostOfAny + 1, 1<<63 + 1, math.MaxUint64} {
			checkIf(t, F{Kind: kind, Max: n}, n <= 1<<60)
		}
	}
	for _, kind := range []uint64{frame.MaxData, frame.DataBlocked, frame.MaxStream, frame.StreamBlocked, frame.Reset} {
		checkIf(t, F{Kind: kind, Max: 1<<60 + 1}, true)
	}
}

// P6.3: Get

func TestGetOfNoByte(t *testing.T) {
	checkWrong(t, "")
}

func TestGetWithBytesBehind(t *testing.T) {
	for _, x := range forms() {
		for _, tail := range tails() {
			checkGet(t, x.told(1)+tail, x.f, tail)
		}
	}
}

func TestGetOfWhatIsCut(t *testing.T) {
	for _, x := range forms() {
		for _, wide := range []int{1, 2, 8} {
			s := x.told(wide)
			for have := range len(s) {
				checkWrong(t, s[:have])
			}
		}
	}
}

func TestGetOfKindsThatThereAreNot(t *testing.T) {
	for first := range 256 {
		_, is := kindOf(uint64(first))
		if is || first > 8 && first < 16 {
			continue
		}
		for _, tail := range append(tails(), strings.Repeat("\x00", 40), "\x08"+cid+token, "\x01\x02\x03\x04") {
			checkWrong(t, string([]byte{byte(first)})+tail)
		}
	}
}

func TestGetOfAKindInMoreBytesThanItNeeds(t *testing.T) {
	for _, x := range forms() {
		s := x.told(1)
		for _, wide := range []int{2, 4, 8} {
			checkWrong(t, inBytes(uint64(x.first), wide)+s[1:])
			checkWrong(t, inBytes(uint64(x.first), wide)+s[1:]+strings.Repeat("\x00", 40))
		}
	}
	for first := range uint64(300) {
		checkWrong(t, inBytes(first, 2))
		checkWrong(t, inBytes(first, 8)+strings.Repeat("\x00", 40))
	}
}

func TestGetOfNumbersInMoreBytesThanTheyNeed(t *testing.T) {
	for _, x := range forms() {
		for _, wide := range []int{1, 2, 4, 8} {
			checkGet(t, x.told(wide), x.f, "")
			checkGet(t, x.told(wide)+"\x00", x.f, "\x00")
		}
	}
}

func TestGetOfStreams(t *testing.T) {
	for first := byte(8); first < 16; first++ {
		for _, off := range []uint64{0, 1, 64, mostOfAny - 1200} {
			for _, data := range []string{"", "a", "\x00\x00", strings.Repeat("d", 1200)} {
				s, f := string([]byte{first})+num(7), F{Kind: 8, Id: 7, Data: data, Fin: first&1 != 0}
				if first&4 != 0 {
					s, f.Off = s+num(off), off
				}
				if first&2 == 0 {
					checkGet(t, s+data, f, "")
					continue
				}
				s += num(uint64(len(data))) + data
				for _, tail := range tails() {
					checkGet(t, s+tail, f, tail)
				}
			}
		}
	}
}

func TestGetOfStreamsWithoutALength(t *testing.T) {
	for _, first := range []byte{0x08, 0x09, 0x0c, 0x0d} {
		head := string([]byte{first})
		checkWrong(t, head)
		checkWrong(t, head+"\x40")
		if first&4 != 0 {
			checkWrong(t, head+"\x07")
			checkWrong(t, head+"\x07\xc0\x00")
			head += "\x07\x00"
		} else {
			head += "\x07"
		}
		for _, n := range []int{0, 1, 63, 64, 1199, 1200, 1201, 1300} {
			data := strings.Repeat("\x01", n)
			if n > 1200 {
				checkWrong(t, head+data)
			} else {
				checkGet(t, head+data, F{Kind: 8, Id: 7, Data: data, Fin: first&1 != 0}, "")
			}
		}
	}
	for _, n := range []uint64{0, 1, 2, 1200} {
		data := strings.Repeat("\x01", int(n))
		checkGet(t, "\x0c\x00"+num(mostOfAny-n)+data, F{Kind: 8, Off: mostOfAny - n, Data: data}, "")
		checkWrong(t, "\x0c\x00"+num(mostOfAny-n)+data+"\x01")
	}
}

func TestGetOfAnOffOfNothingThatIsTold(t *testing.T) {
	for _, wide := range []int{1, 2, 4, 8} {
		zero := inBytes(0, wide)
		checkGet(t, "\x0e\x07"+zero+"\x01x!", F{Kind: 8, Id: 7, Data: "x"}, "!")
		checkGet(t, "\x0f\x07"+zero+"\x01x!", F{Kind: 8, Id: 7, Data: "x", Fin: true}, "!")
		checkGet(t, "\x0c\x07"+zero+"\x01x!", F{Kind: 8, Id: 7, Data: "\x01x!"}, "")
		checkGet(t, "\x0d\x07"+zero, F{Kind: 8, Id: 7, Fin: true}, "")
	}
}

func TestGetOfALengthBeyondTheBytes(t *testing.T) {
	for _, head := range []string{"\x06\x05", "\x0a\x05", "\x0b\x05", "\x0e\x05\x05", "\x0f\x05\x05", "\x1c\x05\x05", "\x1d\x05"} {
		for _, have := range []int{0, 1, 63, 64, 1200} {
			data := strings.Repeat("d", have)
			if _, rest, e := frame.Get(head + num(uint64(have)) + data + "!"); rest != "!" || e != api.OK {
				t.Errorf("%x of %d bytes: %q %d", head, have, rest, e)
			}
			for _, more := range []uint64{1, 2, 64, 1 << 14, 1 << 31, 1 << 32, 1<<61 + 1, mostOfAny - 1200} {
				checkWrong(t, head+num(uint64(have)+more)+data)
			}
			checkWrong(t, head+num(mostOfAny)+data)
		}
	}
}

func TestGetOfTooMuchData(t *testing.T) {
	for _, head := range []string{"\x06\x05", "\x0a\x05", "\x0e\x05\x05", "\x1c\x05\x05", "\x1d\x05"} {
		for _, n := range []int{1201, 1202, 1300, 1480} {
			checkWrong(t, head+num(uint64(n))+strings.Repeat("d", n))
		}
	}
	for _, head := range []string{"\x06", "\x0e\x05"} {
		for _, n := range []uint64{0, 1, 1200} {
			data := strings.Repeat("d", int(n))
			if _, _, e := frame.Get(head + num(mostOfAny-n) + num(n) + data); e != api.OK {
				t.Errorf("%x, up to the end: %d", head, e)
			}
			if n > 0 {
				checkWrong(t, head+num(mostOfAny-n+1)+num(n)+data)
				checkWrong(t, head+num(mostOfAny)+num(n)+data)
			}
		}
	}
}

func TestGetOfTheLengthOfACid(t *testing.T) {
	behind := cid + token + strings.Repeat("z", 300)
	for n := range 256 {
		s := "\x18\x05\x04" + string([]byte{byte(n)}) + behind
		if n == 8 {
			checkGet(t, s, F{Kind: 0x18, Seq: 5, Prior: 4, Cid: cid, Token: token}, behind[24:])
		} else {
			checkWrong(t, s)
		}
	}
	// It is a byte, and no varint.
	checkWrong(t, "\x18\x05\x04\x40\x08"+behind)
}

func TestGetOfFramesThatMayNotBe(t *testing.T) {
	checkWrong(t, "\x18\x05\x06\x08"+cid+token)
	checkWrong(t, "\x18"+num(mostOfAny-1)+num(mostOfAny)+"\x08"+cid+token)
	for _, kind := range []byte{0x12, 0x13, 0x16, 0x17} {
		head := string([]byte{kind})
		checkGet(t, head+num(1<<60), F{Kind: uint64(kind), Max: 1 << 60}, "")
		checkWrong(t, head+num(1<<60+1))
		checkWrong(t, head+num(mostOfAny))
	}
}

func TestGetOfAcksBelowNothing(t *testing.T) {
	ack := func(l ...uint64) string { return "\x02" + nums(l...) }
	for _, n := range []uint64{0, 1, 63, 64, 1 << 30, mostOfAny - 1} {
		checkGet(t, ack(n, 0, 0, n), F{Kind: 2, Set: set(0, n)}, "")
		checkWrong(t, ack(n, 0, 0, n+1))
		checkWrong(t, ack(n, 0, 0, mostOfAny))
	}
	checkGet(t, ack(9, 5, 1, 3, 4, 0), F{Kind: 2, Delay: 5, Set: set(0, 0, 6, 9)}, "")
	checkWrong(t, ack(9, 5, 1, 3, 5, 0))
	checkWrong(t, ack(9, 5, 1, 3, 4, 1))
	checkWrong(t, ack(9, 5, 1, 3, 6, 0))
	checkWrong(t, ack(9, 5, 1, 3, mostOfAny, 0))
	checkWrong(t, ack(9, 5, 1, 3, mostOfAny-1, 0))
	checkWrong(t, ack(9, 5, 1, 3, 4, mostOfAny))
	checkGet(t, ack(9, 5, 1, 3, 0, 4), F{Kind: 2, Delay: 5, Set: set(0, 4, 6, 9)}, "")
	checkWrong(t, ack(9, 5, 1, 3, 0, 5))
	// A range that begins at 0 or 1 has none ahead of it.
	checkWrong(t, ack(9, 5, 1, 9, 0, 0))
	checkWrong(t, ack(9, 5, 1, 8, 0, 0))
	checkGet(t, ack(9, 5, 1, 7, 0, 0), F{Kind: 2, Delay: 5, Set: set(0, 0, 2, 9)}, "")
	checkWrong(t, ack(9, 5, 2, 3, 1, 1, 0, 2))
	checkGet(t, ack(9, 5, 2, 3, 1, 1, 0, 0), F{Kind: 2, Delay: 5, Set: set(0, 0, 2, 3, 6, 9)}, "")
	checkWrong(t, ack(9, 5, 2, 3, 1, 1, 1, 0))
	checkWrong(t, ack(mostOfAny, 0, 1, 0, mostOfAny-1, 0))
	checkWrong(t, ack(mostOfAny, 0, 1, mostOfAny, mostOfAny, mostOfAny))
}

func TestGetOfAcksOfManyRanges(t *testing.T) {
	for many := 1; many <= 120; many++ {
		top := uint64(3 * (many - 1))
		s := "\x02" + nums(top, 0, uint64(many-1), 0) + strings.Repeat("\x01\x00", many-1)
		if many <= api.MaxRanges {
			checkGet(t, s+"!", ackOf(many), "!")
		} else {
			checkWrong(t, s+"!")
		}
	}
	for _, more := range []uint64{32, 63, 64, 1 << 14, 1 << 31, 1 << 32, 1<<32 + 1, 1 << 61, mostOfAny} {
		checkWrong(t, "\x02"+nums(mostOfAny, 0, more, 0)+strings.Repeat("\x00", 1400))
		checkWrong(t, "\x02"+nums(mostOfAny, 0, more, 0))
	}
}

// P6.3: All

func TestAllOfNoByte(t *testing.T) {
	checkAllWrong(t, "")
}

func TestAllOfEachForm(t *testing.T) {
	for _, x := range forms() {
		if x.f.Kind == frame.Padding {
			checkAll(t, x.told(1))
			continue
		}
		for _, wide := range []int{1, 4} {
			s := x.told(wide)
			checkAll(t, s, x.f)
			checkAll(t, s+s, x.f, x.f)
			checkAll(t, s+"\x01"+s, x.f, F{Kind: 1}, x.f)
		}
	}
}

func TestAllOfPadding(t *testing.T) {
	for _, n := range []int{1, 2, 39, 40, 41, 1000, 1500} {
		zeros := strings.Repeat("\x00", n)
		checkAll(t, zeros)
		ping, reset := F{Kind: 1}, F{Kind: 4, Id: 1, Code: 2, Max: 3}
		checkAll(t, zeros+"\x01", ping)
		checkAll(t, "\x01"+zeros, ping)
		checkAll(t, "\x01"+zeros+"\x04\x01\x02\x03", ping, reset)
		checkAll(t, zeros+"\x01"+zeros+"\x04\x01\x02\x03"+zeros, ping, reset)
	}
	checkAll(t, "\x04\x00\x00\x00\x00\x00\x00\x01", F{Kind: 4}, F{Kind: 1})
}

func TestAllOfManyFrames(t *testing.T) {
	ping := F{Kind: 1}
	for many := 1; many <= 60; many++ {
		pings, padded := strings.Repeat("\x01", many), strings.Repeat("\x00\x01\x00", many)
		if many > api.MaxFrames {
			checkAllWrong(t, pings)
			checkAllWrong(t, padded)
			checkAllWrong(t, "\x00"+pings+"\x00\x00")
			checkAllWrong(t, pings+"\x03")
			continue
		}
		l := slices.Repeat([]F{ping}, many)
		checkAll(t, pings, l...)
		checkAll(t, padded, l...)
		checkAll(t, strings.Repeat("\x00", 1000)+pings+strings.Repeat("\x00", 400), l...)
		checkAll(t, strings.Repeat("\x19\x40\x40", many), slices.Repeat([]F{{Kind: 0x19, Seq: 64}}, many)...)
	}
	forty := strings.Repeat("\x01", 40)
	for _, more := range []string{"\x01", "\x02\x00\x00\x00\x00", "\x08\x01", "\x1d\x00\x00", "\x00\x1e", "\x00\x00\x19\x05\x00"} {
		checkAllWrong(t, forty+more)
		if _, e := frame.All(forty[1:] + more); e != api.OK {
			t.Errorf("39 and %x: %d", more, e)
		}
	}
}

func TestAllOfAWrongOne(t *testing.T) {
	good := "\x01\x04\x01\x02\x03\x00\x02\x06\x00\x01\x00\x01\x02"
	for _, bad := range []string{"\x03", "\x07", "\x1f", "\x40\x01", "\xff", "\x04", "\x04\x01", "\x04\x01\x02\x40", "\x0a\x01\x02x", "\x02\x06\x00\x01\x00\x01", "\x02\x00\x00\x00\x01", "\x12\xd0\x00\x00\x00\x00\x00\x00\x01", "\x1a" + path[1:]} {
		checkAllWrong(t, bad)
		checkAllWrong(t, good+bad)
		checkAllWrong(t, good+good+"\x00"+bad)
		checkAllWrong(t, "\x00\x00"+bad)
		checkAllWrong(t, strings.Repeat("\x01", 40)+bad)
	}
	// What is wrong ahead is not made good by what is behind.
	checkAllWrong(t, "\x03"+good)
	checkAllWrong(t, good+"\x03"+good)
	for have := 1; have < len(good); have++ {
		whole := have == 1 || have == 5 || have == 6
		if _, e := frame.All(good[:have]); (e == api.OK) != whole {
			t.Errorf("All(%x): %d", good[:have], e)
		}
	}
}

// Without its length a Stream has all that is left, also what looks like frames.
func TestAllOfAStreamThatTakesTheRest(t *testing.T) {
	checkAll(t, "\x01\x08\x05\x01\x00\x03", F{Kind: 1}, F{Kind: 8, Id: 5, Data: "\x01\x00\x03"})
	checkAll(t, "\x01\x09\x05", F{Kind: 1}, F{Kind: 8, Id: 5, Fin: true})
	checkAll(t, "\x0a\x05\x01\x01\x01", F{Kind: 8, Id: 5, Data: "\x01"}, F{Kind: 1})
}

// P6.4

func TestElicits(t *testing.T) {
	for _, x := range forms() {
		silent := x.f.Kind == 0 || x.f.Kind == 2 || x.f.Kind == 0x1c || x.f.Kind == 0x1d
		if frame.Elicits(x.f) == silent {
			t.Errorf("Elicits(%s) = %v", show(x.f), !silent)
		}
	}
	// It is the Kind that counts, and nothing else.
	for _, n := range []uint64{0, 1, 2, 3, 4, 7, 8, 9, 0x1b, 0x1c, 0x1d, 0x1e, 0x1f, 64, 256, 258, 1<<32 + 2, 1 << 62, math.MaxUint64} {
		want := n != 0 && n != 2 && n != 0x1c && n != 0x1d
		for _, f := range []F{{Kind: n}, {Kind: n, Id: 1, Delay: 2, Fin: true, Data: "x", Set: set(1, 2)}} {
			if frame.Elicits(f) != want {
				t.Errorf("Elicits of kind %#x = %v", n, !want)
			}
		}
	}
}

func checkSame(t *testing.T, a, b F, want bool) {
	t.Helper()
	if frame.Same(a, b) != want || frame.Same(b, a) != want {
		t.Errorf("Same(%s, %s) is not %v", show(a), show(b), want)
	}
}

func TestSameOfEachField(t *testing.T) {
	full := F{Kind: 2, Id: 1, Off: 2, Max: 3, Code: 4, Seq: 5, Prior: 6, Delay: 7, Fin: true, Data: "d", Cid: "c", Token: "t", Set: set(1, 2, 4, 5)}
	for _, f := range []F{{}, full, example(4)} {
		copied := f
		copied.Set = slices.Clone(f.Set)
		checkSame(t, f, f, true)
		checkSame(t, f, copied, true)
		for _, x := range append(fields(), field{"Kind", func(f *F) *uint64 { return &f.Kind }}) {
			for _, add := range []uint64{1, 2, 1 << 8, 1 << 32, 1 << 63, math.MaxUint64} {
				g := copied
				*x.of(&g) += add
				checkSame(t, f, g, false)
			}
		}
		for _, turn := range []func(g *F){
			func(g *F) { g.Fin = !g.Fin },
			func(g *F) { g.Data += "x" },
			func(g *F) { g.Cid += "x" },
			func(g *F) { g.Token += "x" },
			func(g *F) { g.Data += "\x00" },
			func(g *F) { g.Set = append(slices.Clone(g.Set), R{Lo: 9, Hi: 9}) },
		} {
			g := copied
			turn(&g)
			checkSame(t, f, g, false)
		}
	}
	// What one field has is not what another one has.
	l := fields()
	for i, x := range l {
		for _, y := range l[i+1:] {
			var a, b F
			*x.of(&a), *y.of(&b) = 5, 5
			checkSame(t, a, b, false)
		}
	}
	checkSame(t, F{Data: "a"}, F{Cid: "a"}, false)
	checkSame(t, F{Cid: "a"}, F{Token: "a"}, false)
	checkSame(t, F{Data: "a", Cid: "b"}, F{Data: "ab"}, false)
}

func TestSameOfSets(t *testing.T) {
	checkSame(t, F{}, F{Set: S{}}, true)
	base := set(1, 2, 4, 5, 7, 9)
	for i := range base {
		lo, hi := slices.Clone(base), slices.Clone(base)
		lo[i].Lo++
		hi[i].Hi++
		checkSame(t, F{Kind: 2, Set: base}, F{Kind: 2, Set: lo}, false)
		checkSame(t, F{Kind: 2, Set: base}, F{Kind: 2, Set: hi}, false)
		checkSame(t, F{Kind: 2, Set: base}, F{Kind: 2, Set: base[:i]}, false)
		checkSame(t, F{Kind: 2, Set: base}, F{Kind: 2, Set: base[i+1:]}, false)
	}
	checkSame(t, F{Kind: 2, Set: base}, F{Kind: 2, Set: slices.Clone(base)}, true)
	checkSame(t, F{Set: set(1, 2, 4, 5)}, F{Set: set(4, 5, 1, 2)}, false)
	// Range by range, not number by number.
	checkSame(t, F{Set: set(1, 3)}, F{Set: set(1, 2, 3, 3)}, false)
	checkSame(t, F{Set: set(2, 1)}, F{Set: set(3, 1)}, false)
}

// P6.5

// strewn tells numbers by a fixed rule.
type strewn uint64

func (x *strewn) below(n int) int {
	*x = *x*6364136223846793005 + 1442695040888963407
	return int(uint64(*x) >> 33 % uint64(n))
}

func (x *strewn) text(n int) string {
	b := make([]byte, n)
	for i := range b {
		b[i] = byte(x.below(256))
	}
	return string(b)
}

// number is as great as any varint, or far less.
func (x *strewn) number() uint64 {
	return (uint64(x.below(1<<31))<<31 ^ uint64(x.below(1<<31))) >> x.below(62)
}

func (x *strewn) set() S {
	var s S
	at := uint64(0)
	for range 1 + x.below(1+x.below(api.MaxRanges)) {
		lo := at + uint64(x.below(1<<x.below(24)))
		hi := lo + uint64(x.below(1<<x.below(24)))
		s = append(s, R{Lo: lo, Hi: hi})
		at = hi + 2
	}
	return s
}

// frame tells one that may be, of any kind.
func (x *strewn) frame() F {
	k := kinds()[x.below(len(kinds()))]
	f := F{Kind: k.number}
	for _, p := range fields() {
		if k.hasPart(p.name) {
			*p.of(&f) = x.number()
		}
	}
	switch k.number {
	case 0x12, 0x13, 0x16, 0x17:
		f.Max = min(f.Max, mostStreams)
	case 0x18:
		f.Prior, f.Cid, f.Token = min(f.Prior, f.Seq), x.text(8), x.text(16)
	case 0x1a, 0x1b:
		f.Token = x.text(8)
	case 2:
		f.Set = x.set()
	}
	if k.hasPart("Data") {
		f.Data = x.text(x.below(1 + x.below(1201)))
		f.Off = min(f.Off, mostOfAny-uint64(len(f.Data)))
	}
	f.Fin = k.hasPart("Fin") && x.below(2) == 0
	return f
}

func TestWhatIsPutIsGotBack(t *testing.T) {
	x := strewn(6)
	for range 30000 {
		f, tail := x.frame(), x.text(x.below(20))
		s, e := frame.Put(f)
		if e != api.OK || !frame.May(f) {
			t.Fatalf("Put(%s) = %d", show(f), e)
		}
		if s != reckonedPut(f) {
			t.Fatalf("Put(%s) = %x", show(f), s)
		}
		got, rest, e := frame.Get(s + tail)
		if !same(got, f) || !frame.Same(got, f) || rest != tail || e != api.OK {
			t.Fatalf("%s came back as %s %x %d", show(f), show(got), rest, e)
		}
	}
}

func TestAllThatIsPutIsGotBack(t *testing.T) {
	x := strewn(66)
	for range 2000 {
		s := ""
		var want []F
		for range 1 + x.below(api.MaxFrames) {
			f := x.frame()
			told, _ := frame.Put(f)
			s += told
			if f.Kind != frame.Padding {
				want = append(want, f)
			}
		}
		checkAll(t, s, want...)
		if t.Failed() {
			return
		}
	}
}

func TestAllFormsAreGotBack(t *testing.T) {
	for _, x := range forms() {
		s, e := frame.Put(x.f)
		if e != api.OK {
			t.Fatal(e)
		}
		for _, tail := range tails() {
			checkGet(t, s+tail, x.f, tail)
		}
	}
}

// reckonedPut tells the bytes of a frame that may be, kind by kind.
func reckonedPut(f F) string {
	s := string([]byte{byte(f.Kind)})
	data := num(uint64(len(f.Data))) + f.Data
	switch f.Kind {
	case frame.Ack:
		last := f.Set[len(f.Set)-1]
		s += nums(last.Hi, f.Delay, uint64(len(f.Set)-1), last.Hi-last.Lo)
		for i := len(f.Set) - 2; i >= 0; i-- {
			between := f.Set[i+1].Lo - f.Set[i].Hi - 1
			s += nums(between-1, f.Set[i].Hi-f.Set[i].Lo)
		}
	case frame.Reset:
		s += nums(f.Id, f.Code, f.Max)
	case frame.Stop:
		s += nums(f.Id, f.Code)
	case frame.Crypto:
		s += num(f.Off) + data
	case frame.Stream:
		switch {
		case f.Off == 0 && !f.Fin:
			s = "\x0a" + num(f.Id) + data
		case f.Off == 0:
			s = "\x0b" + num(f.Id) + data
		case !f.Fin:
			s = "\x0e" + nums(f.Id, f.Off) + data
		default:
			s = "\x0f" + nums(f.Id, f.Off) + data
		}
	case frame.MaxData, frame.MaxBidi, frame.MaxUni, frame.DataBlocked, frame.BidiBlocked, frame.UniBlocked:
		s += num(f.Max)
	case frame.MaxStream, frame.StreamBlocked:
		s += nums(f.Id, f.Max)
	case frame.NewId:
		s += nums(f.Seq, f.Prior) + "\x08" + f.Cid + f.Token
	case frame.RetireId:
		s += num(f.Seq)
	case frame.Challenge, frame.Response:
		s += f.Token
	case frame.Close:
		s += nums(f.Code, f.Delay) + data
	case frame.AppClose:
		s += num(f.Code) + data
	}
	return s
}

// reckoner reads a frame by places in the text, for Get to be held against.
type reckoner struct {
	s    string
	at   int
	fine bool
}

func (r *reckoner) bytes(n uint64) string {
	if !r.fine || n > uint64(len(r.s)-r.at) {
		r.fine = false
		return ""
	}
	r.at += int(n)
	return r.s[r.at-int(n) : r.at]
}

func (r *reckoner) num() uint64 {
	if !r.fine || r.at >= len(r.s) {
		r.fine = false
		return 0
	}
	b := r.bytes(1 << (r.s[r.at] / 64))
	if b == "" {
		return 0
	}
	n := uint64(b[0] % 64)
	for i := 1; i < len(b); i++ {
		n = n*256 + uint64(b[i])
	}
	return n
}

func (r *reckoner) data() string {
	s := r.bytes(r.num())
	if len(s) > 1200 {
		r.fine = false
	}
	return s
}

func (r *reckoner) must(ok bool) {
	r.fine = r.fine && ok
}

// ranges reads those of an Ack, of which the last one ends at top.
func (r *reckoner) ranges(top uint64) S {
	var s S
	many := r.num() + 1
	r.must(many <= 32)
	for i := uint64(0); r.fine && i < many; i++ {
		if i > 0 {
			gap := r.num() + 1
			// The range ahead ends below all of the gap's numbers.
			r.must(gap < s[0].Lo)
			top = s[0].Lo - gap - 1
		}
		more := r.num()
		r.must(more <= top)
		s = slices.Insert(s, 0, R{Lo: top - more, Hi: top})
	}
	return s
}

// reckonedGet tells the frame, how many bytes it has, and whether there is one.
func reckonedGet(s string) (F, int, bool) {
	if s == "" {
		return F{}, 0, false
	}
	r := &reckoner{s, 1, true}
	f := F{Kind: uint64(s[0])}
	switch f.Kind {
	case 0, 1, 0x1e:
	case 2:
		top := r.num()
		f.Delay = r.num()
		f.Set = r.ranges(top)
	case 4:
		f.Id, f.Code, f.Max = r.num(), r.num(), r.num()
	case 5:
		f.Id, f.Code = r.num(), r.num()
	case 6:
		f.Off = r.num()
		f.Data = r.data()
		r.must(f.Off+uint64(len(f.Data)) <= mostOfAny)
	case 8, 9, 10, 11, 12, 13, 14, 15:
		f.Fin, f.Kind = f.Kind%2 == 1, 8
		f.Id = r.num()
		if s[0] >= 12 {
			f.Off = r.num()
		}
		if s[0]&2 != 0 {
			f.Data = r.data()
		} else {
			f.Data = r.bytes(uint64(len(r.s) - r.at))
		}
		r.must(len(f.Data) <= 1200 && f.Off+uint64(len(f.Data)) <= mostOfAny)
	case 0x10, 0x14:
		f.Max = r.num()
	case 0x12, 0x13, 0x16, 0x17:
		f.Max = r.num()
		r.must(f.Max <= 1<<60)
	case 0x11, 0x15:
		f.Id, f.Max = r.num(), r.num()
	case 0x18:
		f.Seq, f.Prior = r.num(), r.num()
		r.must(r.bytes(1) == "\x08" && f.Prior <= f.Seq)
		f.Cid, f.Token = r.bytes(8), r.bytes(16)
	case 0x19:
		f.Seq = r.num()
	case 0x1a, 0x1b:
		f.Token = r.bytes(8)
	case 0x1c:
		f.Code, f.Delay = r.num(), r.num()
		f.Data = r.data()
	case 0x1d:
		f.Code = r.num()
		f.Data = r.data()
	default:
		r.fine = false
	}
	return f, r.at, r.fine
}

func checkReckoned(t *testing.T, s string) bool {
	t.Helper()
	f, n, ok := reckonedGet(s)
	if ok {
		checkGet(t, s, f, s[n:])
	} else {
		checkWrong(t, s)
	}
	return ok
}

func TestEachByteIsAny(t *testing.T) {
	for _, x := range forms() {
		for _, wide := range []int{1, 2} {
			s := x.told(wide)
			for place := range min(len(s), 40) {
				for value := range 256 {
					b := []byte(s + "\x05\x00\x40")
					b[place] = byte(value)
					checkReckoned(t, string(b))
				}
				if t.Failed() {
					return
				}
			}
		}
	}
}

func TestTextsOfAnyBytes(t *testing.T) {
	x := strewn(666)
	good := 0
	for range 60000 {
		s := x.text(x.below(1 + x.below(60)))
		if s != "" && x.below(4) > 0 {
			s = string([]byte{byte(x.below(32))}) + s
		}
		// Bytes that are small lead further in.
		if x.below(2) == 0 {
			b := []byte(s)
			for i := range b {
				b[i] %= 32
			}
			s = string(b)
		}
		if checkReckoned(t, s) {
			good++
		}
		if t.Failed() {
			return
		}
	}
	if good < 10000 || good > 55000 {
		t.Errorf("%d texts of 60000 begin by a frame: the rule strews badly", good)
	}
}

func TestShortTextsOfAnyBytes(t *testing.T) {
	for a := range 256 {
		checkReckoned(t, string([]byte{byte(a)}))
		for b := range 256 {
			checkReckoned(t, string([]byte{byte(a), byte(b)}))
			for _, c := range []byte{0, 1, 2, 8, 63, 64, 128, 192, 255} {
				checkReckoned(t, string([]byte{byte(a), byte(b), c}))
			}
		}
		if t.Failed() {
			return
		}
	}
}

// All, held against a reckoning frame by frame.
func TestAllOfTextsOfAnyBytes(t *testing.T) {
	x := strewn(6666)
	good := 0
	for range 20000 {
		s := ""
		for range x.below(50) {
			piece, _ := frame.Put(x.frame())
			if len(piece) > 60 {
				continue
			}
			s += piece
		}
		if x.below(3) == 0 {
			s = s[:x.below(len(s)+1)] + x.text(x.below(3))
		}
		var want []F
		fine := s != ""
		for left := s; fine && left != ""; {
			f, n, ok := reckonedGet(left)
			fine = ok
			left = left[n:]
			if f.Kind != 0 {
				want = append(want, f)
			}
		}
		if fine && len(want) <= 40 {
			good++
			checkAll(t, s, want...)
		} else {
			checkAllWrong(t, s)
		}
		if t.Failed() {
			return
		}
	}
	if good < 5000 || good > 19000 {
		t.Errorf("%d texts of 20000 are frames: the rule strews badly", good)
	}
}

// R4, R5

func TestWhatIsHandedInIsNotChanged(t *testing.T) {
	f := F{Kind: frame.Ack, Set: set(1, 3, 6, 6, 9, 12)}
	g := f
	g.Set = slices.Clone(f.Set)
	for range 2 {
		frame.May(f)
		frame.Put(f)
		frame.Same(f, g)
		frame.Elicits(f)
	}
	if !same(f, g) {
		t.Errorf("%s became %s", show(g), show(f))
	}
}

func TestWritingOverAnAnswerChangesNothing(t *testing.T) {
	s := "\x02\x06\x00\x01\x00\x01\x02"
	want := F{Kind: frame.Ack, Set: set(1, 3, 6, 6)}
	f, _, _ := frame.Get(s)
	f.Set[0], f.Set[1] = R{Lo: 7, Hi: 7}, R{Lo: 8, Hi: 8}
	checkGet(t, s, want, "")
	l, _ := frame.All(s + s)
	l[0].Set[0] = R{Lo: 9, Hi: 9}
	if !same(l[1], want) {
		t.Errorf("the second one became %s", show(l[1]))
	}
	l[1].Set[1] = R{Lo: 5, Hi: 5}
	checkAll(t, s+s, want, want)
}
