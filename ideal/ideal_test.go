package ideal_test

import (
	"encoding/binary"
	"fmt"
	"math"
	"math/big"
	"math/bits"
	"slices"
	"strings"
	"sync"
	"testing"

	"domino/api"
	"domino/ideal"
)

// cid is the connection ID of what is sealed as usual.
const cid = "abcdefgh"

// highest is the last number there is.
const highest = math.MaxUint64

// The numbers that the chapter names, in Mix.
const (
	added  = 0x9e3779b97f4a7c15
	first  = 0xbf58476d1ce4e5b9
	second = 0x94d049bb133111eb
)

// ends are the sides that seal and open, and numbers of sides that there are not.
var ends = []int{math.MinInt, -1, 0, 1, 2, math.MaxInt}

// strewn tells so many bytes by a fixed rule; each seed has its own.
func strewn(seed uint64, many int) string {
	x := seed*0x9e3779b97f4a7c15 + 1
	b := make([]byte, many)
	for i := range b {
		x = x*6364136223846793005 + 1442695040888963407
		b[i] = byte(x >> 56)
	}
	return string(b)
}

// eight tells a number's bytes, by the library.
func eight(n uint64) string {
	return string(binary.BigEndian.AppendUint64(nil, n))
}

// number tells that of eight bytes, by the library.
func number(s string) uint64 {
	return binary.BigEndian.Uint64([]byte(s))
}

// secondMix is a second reckoning of Mix, by whole numbers of any size.
func secondMix(n uint64) uint64 {
	whole := func(n uint64) *big.Int { return new(big.Int).SetUint64(n) }
	two := func(power uint) *big.Int { return new(big.Int).Lsh(big.NewInt(1), power) }
	cut := func(z *big.Int) *big.Int { return z.Mod(z, two(64)) }
	onto := func(z *big.Int, power uint) *big.Int {
		return new(big.Int).Xor(z, new(big.Int).Div(z, two(power)))
	}
	z := whole(n)
	z = cut(z.Add(z, whole(added)))
	z = cut(new(big.Int).Mul(onto(z, 30), whole(first)))
	z = cut(new(big.Int).Mul(onto(z, 27), whole(second)))
	return onto(z, 31).Uint64()
}

// inverse tells what an odd number is multiplied by for 1.
func inverse(n uint64) uint64 {
	x := n
	for range 6 {
		x *= 2 - n*x
	}
	return x
}

// off takes off again what was laid on z.
func off(z uint64, by int) uint64 {
	out := z
	for range 64 / by {
		out = z ^ out>>by
	}
	return out
}

// unmixed tells the number that Mix tells z of.
func unmixed(z uint64) uint64 {
	z = off(z, 31) * inverse(second)
	z = off(z, 27) * inverse(first)
	return off(z, 30) - added
}

// secondDraw is a second reckoning of Draw.
func secondDraw(seed, index uint64, n int) string {
	return secondDrawBy(secondMix(secondMix(seed)+index), n)
}

// secondDrawBy is what is drawn of a BASE.
func secondDrawBy(base uint64, n int) string {
	var b []byte
	for k := uint64(0); len(b) < n; k++ {
		b = binary.BigEndian.AppendUint64(b, secondMix(base+k))
	}
	return string(b[:max(n, 0)])
}

// secondId is a second reckoning of Id.
func secondId(seed, index uint64) string {
	return eight(secondMix(seed + index + 1<<63))
}

// seeds are numbers at the edges, and some between; they are indices too.
func seeds() []uint64 {
	l := []uint64{0, 1, 2, 7, 1000, 1 << 32, 1 << 40, 1 << 50, 1<<63 - 1, 1 << 63, 1<<63 + 1, highest - 1, highest}
	for i := range uint64(6) {
		l = append(l, number(strewn(i, 8)))
	}
	return l
}

// said is what Open tells.
type said struct {
	num   uint64
	plain string
	ok    bool
}

// open tells it as one.
func open(b ideal.Box, to int, bytes string) said {
	num, plain, ok := ideal.Open(b, to, bytes)
	return said{num, plain, ok}
}

// same tells whether two boxes are alike; lists without entries are, and nil ones.
func same(a, b ideal.Box) bool {
	return a.Seed == b.Seed && a.Next == b.Next && slices.Equal(a.L, b.L)
}

// filled tells a box with so many entries of both sides, and their bytes.
func filled(seed uint64, many int) (ideal.Box, []string) {
	b := ideal.New(seed)
	var l []string
	for i := range many {
		var bytes string
		b, bytes = ideal.Seal(b, i%2, uint64(i), cid, fmt.Sprint("plain text ", i))
		l = append(l, bytes)
	}
	return b, l
}

// turned tells s with one bit turned.
func turned(s string, bit int) string {
	b := []byte(s)
	b[bit/8] ^= 1 << (bit % 8)
	return string(b)
}

// The chapter's example.
func TestTheExample(t *testing.T) {
	if _, s := ideal.Seal(ideal.New(1), 0, 0, cid, "plain text"); len(s) != 39 {
		t.Errorf("%d bytes, not 39", len(s))
	}
}

// P10.1

// What SplitMix64 tells of the seeds 0 and 1234567 is published: its numbers are Mix of the seed, and of so much more each time.
func TestPublishedIds(t *testing.T) {
	for seed, l := range map[uint64][]uint64{
		0:       {0xe220a8397b1dcdaf, 0x6e789e6aa1b965f4, 0x06c45d188009454f, 0xf88bb8a8724c81ec, 0x1b39896a51a8749b},
		1234567: {6457827717110365317, 3203168211198807973, 9817491932198370423, 4593380528125082431, 16408922859458223821},
	} {
		for i, want := range l {
			z := seed + uint64(i)*added
			if s := ideal.Id(z, 1<<63); s != eight(want) {
				t.Errorf("Id of %d, 2^63: %x, not %x", z, s, want)
			}
			if s := ideal.Id(1<<63, z); s != eight(want) {
				t.Errorf("Id of 2^63, %d: %x, not %x", z, s, want)
			}
		}
	}
}

func TestIds(t *testing.T) {
	for _, seed := range seeds() {
		for _, index := range seeds() {
			if s := ideal.Id(seed, index); s != secondId(seed, index) {
				t.Errorf("Id of %d, %d: %x, not %x", seed, index, s, secondId(seed, index))
			}
		}
	}
}

// What is greater than 2^64 - 1 goes round: Mix of 0, and of what is next to it, comes of any two numbers.
func TestIdsGoRound(t *testing.T) {
	for _, x := range []struct{ seed, index, z uint64 }{
		{1 << 63, 0, 0}, {0, 1 << 63, 0}, {1<<63 - 1, 1, 0}, {1, 1<<63 - 1, 0}, {highest, 1<<63 + 1, 0},
		{1<<63 - 1, 0, highest}, {0, 1<<63 - 1, highest}, {highest, 1 << 63, highest}, {highest, highest, 1<<63 - 2},
		{0, 0, 1 << 63}, {highest, 1, 1 << 63}, {1 << 63, 1 << 63, 1 << 63}, {highest, 2, 1<<63 + 1},
	} {
		if s := ideal.Id(x.seed, x.index); s != eight(secondMix(x.z)) {
			t.Errorf("Id of %d, %d: %x, which is not Mix of %d", x.seed, x.index, s, x.z)
		}
	}
}

func TestIdsHaveEightBytes(t *testing.T) {
	// Mix of this one is 1: bytes 0 stand ahead of it.
	if s := ideal.Id(unmixed(1), 1<<63); s != "\x00\x00\x00\x00\x00\x00\x00\x01" {
		t.Errorf("%x", s)
	}
	if s := ideal.Id(unmixed(0), 1<<63); s != "\x00\x00\x00\x00\x00\x00\x00\x00" {
		t.Errorf("%x", s)
	}
	if s := ideal.Id(unmixed(0x0102030405060708), 1<<63); s != "\x01\x02\x03\x04\x05\x06\x07\x08" {
		t.Errorf("%x", s)
	}
}

func TestDraws(t *testing.T) {
	for _, seed := range seeds() {
		for _, index := range seeds() {
			for _, n := range []int{0, 1, 7, 8, 9, 15, 16, 17, 24, 30, 100} {
				if s := ideal.Draw(seed, index, n); s != secondDraw(seed, index, n) || len(s) != n {
					t.Errorf("Draw of %d, %d, %d: %x, not %x", seed, index, n, s, secondDraw(seed, index, n))
				}
			}
		}
	}
}

// Written out: Mix of Mix of 0 is a706dd2f4d197e6f, and what is drawn is Mix of it and of those behind it.
func TestDrawsWrittenOut(t *testing.T) {
	if secondMix(secondMix(0)) != 0xa706dd2f4d197e6f {
		t.Fatalf("%x", secondMix(secondMix(0)))
	}
	whole := eight(secondMix(0xa706dd2f4d197e6f)) + eight(secondMix(0xa706dd2f4d197e70)) + eight(secondMix(0xa706dd2f4d197e71))
	for _, n := range []int{0, 1, 7, 8, 9, 16, 17, 23, 24} {
		if s := ideal.Draw(0, 0, n); s != whole[:n] {
			t.Errorf("of %d: %x, not %x", n, s, whole[:n])
		}
	}
}

// Written out, with an index: the seed alone is mixed first, and then its sum with the index.
func TestDrawsOfAnIndexWrittenOut(t *testing.T) {
	for _, x := range []struct {
		seed, index uint64
		want        string
	}{
		{0, 0, "238275bc38fcbe91421daf3033e887a3"},
		{0, 1, "94926c2e801cb6f9ac1a201f5ae37988"},
		{1, 0, "b18a02f46d8d86c36c5795e14b3b7e33"},
		{1, 1, "d5159b73432a27957970e130d0c7742f"},
		{7, 0, "9c01479161bc5d78199ec517d2809b60"},
		{6, 1, "555b48ec0db76c4a1483223a81715aa9"},
		{1 << 63, 1 << 63, "085b3419b15de42ab77fa404558f81c7"},
		{highest, 1, "7548d87b9104c1d5439d351c3f034c15"},
	} {
		if s := fmt.Sprintf("%x", ideal.Draw(x.seed, x.index, 16)); s != x.want {
			t.Errorf("Draw of %d, %d: %s, not %s", x.seed, x.index, s, x.want)
		}
	}
}

// Seed and index are not one number: what is drawn of neither is that of another seed at another index.
func TestDrawsOfSeedsNextToEachOtherAreUnlike(t *testing.T) {
	seen := map[string][2]uint64{}
	// The second ones go round, from the last seeds to 0 and those behind it.
	for _, from := range []uint64{1<<63 - 60, highest - 60} {
		for seed := from; seed != from+120; seed++ {
			for index := range uint64(60) {
				s := ideal.Draw(seed, index, 8)
				if other, has := seen[s]; has {
					t.Fatalf("Draw of %d, %d as of %d: %x", seed, index, other, s)
				}
				seen[s] = [2]uint64{seed, index}
			}
		}
	}
}

func TestDrawsOfNoBytes(t *testing.T) {
	for _, n := range []int{0, -1, -2, -7, -8, -9, -1000, math.MinInt32, math.MinInt + 1, math.MinInt} {
		for _, seed := range seeds() {
			if s := ideal.Draw(seed, 5, n); s != "" {
				t.Errorf("Draw of %d, 5, %d: %x", seed, n, s)
			}
		}
	}
}

func TestDrawsOfEachLength(t *testing.T) {
	whole := secondDraw(5, 6, 2000)
	for n := range len(whole) + 1 {
		if s := ideal.Draw(5, 6, n); s != whole[:n] {
			t.Fatalf("of %d: it has %d bytes, or does not begin the longer draw", n, len(s))
		}
	}
}

// A longer draw begins by a shorter one.
func TestDrawsBeginAlike(t *testing.T) {
	for _, seed := range seeds() {
		longer := ideal.Draw(seed, 3, 40)
		for n := range 40 {
			if s := ideal.Draw(seed, 3, n); !strings.HasPrefix(longer, s) || len(s) != n {
				t.Errorf("Draw of %d, 3: %x of %d, %x of 40", seed, s, n, longer)
			}
		}
	}
}

// Mix of the seed, and the index: their sum goes round, whichever of them is the greater one.
func TestDrawsGoRound(t *testing.T) {
	for _, x := range []struct{ mixed, index, sum uint64 }{
		{highest, 1, 0}, {1, highest, 0}, {1 << 63, 1 << 63, 0}, {highest, 0, highest}, {0, highest, highest},
		{highest, highest, highest - 1}, {highest, 8, 7}, {8, highest, 7}, {1 << 63, highest, 1<<63 - 1},
	} {
		seed := unmixed(x.mixed)
		if secondMix(seed) != x.mixed {
			t.Fatalf("Mix of %d is not %d", seed, x.mixed)
		}
		if s, want := ideal.Draw(seed, x.index, 20), secondDrawBy(secondMix(x.sum), 20); s != want {
			t.Errorf("Draw of %d (mixed %d), %d: %x, not %x", seed, x.mixed, x.index, s, want)
		}
	}
}

// A seed and an index whose own sum goes round are not those of the sum that is left: it is not their sum that is taken.
func TestDrawsAreNotOfTheSumOfSeedAndIndex(t *testing.T) {
	for _, x := range []struct{ seed, index, sum uint64 }{
		{highest, 1, 0}, {1, highest, 0}, {1 << 63, 1 << 63, 0}, {highest, highest, highest - 1}, {highest, 8, 7},
		{0, 1, 1}, {6, 1, 7}, {3, 4, 7}, {0, 1 << 50, 1 << 50},
	} {
		s := ideal.Draw(x.seed, x.index, 16)
		if s == ideal.Draw(x.sum, 0, 16) {
			t.Errorf("Draw of %d, %d is that of %d, 0: %x", x.seed, x.index, x.sum, s)
		}
		if x.seed != x.index && s == ideal.Draw(x.index, x.seed, 16) {
			t.Errorf("Draw of %d, %d is that of them the other way round: %x", x.seed, x.index, s)
		}
	}
}

// The number behind 2^64 - 1 that is drawn of is 0.
func TestDrawsOfTheLastBase(t *testing.T) {
	want := eight(0xe4d971771b652c20) + eight(0xe220a8397b1dcdaf) + eight(secondMix(1))
	if secondMix(highest) != 0xe4d971771b652c20 {
		t.Fatalf("%x", secondMix(highest))
	}
	sum := unmixed(highest)
	for _, index := range []uint64{0, 1, sum, sum + 1, 1 << 63, highest} {
		if s := ideal.Draw(unmixed(sum-index), index, 24); s != want {
			t.Errorf("at %d: %x, not %x", index, s, want)
		}
	}
}

// P10.2

func TestNew(t *testing.T) {
	for _, seed := range seeds() {
		if b := ideal.New(seed); b.Seed != seed || b.Next != 0 || len(b.L) != 0 {
			t.Errorf("of %d: %#v", seed, b)
		}
	}
}

func TestSeal(t *testing.T) {
	for _, seed := range []uint64{0, 1, 1 << 63, highest} {
		for _, from := range ends {
			for _, num := range []uint64{0, 1, api.MaxNumber, highest} {
				b, want := ideal.New(seed), ideal.Box{Seed: seed}
				for i, to := range []string{"", "a", "abcdefg", cid, "abcdefghi", strewn(1, 100)} {
					for k, plain := range []string{"", "p", "plain text", strewn(2, 1200), strewn(3, 2000)} {
						next := uint64(5*i + k)
						var s string
						b, s = ideal.Seal(b, from, num, to, plain)
						bytes := "@" + to + secondDraw(seed, next, len(plain)+20)
						want.Next = next + 1
						want.L = append(want.L, ideal.Entry{From: from, Num: num, Bytes: bytes, Plain: plain})
						if s != bytes || !same(b, want) {
							t.Fatalf("Seal of seed %d, by %d, of %d, to %q, of %d bytes: %x", seed, from, num, to, len(plain), s)
						}
					}
				}
			}
		}
	}
}

// Written out: what a box of the seed 0 seals second is drawn of 0 and 1.
func TestTheSecondThatIsSealed(t *testing.T) {
	b, s := ideal.Seal(ideal.New(0), 0, 0, cid, "")
	if x := fmt.Sprintf("%x", s[9:25]); x != "238275bc38fcbe91421daf3033e887a3" {
		t.Errorf("the first one: %s", x)
	}
	_, s = ideal.Seal(b, 0, 0, cid, "")
	if x := fmt.Sprintf("%x", s[9:25]); x != "94926c2e801cb6f9ac1a201f5ae37988" || s[9:] != ideal.Draw(0, 1, 20) {
		t.Errorf("the second one: %s", x)
	}
}

// The first byte is that of a short header, whatever is behind it.
func TestWhatIsSealedBeginsBy64(t *testing.T) {
	for _, to := range []string{"", "\x00", "\xff", "abcdefg", cid, "abcdefghi"} {
		if _, s := ideal.Seal(ideal.New(9), 1, 2, to, "plain"); s[0] != 64 || s[1:1+len(to)] != to {
			t.Errorf("to %q: %x", to, s)
		}
	}
}

// Bytes hang on the seed, on how many were sealed, on the ID, and on how long the plain text is: on nothing else.
func TestBytesHideThePlainText(t *testing.T) {
	b, _ := filled(4, 3)
	_, want := ideal.Seal(b, 0, 0, cid, "plain text")
	for _, plain := range []string{"other text", strewn(1, 10), strings.Repeat("\x00", 10), strings.Repeat("\xff", 10)} {
		for _, from := range ends {
			for _, num := range []uint64{0, 5, highest} {
				if _, s := ideal.Seal(b, from, num, cid, plain); s != want {
					t.Errorf("by %d, of %d, of %q: %x, not %x", from, num, plain, s, want)
				}
			}
		}
	}
}

func TestTheLastNextGoesRound(t *testing.T) {
	b, s := ideal.Seal(ideal.Box{Seed: 1, Next: highest}, 0, 3, cid, "plain text")
	if want := "@" + cid + secondDraw(1, highest, 30); s != want || b.Next != 0 {
		t.Errorf("%x, not %x; Next is %d", s, want, b.Next)
	}
	if x := open(b, 1, s); x != (said{3, "plain text", true}) {
		t.Errorf("%#v", x)
	}
	if _, other := ideal.Seal(b, 0, 3, cid, "plain text"); other != "@"+cid+secondDraw(1, 0, 30) {
		t.Errorf("behind it: %x", other)
	}
}

// Seal goes on by the Next that a box has, however many entries there are.
func TestSealByNext(t *testing.T) {
	b, _ := filled(4, 3)
	for _, next := range []uint64{0, 2, 3, 100, 1 << 40} {
		b.Next = next
		after, s := ideal.Seal(b, 0, 7, cid, "plain")
		if s != "@"+cid+secondDraw(4, next, 25) || after.Next != next+1 || len(after.L) != 4 {
			t.Errorf("Next %d: %x, then %d, and %d entries", next, s, after.Next, len(after.L))
		}
	}
}

func TestOpenByTheOther(t *testing.T) {
	b, l := filled(6, 20)
	for i, s := range l {
		want := said{uint64(i), fmt.Sprint("plain text ", i), true}
		for _, to := range ends {
			x := open(b, to, s)
			if to == i%2 && x != (said{}) {
				t.Errorf("%d by who sealed it: %#v", i, x)
			}
			if to != i%2 && x != want {
				t.Errorf("%d by %d: %#v, not %#v", i, to, x, want)
			}
		}
	}
}

// Number 0 and an empty text are told with true: they are not nothing.
func TestOpenOfLittle(t *testing.T) {
	for _, num := range []uint64{0, highest} {
		for _, to := range []string{"", "abcdefg", cid, "abcdefghi"} {
			for _, plain := range []string{"", "\x00", "plain text"} {
				b, s := ideal.Seal(ideal.New(2), 1, num, to, plain)
				if x := open(b, 0, s); x != (said{num, plain, true}) {
					t.Errorf("of %d, to %q, of %q: %#v", num, to, plain, x)
				}
				if x := open(b, 1, s); x != (said{}) {
					t.Errorf("of %d, to %q, of %q, by who sealed it: %#v", num, to, plain, x)
				}
			}
		}
	}
}

// alike is a box in which four entries have the same bytes.
func alike() (ideal.Box, string) {
	b := ideal.New(3)
	var s string
	for i, from := range []int{0, 0, 1, 2} {
		b.Next = 5
		b, s = ideal.Seal(b, from, uint64(10+i), cid, fmt.Sprint("plain text ", i))
	}
	return b, s
}

func TestOpenOfTheFirstOfTwoAlike(t *testing.T) {
	b, s := alike()
	for i, e := range b.L {
		if e.Bytes != s {
			t.Fatalf("%d: the bytes are not alike", i)
		}
	}
	for to, want := range map[int]said{
		0: {12, "plain text 2", true},
		1: {10, "plain text 0", true},
		2: {10, "plain text 0", true},
		3: {10, "plain text 0", true},
	} {
		if x := open(b, to, s); x != want {
			t.Errorf("by %d: %#v, not %#v", to, x, want)
		}
	}
	b.L = b.L[:2]
	if x := open(b, 0, s); x != (said{}) {
		t.Errorf("both by who opens them: %#v", x)
	}
}

func TestOpenOfWhatNobodySealed(t *testing.T) {
	b, l := filled(6, 4)
	_, next := ideal.Seal(b, 0, 9, cid, "plain text 4")
	bytes := []string{"", "\x40", "\x40" + cid, cid, "plain text 0", next, strewn(1, 41)}
	for _, seed := range []uint64{5, 7, 1 << 40} {
		_, other := filled(seed, 6)
		bytes = append(bytes, other...)
	}
	for _, s := range l {
		bytes = append(bytes, s[1:], s[:len(s)-1], s+"\x00", "\x00"+s, s+s, s+l[0])
	}
	for _, s := range bytes {
		for _, to := range ends {
			if x := open(b, to, s); x != (said{}) {
				t.Errorf("%x by %d: %#v", s, to, x)
			}
			if x := open(ideal.New(6), to, s); x != (said{}) {
				t.Errorf("%x by %d, of a new box: %#v", s, to, x)
			}
		}
	}
}

func TestOpenOfWhatWasChanged(t *testing.T) {
	b, l := filled(6, 4)
	for _, s := range l {
		for bit := range 8 * len(s) {
			for _, to := range []int{0, 1, 2} {
				if x := open(b, to, turned(s, bit)); x != (said{}) {
					t.Errorf("bit %d by %d: %#v", bit, to, x)
				}
			}
		}
	}
}

// An entry without bytes, which Seal makes none of, has just the empty ones.
func TestOpenOfEmptyBytes(t *testing.T) {
	b := ideal.Box{L: []ideal.Entry{{From: 1, Num: 4, Bytes: "x", Plain: "a"}, {From: 1, Num: 5, Plain: "b"}}}
	if x := open(b, 0, ""); x != (said{5, "b", true}) {
		t.Errorf("%#v", x)
	}
	if x := open(b, 1, ""); x != (said{}) {
		t.Errorf("by who sealed it: %#v", x)
	}
	if x := open(ideal.Box{}, 0, ""); x != (said{}) {
		t.Errorf("of nothing: %#v", x)
	}
}

func TestCid(t *testing.T) {
	long := "0123456789abcdef"
	for n := range len(long) + 1 {
		want := ""
		if n >= 9 {
			want = "12345678"
		}
		if s := ideal.Cid(long[:n]); s != want {
			t.Errorf("of %d bytes: %q, not %q", n, s, want)
		}
	}
	if s := ideal.Cid(strings.Repeat("\x00", 9)); s != strings.Repeat("\x00", 8) {
		t.Errorf("of bytes 0: %q", s)
	}
	if s := ideal.Cid("\xc0" + cid + strewn(1, 1490)); s != cid {
		t.Errorf("of a long one: %q", s)
	}
}

func TestCidOfWhatIsSealed(t *testing.T) {
	_, s := ideal.Seal(ideal.New(8), 0, 0, cid, "")
	if ideal.Cid(s) != cid {
		t.Errorf("%q", ideal.Cid(s))
	}
	_, s = ideal.Seal(ideal.New(8), 0, 0, "abcdefg", "")
	if ideal.Cid(s) != "abcdefg"+secondDraw(8, 0, 1) {
		t.Errorf("of an ID of seven bytes: %q", ideal.Cid(s))
	}
	_, s = ideal.Seal(ideal.New(8), 0, 0, "", "")
	if ideal.Cid(s) != secondDraw(8, 0, 8) {
		t.Errorf("of no ID: %q", ideal.Cid(s))
	}
	_, s = ideal.Seal(ideal.New(8), 0, 0, "abcdefghi", "")
	if ideal.Cid(s) != cid {
		t.Errorf("of an ID of nine bytes: %q", ideal.Cid(s))
	}
}

// P10.3

// indices are many of one seed: of each bit, about the edges, and from 0 on.
func indices() []uint64 {
	set := map[uint64]bool{}
	for i := range uint64(20000) {
		set[i] = true
	}
	for bit := range 64 {
		for near := range uint64(5) {
			set[1<<bit+near-2] = true
		}
	}
	for i := range uint64(2000) {
		set[number(strewn(i, 8))] = true
	}
	var l []uint64
	for n := range set {
		l = append(l, n)
	}
	slices.Sort(l)
	return l
}

func unlike(t *testing.T, name string, of func(index uint64) string) {
	t.Helper()
	seen := map[string]uint64{}
	for _, index := range indices() {
		s := of(index)
		if other, has := seen[s]; has {
			t.Fatalf("%s: of %d as of %d: %x", name, index, other, s)
		}
		seen[s] = index
	}
}

func TestIdsOfOneSeedAreUnlike(t *testing.T) {
	for _, seed := range []uint64{0, 7, 1 << 63, highest} {
		unlike(t, fmt.Sprint("Ids of ", seed), func(index uint64) string { return ideal.Id(seed, index) })
	}
}

func TestDrawsOfOneSeedAreUnlike(t *testing.T) {
	for _, seed := range []uint64{0, 7, 1 << 63, highest} {
		unlike(t, fmt.Sprint("draws of ", seed), func(index uint64) string { return ideal.Draw(seed, index, 8) })
	}
}

// Each one leads back to its index: no two indices can lead to the same.
func TestIdsAndDrawsLeadBack(t *testing.T) {
	for _, seed := range seeds() {
		for _, index := range seeds() {
			if n := unmixed(number(ideal.Id(seed, index))) - seed - 1<<63; n != index {
				t.Errorf("Id of %d, %d leads back to %d", seed, index, n)
			}
			if n := unmixed(unmixed(number(ideal.Draw(seed, index, 8)))) - secondMix(seed); n != index {
				t.Errorf("Draw of %d, %d leads back to %d", seed, index, n)
			}
		}
	}
}

// Some half of all bits are others where the index, or the seed, is one more.
func TestNeighboursAreFarApart(t *testing.T) {
	sum, many := 0, 2000
	for i := range uint64(many) {
		sum += bits.OnesCount64(number(ideal.Id(i, 7)) ^ number(ideal.Id(i, 8)))
		sum += bits.OnesCount64(number(ideal.Draw(7, i, 8)) ^ number(ideal.Draw(8, i, 8)))
	}
	if mean := float64(sum) / float64(2*many); mean < 31 || mean > 33 {
		t.Errorf("%f bits of 64 are others", mean)
	}
}

// All that is in a box is opened by the other one, and what is not in it by nobody.
func TestNobodyOpensWhatWasNotSealed(t *testing.T) {
	b, l := filled(11, 60)
	for n := range l {
		early, sealed := filled(11, n)
		if !slices.Equal(sealed, l[:n]) {
			t.Fatalf("a box of %d has other bytes", n)
		}
		for i, s := range l {
			want := said{}
			if i < n {
				want = said{uint64(i), fmt.Sprint("plain text ", i), true}
			}
			if x := open(early, 1-i%2, s); x != want {
				t.Errorf("%d of a box of %d: %#v, not %#v", i, n, x, want)
			}
		}
	}
	for i := range uint64(500) {
		if x := open(b, int(i%2), "@"+cid+strewn(i, 32)); x != (said{}) {
			t.Errorf("strewn bytes %d: %#v", i, x)
		}
	}
}

func TestTheLengthOfWhatIsSealed(t *testing.T) {
	b := ideal.New(12)
	for n := range 1501 {
		var s string
		b, s = ideal.Seal(b, n%2, uint64(n), ideal.Id(12, uint64(n)), strewn(uint64(n), n))
		if len(s) != n+29 || len(s) != n+api.Header+api.Tag {
			t.Errorf("of %d bytes: %d", n, len(s))
		}
	}
}

// An ID of other than eight bytes counts as it is.
func TestTheLengthByTheId(t *testing.T) {
	for many := range 101 {
		if _, s := ideal.Seal(ideal.New(1), 0, 0, strewn(1, many), "plain text"); len(s) != 1+many+30 {
			t.Errorf("to an ID of %d bytes: %d", many, len(s))
		}
	}
}

// R4

// roomy is a box whose list has room for more: two that seal by it may not write to the same place.
func roomy() ideal.Box {
	b, _ := filled(13, 3)
	b.L = append(make([]ideal.Entry, 0, 20), b.L...)
	return b
}

func TestTheBoxThatIsHandedInStays(t *testing.T) {
	b := roomy()
	want, _ := filled(13, 3)
	one, s := ideal.Seal(b, 0, 1, cid, "one text")
	two, other := ideal.Seal(b, 1, 2, cid, "two text")
	if !same(b, want) {
		t.Errorf("the box is %#v, not %#v", b, want)
	}
	if behind := b.L[:4][3]; behind != (ideal.Entry{}) {
		t.Errorf("behind its list there is %#v", behind)
	}
	if s != other {
		t.Errorf("one box seals to %x, and to %x", s, other)
	}
	if x := open(one, 1, s); x != (said{1, "one text", true}) {
		t.Errorf("by the first one: %#v", x)
	}
	if x := open(two, 0, s); x != (said{2, "two text", true}) {
		t.Errorf("by the second one: %#v", x)
	}
	if x := open(b, 1, s); x != (said{}) {
		t.Errorf("by the box that was handed in: %#v", x)
	}
}

func TestWritingOverWhatWasAnswered(t *testing.T) {
	b := roomy()
	want, _ := filled(13, 3)
	after, _ := ideal.Seal(b, 0, 1, cid, "one text")
	for i := range after.L {
		after.L[i] = ideal.Entry{From: 9}
	}
	if !same(b, want) {
		t.Errorf("the box is %#v, not %#v", b, want)
	}
	after, s := ideal.Seal(b, 0, 1, cid, "one text")
	clear(b.L)
	if x := open(after, 0, want.L[1].Bytes); x != (said{1, "plain text 1", true}) {
		t.Errorf("behind the writing over what was handed in: %#v", x)
	}
	if x := open(after, 1, s); x != (said{1, "one text", true}) {
		t.Errorf("behind the writing over what was handed in: %#v", x)
	}
}

func TestOpenLeavesTheBox(t *testing.T) {
	b, l := filled(14, 5)
	want, _ := filled(14, 5)
	for range 3 {
		for i, s := range l {
			if x := open(b, 1-i%2, s); x != (said{uint64(i), fmt.Sprint("plain text ", i), true}) {
				t.Errorf("%d: %#v", i, x)
			}
			open(b, i%2, s)
			open(b, i%2, "nothing")
		}
	}
	if !same(b, want) {
		t.Errorf("the box is %#v, not %#v", b, want)
	}
}

// R5

func TestCallsHangOnTheirArgumentsAlone(t *testing.T) {
	drawn, id := ideal.Draw(1, 2, 50), ideal.Id(1, 2)
	b, s := ideal.Seal(ideal.New(1), 0, 3, cid, "plain text")
	ideal.Draw(5, 6, 70)
	ideal.Id(5, 6)
	ideal.Seal(b, 1, 4, cid, "other text")
	again, other := ideal.Seal(ideal.New(1), 0, 3, cid, "plain text")
	if ideal.Draw(1, 2, 50) != drawn || ideal.Id(1, 2) != id || other != s || !same(again, b) {
		t.Error("the same calls tell other things")
	}
}

func TestManyCallsAtOnce(t *testing.T) {
	b := roomy()
	var all sync.WaitGroup
	for n := range uint64(16) {
		all.Go(func() {
			plain := strewn(n, 100)
			after, s := ideal.Seal(b, 0, n, cid, plain)
			if x := open(after, 1, s); x != (said{n, plain, true}) || s != "@"+cid+secondDraw(13, 3, 120) {
				t.Errorf("%d: %#v", n, x)
			}
		})
	}
	all.Wait()
}
