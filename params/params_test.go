package params_test

import (
	"math"
	"slices"
	"strings"
	"testing"

	"domino/api"
	"domino/params"
)

type P = params.Params

// one is a parameter that is a number: its number, its usual value, and the least and the greatest one that it may have.
type one struct {
	name               string
	number             byte
	usual, least, most uint64
	of                 func(p *P) *uint64
}

func ones() []one {
	return []one{
		{"Idle", 1, 0, 0, 1<<62 - 1, func(p *P) *uint64 { return &p.Idle }},
		{"Size", 3, 65527, 1200, 1<<62 - 1, func(p *P) *uint64 { return &p.Size }},
		{"Data", 4, 0, 0, 1<<62 - 1, func(p *P) *uint64 { return &p.Data }},
		{"BidiLocal", 5, 0, 0, 1<<62 - 1, func(p *P) *uint64 { return &p.BidiLocal }},
		{"BidiRemote", 6, 0, 0, 1<<62 - 1, func(p *P) *uint64 { return &p.BidiRemote }},
		{"Uni", 7, 0, 0, 1<<62 - 1, func(p *P) *uint64 { return &p.Uni }},
		{"Bidis", 8, 0, 0, 1 << 60, func(p *P) *uint64 { return &p.Bidis }},
		{"Unis", 9, 0, 0, 1 << 60, func(p *P) *uint64 { return &p.Unis }},
		{"Exponent", 10, 3, 0, 20, func(p *P) *uint64 { return &p.Exponent }},
		{"Delay", 11, 25, 0, 1<<14 - 1, func(p *P) *uint64 { return &p.Delay }},
		{"Ids", 14, 2, 2, 1<<62 - 1, func(p *P) *uint64 { return &p.Ids }},
	}
}

const (
	tokenNumber = 2
	tokenLen    = 16
	token       = "0123456789abcdef"
	otherToken  = "\x00\xff\x00\xff\x00\xff\x00\xff\x00\xff\x00\xff\x00\xff\x00\xff"
	mostOfAny   = 1<<62 - 1
)

// strange are numbers of no parameter.
func strange() []uint64 {
	return []uint64{0, 12, 13, 15, 16, 63, 64, 255, 256, 257, 258, 1<<14 - 1, 1 << 14, 1<<30 + 1, 1<<32 + 1, 1<<32 + 2, 1<<61 + 3, mostOfAny - 1, mostOfAny}
}

func usual() P {
	return P{Size: 65527, Exponent: 3, Delay: 25, Ids: 2}
}

// with tells the usual parameters, but for one of them.
func with(x one, n uint64) P {
	p := usual()
	*x.of(&p) = n
	return p
}

func withToken(token string) P {
	p := usual()
	p.Token = token
	return p
}

// inBytes tells the varint of n in so many bytes, which may be more than it needs.
func inBytes(n uint64, wide int) string {
	b := make([]byte, wide)
	for i := range b {
		b[i] = byte(n >> (8 * (wide - 1 - i)))
	}
	b[0] |= map[int]byte{1: 0x00, 2: 0x40, 4: 0x80, 8: 0xc0}[wide]
	return string(b)
}

// needs tells in how many bytes n fits.
func needs(n uint64) int {
	switch {
	case n < 1<<6:
		return 1
	case n < 1<<14:
		return 2
	case n < 1<<30:
		return 4
	}
	return 8
}

// widths are in how many bytes n may be told.
func widths(n uint64) []int {
	return slices.DeleteFunc([]int{1, 2, 4, 8}, func(wide int) bool { return wide < needs(n) })
}

func num(n uint64) string {
	return inBytes(n, needs(n))
}

// pair tells a number, the length of value, and value.
func pair(number uint64, value string) string {
	return num(number) + num(uint64(len(value))) + value
}

func checkCheck(t *testing.T, p P, e api.Errno) {
	t.Helper()
	if got := params.Check(p); got != e {
		t.Errorf("Check(%#v) = %d, not %d", p, got, e)
	}
}

// checkMay holds that p may be, and is put as s.
func checkMay(t *testing.T, p P, s string) {
	t.Helper()
	checkCheck(t, p, api.OK)
	if got, e := params.Put(p); got != s || e != api.OK {
		t.Errorf("Put(%#v) = %x %d, not %x", p, got, e, s)
	}
	checkGet(t, s, p)
}

// checkMayNot holds that p may not be, and is not put.
func checkMayNot(t *testing.T, p P) {
	t.Helper()
	checkCheck(t, p, api.ErrParam)
	if got, e := params.Put(p); got != "" || e != api.ErrParam {
		t.Errorf("Put(%#v) = %x %d", p, got, e)
	}
}

func checkGet(t *testing.T, s string, p P) {
	t.Helper()
	if got, e := params.Get(s); got != p || e != api.OK {
		t.Errorf("Get(%x) = %#v %d, not %#v", s, got, e, p)
	}
}

// checkWrong holds that s tells no parameters, and that nothing stands beside the error.
func checkWrong(t *testing.T, s string) {
	t.Helper()
	if got, e := params.Get(s); got != (P{}) || e != api.ErrParam {
		t.Errorf("Get(%x) = %#v %d", s, got, e)
	}
}

// The chapter's example, by each call.

func TestTheExample(t *testing.T) {
	p := params.Default()
	p.Data = 64
	checkMay(t, p, "\x04\x02\x40\x40")
	checkGet(t, "\x04\x02\x40\x40", p)
}

// P5.1: Default

func TestDefault(t *testing.T) {
	if p := params.Default(); p != usual() {
		t.Errorf("Default() = %#v", p)
	}
	checkCheck(t, params.Default(), api.OK)
}

func TestDefaultIsTheSameEachTime(t *testing.T) {
	p := params.Default()
	p.Idle, p.Size, p.Ids, p.Token = 1, 2, 3, token
	if params.Default() != usual() {
		t.Errorf("Default() = %#v", params.Default())
	}
}

// P5.1: Check

func TestCheckOfEachNumberAlone(t *testing.T) {
	for _, x := range ones() {
		for _, n := range []uint64{x.usual, x.least, x.least + 1, x.most - 1, x.most} {
			checkCheck(t, with(x, n), api.OK)
		}
		for _, n := range []uint64{x.most + 1, x.most + 2, mostOfAny + 1, mostOfAny + 2, 1<<62 + 1<<61, 1 << 63, 1<<63 + x.usual, 1<<62 + x.usual, math.MaxUint64 - 1, math.MaxUint64} {
			checkMayNot(t, with(x, n))
		}
		for n := range x.least {
			checkCheck(t, with(x, n), api.ErrParam)
		}
	}
}

// The edges as the chapter writes them, of each one that has some beside MaxVarint.
func TestCheckOfTheEdges(t *testing.T) {
	for _, x := range []struct {
		set      func(p *P, n uint64)
		may, not uint64
	}{
		{func(p *P, n uint64) { p.Size = n }, 1200, 1199},
		{func(p *P, n uint64) { p.Size = n }, api.MinSize, 0},
		{func(p *P, n uint64) { p.Size = n }, 65528, 1},
		{func(p *P, n uint64) { p.Bidis = n }, 1152921504606846976, 1152921504606846977},
		{func(p *P, n uint64) { p.Unis = n }, 1152921504606846976, 1152921504606846977},
		{func(p *P, n uint64) { p.Bidis = n }, 0, 4611686018427387903},
		{func(p *P, n uint64) { p.Unis = n }, 0, 4611686018427387903},
		{func(p *P, n uint64) { p.Exponent = n }, 20, 21},
		{func(p *P, n uint64) { p.Exponent = n }, 0, 4611686018427387903},
		{func(p *P, n uint64) { p.Delay = n }, 16383, 16384},
		{func(p *P, n uint64) { p.Delay = n }, 0, 4611686018427387903},
		{func(p *P, n uint64) { p.Ids = n }, 2, 1},
		{func(p *P, n uint64) { p.Ids = n }, 4611686018427387903, 0},
		{func(p *P, n uint64) { p.Idle = n }, 4611686018427387903, 4611686018427387904},
	} {
		p := usual()
		x.set(&p, x.may)
		checkCheck(t, p, api.OK)
		x.set(&p, x.not)
		checkMayNot(t, p)
	}
}

func TestCheckOfTokens(t *testing.T) {
	for n := range 65 {
		p := withToken(strings.Repeat("t", n))
		if n == 0 || n == tokenLen {
			checkCheck(t, p, api.OK)
		} else {
			checkMayNot(t, p)
		}
	}
	for _, n := range []int{255, 256, 256 + tokenLen, 1200, 2000} {
		checkMayNot(t, withToken(strings.Repeat("t", n)))
		checkMayNot(t, withToken(strings.Repeat("\x00", n)))
	}
	// Bytes count, not runes, and of any value.
	for _, s := range []string{otherToken, strings.Repeat("\x00", tokenLen), strings.Repeat("é", tokenLen/2)} {
		checkCheck(t, withToken(s), api.OK)
	}
	checkMayNot(t, withToken(strings.Repeat("é", tokenLen)))
}

func TestCheckOfNothing(t *testing.T) {
	checkMayNot(t, P{})
	checkMayNot(t, P{Token: token})
	checkCheck(t, P{Size: 1200, Ids: 2}, api.OK)
	checkMayNot(t, P{Size: 1200})
	checkMayNot(t, P{Ids: 2})
}

// edges calls do with each value at an edge of each parameter, by two together.
func edges(do func(p P, may bool)) {
	all := ones()
	values := func(x one) []uint64 {
		l := []uint64{x.usual, x.least, x.most, x.most + 1, mostOfAny, mostOfAny + 1}
		if x.least > 0 {
			l = append(l, x.least-1)
		}
		return l
	}
	may := func(x one, n uint64) bool { return n >= x.least && n <= x.most }
	for i, a := range all {
		for _, n := range values(a) {
			for _, tokens := range []string{"", token, token[1:], token + "g"} {
				p := with(a, n)
				p.Token = tokens
				do(p, may(a, n) && (tokens == "" || len(tokens) == tokenLen))
			}
			for _, b := range all[i+1:] {
				for _, m := range values(b) {
					p := with(a, n)
					*b.of(&p) = m
					do(p, may(a, n) && may(b, m))
				}
			}
		}
	}
}

func TestCheckOfTwoEdges(t *testing.T) {
	edges(func(p P, may bool) {
		if may {
			checkCheck(t, p, api.OK)
		} else {
			checkMayNot(t, p)
		}
	})
}

// P5.2

func TestPutOfWhatIsUsual(t *testing.T) {
	checkMay(t, params.Default(), "")
	checkMay(t, usual(), "")
}

func TestPutOfEachAlone(t *testing.T) {
	for _, x := range []struct {
		p P
		s string
	}{
		{P{Size: 65527, Exponent: 3, Delay: 25, Ids: 2, Idle: 1}, "\x01\x01\x01"},
		{withToken(token), "\x02\x10" + token},
		{withToken(otherToken), "\x02\x10" + otherToken},
		{P{Size: 1200, Exponent: 3, Delay: 25, Ids: 2}, "\x03\x02\x44\xb0"},
		{P{Size: 65526, Exponent: 3, Delay: 25, Ids: 2}, "\x03\x04\x80\x00\xff\xf6"},
		{P{Size: 65528, Exponent: 3, Delay: 25, Ids: 2}, "\x03\x04\x80\x00\xff\xf8"},
		{P{Size: 65527, Exponent: 3, Delay: 25, Ids: 2, Data: 63}, "\x04\x01\x3f"},
		{P{Size: 65527, Exponent: 3, Delay: 25, Ids: 2, BidiLocal: 16383}, "\x05\x02\x7f\xff"},
		{P{Size: 65527, Exponent: 3, Delay: 25, Ids: 2, BidiRemote: 16384}, "\x06\x04\x80\x00\x40\x00"},
		{P{Size: 65527, Exponent: 3, Delay: 25, Ids: 2, Uni: 1 << 30}, "\x07\x08\xc0\x00\x00\x00\x40\x00\x00\x00"},
		{P{Size: 65527, Exponent: 3, Delay: 25, Ids: 2, Bidis: 1 << 60}, "\x08\x08\xd0\x00\x00\x00\x00\x00\x00\x00"},
		{P{Size: 65527, Exponent: 3, Delay: 25, Ids: 2, Unis: 8}, "\x09\x01\x08"},
		{P{Size: 65527, Exponent: 0, Delay: 25, Ids: 2}, "\x0a\x01\x00"},
		{P{Size: 65527, Exponent: 20, Delay: 25, Ids: 2}, "\x0a\x01\x14"},
		{P{Size: 65527, Exponent: 3, Delay: 0, Ids: 2}, "\x0b\x01\x00"},
		{P{Size: 65527, Exponent: 3, Delay: 16383, Ids: 2}, "\x0b\x02\x7f\xff"},
		{P{Size: 65527, Exponent: 3, Delay: 25, Ids: 3}, "\x0e\x01\x03"},
		{P{Size: 65527, Exponent: 3, Delay: 25, Ids: mostOfAny}, "\x0e\x08\xff\xff\xff\xff\xff\xff\xff\xff"},
	} {
		checkMay(t, x.p, x.s)
	}
}

// values of each width, and beside the usual one, of those that x may have.
func (x one) values() []uint64 {
	l := []uint64{
		x.least, x.least + 1, x.most - 1, x.most, x.usual - 1, x.usual + 1,
		0, 1, 2, 3, 25, 62, 63, 64, 65, 1199, 1200, 1<<14 - 1, 1 << 14, 65527, 1<<30 - 1, 1 << 30, 1 << 32, 1 << 60, 1 << 61,
	}
	return slices.DeleteFunc(l, func(n uint64) bool { return n < x.least || n > x.most })
}

func TestPutOfEachAloneAtManyValues(t *testing.T) {
	for _, x := range ones() {
		for _, n := range x.values() {
			if n == x.usual {
				checkMay(t, with(x, n), "")
			} else {
				checkMay(t, with(x, n), pair(uint64(x.number), num(n)))
			}
		}
	}
}

func allOdd() (P, string) {
	p := P{Idle: 30, Token: token, Size: 1500, Data: 4096, BidiLocal: 1000, BidiRemote: 1001, Uni: 1002, Bidis: 8, Unis: 7, Exponent: 4, Delay: 26, Ids: 4}
	s := "\x01\x01\x1e" + "\x02\x10" + token + "\x03\x02\x45\xdc" + "\x04\x02\x50\x00" + "\x05\x02\x43\xe8" + "\x06\x02\x43\xe9" +
		"\x07\x02\x43\xea" + "\x08\x01\x08" + "\x09\x01\x07" + "\x0a\x01\x04" + "\x0b\x01\x1a" + "\x0e\x01\x04"
	return p, s
}

func TestPutOfAllByRisingNumbers(t *testing.T) {
	checkMay(t, P{Size: 1200, Ids: 2}, "\x03\x02\x44\xb0\x0a\x01\x00\x0b\x01\x00")
	p, s := allOdd()
	checkMay(t, p, s)
	p.Idle, p.Ids = 0, 2
	checkMay(t, p, s[3:len(s)-3])
	p.Token = ""
	checkMay(t, p, s[3+18:len(s)-3])
}

func TestPutOfTwoByRisingNumbers(t *testing.T) {
	all := ones()
	for i, a := range all {
		for _, b := range all[i+1:] {
			n, m := a.usual+1, b.usual+2
			p := with(a, n)
			*b.of(&p) = m
			checkMay(t, p, pair(uint64(a.number), num(n))+pair(uint64(b.number), num(m)))
		}
		p, s, mark := with(a, a.usual+1), pair(uint64(a.number), num(a.usual+1)), pair(tokenNumber, token)
		p.Token = token
		if a.number < tokenNumber {
			checkMay(t, p, s+mark)
		} else {
			checkMay(t, p, mark+s)
		}
	}
}

func TestPutOfWhatMayNotBe(t *testing.T) {
	p, _ := allOdd()
	for _, x := range ones() {
		q := p
		*x.of(&q) = x.most + 1
		checkMayNot(t, q)
	}
	for _, n := range []int{1, 15, 17} {
		q := p
		q.Token = strings.Repeat("t", n)
		checkMayNot(t, q)
	}
}

// P5.3

func TestGetOfNoByte(t *testing.T) {
	checkGet(t, "", usual())
}

func TestGetOfEachAlone(t *testing.T) {
	for _, x := range ones() {
		for _, n := range x.values() {
			for _, wide := range widths(n) {
				checkGet(t, pair(uint64(x.number), inBytes(n, wide)), with(x, n))
			}
		}
	}
}

// What is told as it is usual is no fault.
func TestGetOfWhatIsUsualAndTold(t *testing.T) {
	all := ""
	for _, x := range ones() {
		for _, wide := range widths(x.usual) {
			checkGet(t, pair(uint64(x.number), inBytes(x.usual, wide)), usual())
		}
		all += pair(uint64(x.number), num(x.usual))
	}
	checkGet(t, all, usual())
	checkGet(t, all+pair(tokenNumber, token), withToken(token))
}

// pieces are all that allOdd tells, a pair each.
func pieces() []string {
	_, s := allOdd()
	var l []string
	for s != "" {
		n := 2 + int(s[1])
		l, s = append(l, s[:n]), s[n:]
	}
	return l
}

func TestGetOfAnyOrder(t *testing.T) {
	p, s := allOdd()
	checkGet(t, s, p)
	l := pieces()
	if len(l) != 12 {
		t.Fatal(len(l))
	}
	slices.Reverse(l)
	checkGet(t, strings.Join(l, ""), p)
	for range l {
		l = append(l[1:], l[0])
		checkGet(t, strings.Join(l, ""), p)
	}
	x := strewn(5)
	for range 500 {
		i, j := x.below(len(l)), x.below(len(l))
		l[i], l[j] = l[j], l[i]
		checkGet(t, strings.Join(l, ""), p)
	}
}

func TestGetOfEachTwice(t *testing.T) {
	all := strings.Join(pieces(), "")
	for _, x := range pieces() {
		checkWrong(t, x+x)
		checkWrong(t, all+x)
		checkWrong(t, x+all)
		for _, other := range pieces() {
			checkWrong(t, x+other+x)
		}
	}
	for _, x := range ones() {
		number, value := uint64(x.number), num(x.usual)
		checkWrong(t, pair(number, value)+pair(number, value))
		checkWrong(t, pair(number, value)+pair(number, num(x.most)))
		checkWrong(t, pair(number, num(x.most))+pair(number, value))
		for _, wide := range []int{1, 2, 4, 8} {
			checkWrong(t, pair(number, value)+inBytes(number, wide)+num(uint64(len(value)))+value)
			checkWrong(t, inBytes(number, wide)+num(uint64(len(value)))+value+pair(14, "\x05")+pair(number, value))
		}
	}
	checkWrong(t, pair(tokenNumber, token)+pair(tokenNumber, otherToken))
	checkWrong(t, pair(tokenNumber, token)+"\x40\x02\x10"+token)
	checkWrong(t, pair(1, "\x05")+pair(1, "\x05")+pair(1, "\x05"))
}

// strangeValues are no varint, one, more than one, or nothing.
func strangeValues() []string {
	return []string{"", "\x00", "\x05", "\x40", "\x40\x40", "\xff", "\x01\x02\x03", token, strings.Repeat("\xc0", 100)}
}

func TestGetPassesByWhatThereIsNot(t *testing.T) {
	p, s := allOdd()
	for _, number := range strange() {
		for _, value := range strangeValues() {
			x := pair(number, value)
			checkGet(t, x, usual())
			checkGet(t, x+s, p)
			checkGet(t, s+x, p)
			checkGet(t, s[:21]+x+s[21:], p)
		}
	}
	all := ""
	for _, number := range strange() {
		all += pair(number, "?")
	}
	checkGet(t, all, usual())
	checkGet(t, all+s, p)
}

func TestGetOfWhatThereIsNotTwice(t *testing.T) {
	_, s := allOdd()
	for _, number := range strange() {
		for _, value := range strangeValues() {
			x := pair(number, value)
			checkWrong(t, x+x)
			checkWrong(t, x+s+x)
			checkWrong(t, s+x+pair(number, ""))
			checkWrong(t, pair(number, "other")+x)
			for _, wide := range widths(number) {
				checkWrong(t, x+inBytes(number, wide)+"\x00")
			}
		}
	}
}

// Numbers that end by the same bytes, or bits, are other ones all the same.
func TestGetOfNumbersThatLookAlike(t *testing.T) {
	for n := range uint64(16) {
		all := ""
		for _, add := range []uint64{16, 32, 64, 128, 256, 1 << 14, 1 << 16, 1 << 30, 1 << 32, 1 << 61} {
			checkGet(t, pair(n+add, "\x3f"), usual())
			checkGet(t, pair(n+add, ""), usual())
			all += pair(n+add, "")
		}
		checkGet(t, all, usual())
	}
}

func TestGetOfNumbersAndLengthsInMoreBytesThanTheyNeed(t *testing.T) {
	for _, a := range []int{1, 2, 4, 8} {
		for _, b := range []int{1, 2, 4, 8} {
			for _, x := range ones() {
				n := x.usual + 1
				s := inBytes(uint64(x.number), a) + inBytes(uint64(needs(n)), b) + num(n)
				checkGet(t, s, with(x, n))
				checkGet(t, pair(15, "")+s+pair(12, "x"), with(x, n))
			}
			checkGet(t, inBytes(tokenNumber, a)+inBytes(tokenLen, b)+token, withToken(token))
			checkGet(t, inBytes(13, a)+inBytes(3, b)+"abc", usual())
		}
	}
}

func TestGetOfANumberAndALengthThatAreCut(t *testing.T) {
	_, all := allOdd()
	for _, ahead := range []string{"", "\x0c\x00", all} {
		for _, number := range []uint64{0, 1, 2, 12, 14, 15, 64, mostOfAny} {
			if number > 0 && number < 15 && ahead != "" {
				continue // a number that came ahead would be wrong all the same
			}
			for _, a := range widths(number) {
				for _, b := range []int{1, 2, 4, 8} {
					// A length of 0 would be whole at its end, and a number never is.
					s := inBytes(number, a) + inBytes(16, b)
					for have := 1; have <= len(s); have++ {
						checkWrong(t, ahead+s[:have])
					}
				}
			}
		}
	}
}

// Cut at any byte, a text is whole just where a pair ends.
func TestGetOfAllThatIsCut(t *testing.T) {
	l := append(pieces(), pair(15, "abc"), pair(64, ""), pair(mostOfAny, "\xff"))
	s, ends := "", map[int]bool{0: true}
	for _, x := range l {
		s += x
		ends[len(s)] = true
	}
	for have := range len(s) + 1 {
		_, e := params.Get(s[:have])
		if (e == api.OK) != ends[have] {
			t.Errorf("Get(%x) = %d", s[:have], e)
		}
		if e != api.OK {
			checkWrong(t, s[:have])
		}
	}
}

func TestGetOfALengthBeyondTheBytes(t *testing.T) {
	_, all := allOdd()
	for _, number := range []uint64{0, 12, 15, 64, mostOfAny} {
		for _, have := range []int{0, 1, 2, 15, 16, 63, 100} {
			value := strings.Repeat("\x05", have)
			checkGet(t, num(number)+num(uint64(have))+value, usual())
			for _, more := range []uint64{1, 2, 63, 64, 1 << 14, 1<<31 - 200, 1 << 31, 1 << 32, 1<<32 + 1, 1 << 61, mostOfAny - 200} {
				checkWrong(t, num(number)+num(uint64(have)+more)+value)
				checkWrong(t, all+num(number)+num(uint64(have)+more)+value)
			}
			checkWrong(t, num(number)+num(mostOfAny)+value)
		}
	}
	for _, x := range ones() {
		for _, s := range []string{"\x01", "\x02\x05", "\x08\x40\x40", "\x02\x40", "\xff\xff\xff\xff\xff\xff\xff\xff\x05", "\xc0\x00\x00\x01\x00\x00\x00\x01\x05"} {
			checkWrong(t, num(uint64(x.number))+s)
		}
	}
	checkWrong(t, "\x02\x10"+token[1:])
	checkWrong(t, "\x02\x11"+token)
}

// The varint of a value is just as long as the pair says.
func TestGetOfValuesThatAreNotJustOneVarint(t *testing.T) {
	_, all := allOdd()
	for _, x := range ones() {
		// A good value, but for a byte that lacks, or one too many.
		for _, n := range []uint64{x.usual, x.least, x.most} {
			for _, wide := range widths(n) {
				value := inBytes(n, wide)
				for have := range wide {
					checkWrong(t, pair(uint64(x.number), value[:have]))
					checkWrong(t, pair(uint64(x.number), value[:have])+pair(15, ""))
					checkWrong(t, pair(15, "")+pair(uint64(x.number), value[:have]))
				}
				for _, more := range []string{"\x00", "\x05", "\x40\x05", value, token} {
					checkWrong(t, pair(uint64(x.number), value+more))
				}
				// The bytes that lack stand behind the pair: they are not the value's.
				for have := range wide {
					checkWrong(t, num(uint64(x.number))+num(uint64(have))+value)
				}
			}
		}
		for _, value := range []string{"", "\x40", "\x80", "\xc0", "\x80\x00\x00", "\xc0\x00\x00\x00\x00\x00\x00", "\x05\x05", "\x00\x00\x00\x00", token} {
			checkWrong(t, pair(uint64(x.number), value))
			checkWrong(t, pair(uint64(x.number), value)+all)
		}
	}
}

func TestGetOfNoByteForAValue(t *testing.T) {
	for _, x := range ones() {
		for _, wide := range []int{1, 2, 4, 8} {
			checkWrong(t, num(uint64(x.number))+inBytes(0, wide))
			checkWrong(t, num(uint64(x.number))+inBytes(0, wide)+pair(15, "\x05"))
			checkWrong(t, pair(15, "\x05")+num(uint64(x.number))+inBytes(0, wide))
		}
	}
}

func TestGetOfTokens(t *testing.T) {
	_, all := allOdd()
	for n := range 70 {
		s := pair(tokenNumber, strings.Repeat("t", n))
		if n == tokenLen {
			checkGet(t, s, withToken(strings.Repeat("t", n)))
			continue
		}
		checkWrong(t, s)
		checkWrong(t, pair(15, "")+s)
		checkWrong(t, s+all[:3]+all[21:])
	}
	for _, n := range []int{255, 256, 256 + tokenLen, 1200, 1900} {
		checkWrong(t, pair(tokenNumber, strings.Repeat("t", n)))
	}
	// A token is no varint: any 16 bytes are one.
	for _, s := range []string{token, otherToken, strings.Repeat("\x00", tokenLen), strings.Repeat("\xff", tokenLen), "\x05\x10" + token[2:]} {
		checkGet(t, pair(tokenNumber, s), withToken(s))
		checkGet(t, pair(14, "\x05")+pair(tokenNumber, s)+pair(0, ""), P{Size: 65527, Exponent: 3, Delay: 25, Ids: 5, Token: s})
	}
}

func TestGetOfValuesThatCheckDoesNotTake(t *testing.T) {
	for _, x := range []struct {
		number   uint64
		may, not []uint64
	}{
		{3, []uint64{1200, 1201, mostOfAny}, []uint64{0, 1, 1199}},
		{8, []uint64{0, 1<<60 - 1, 1 << 60}, []uint64{1<<60 + 1, 1 << 61, mostOfAny}},
		{9, []uint64{0, 1<<60 - 1, 1 << 60}, []uint64{1<<60 + 1, 1 << 61, mostOfAny}},
		{10, []uint64{0, 19, 20}, []uint64{21, 22, 64, 256 + 20, mostOfAny}},
		{11, []uint64{0, 16382, 16383}, []uint64{16384, 16385, 1 << 16, 1 << 32, mostOfAny}},
		{14, []uint64{2, 3, mostOfAny}, []uint64{0, 1}},
	} {
		for _, n := range x.may {
			if _, e := params.Get(pair(x.number, num(n))); e != api.OK {
				t.Errorf("%d of %d: %d", x.number, n, e)
			}
		}
		for _, n := range x.not {
			for _, wide := range widths(n) {
				s := pair(x.number, inBytes(n, wide))
				checkWrong(t, s)
				checkWrong(t, pair(1, "\x05")+s+pair(15, ""))
			}
		}
	}
}

// P5.4

// strewn tells numbers by a fixed rule.
type strewn uint64

func (x *strewn) below(n int) int {
	*x = *x*6364136223846793005 + 1442695040888963407
	return int(uint64(*x) >> 33 % uint64(n))
}

func (x *strewn) text(n int) string {
	b := make([]byte, n)
	for i := range b {
		b[i] = byte(x.below(256))
	}
	return string(b)
}

// params tells such as may be, of which about every other one is usual.
func (x *strewn) params() P {
	p := usual()
	for _, o := range ones() {
		if x.below(2) == 0 {
			continue
		}
		n := uint64(x.below(1<<31))<<31 ^ uint64(x.below(1<<31))
		*o.of(&p) = min(max(n>>x.below(62), o.least), o.most)
	}
	if x.below(2) == 0 {
		p.Token = x.text(tokenLen)
	}
	return p
}

func TestWhatIsPutIsGotBack(t *testing.T) {
	x := strewn(5)
	for range 20000 {
		p := x.params()
		s, e := params.Put(p)
		if e != api.OK {
			t.Fatalf("Put(%#v) = %d", p, e)
		}
		if got, e := params.Get(s); got != p || e != api.OK {
			t.Fatalf("%#v came back as %#v %d", p, got, e)
		}
	}
}

func TestAllEdgesThatMayBeAreGotBack(t *testing.T) {
	edges(func(p P, may bool) {
		s, e := params.Put(p)
		if (e == api.OK) != may {
			t.Fatalf("Put(%#v) = %d", p, e)
		}
		if !may {
			return
		}
		if got, e := params.Get(s); got != p || e != api.OK {
			t.Fatalf("%#v came back as %#v %d", p, got, e)
		}
	})
}

// reckoned reads parameters by places in the text, for Get to be held against.
func reckoned(s string) (P, bool) {
	at := 0
	number := func(end int) (uint64, bool) {
		if at >= end {
			return 0, false
		}
		n, wide := uint64(s[at]%64), 1<<(s[at]/64)
		if at+wide > end {
			return 0, false
		}
		for i := 1; i < wide; i++ {
			n = n*256 + uint64(s[at+i])
		}
		at += wide
		return n, true
	}
	p, came := usual(), []uint64{}
	for at < len(s) {
		kind, okKind := number(len(s))
		many, okMany := number(len(s))
		if !okKind || !okMany || many > uint64(len(s)-at) || slices.Contains(came, kind) {
			return P{}, false
		}
		came = append(came, kind)
		end := at + int(many)
		if kind == tokenNumber {
			p.Token = s[at:end]
			if many != tokenLen {
				return P{}, false
			}
		}
		for _, x := range ones() {
			if kind != uint64(x.number) {
				continue
			}
			n, ok := number(end)
			if !ok || at != end || n < x.least || n > x.most {
				return P{}, false
			}
			*x.of(&p) = n
		}
		at = end
	}
	return p, true
}

func checkReckoned(t *testing.T, s string) {
	t.Helper()
	if p, ok := reckoned(s); ok {
		checkGet(t, s, p)
	} else {
		checkWrong(t, s)
	}
}

func TestEachByteIsAny(t *testing.T) {
	_, all := allOdd()
	for _, s := range []string{
		all,
		"\x40\x04\x40\x02\x40\x40\x0f\x03abc\x0c\x00",
		"\x03\x04\x80\x00\x04\xb0\x0b\x02\x7f\xff\x0e\x01\x02",
		"\x08\x08\xd0\x00\x00\x00\x00\x00\x00\x00\x0a\x01\x14\x02\x10" + token,
	} {
		for place := range len(s) {
			for value := range 256 {
				b := []byte(s)
				b[place] = byte(value)
				checkReckoned(t, string(b))
				if t.Failed() {
					return
				}
			}
		}
	}
}

// piece tells a pair of any number, in any widths, of a value that is mostly one varint.
func (x *strewn) piece() string {
	number := uint64(x.below(17))
	if x.below(8) == 0 {
		number = strange()[x.below(len(strange()))]
	}
	n := uint64(x.below(1<<31)) >> x.below(31)
	value := inBytes(n, widths(n)[x.below(len(widths(n)))])
	if number == tokenNumber || x.below(20) == 0 {
		value = x.text(tokenLen)
	}
	wide := []int{1, 2, 4, 8}[x.below(4)]
	return inBytes(number, widths(number)[x.below(len(widths(number)))]) + inBytes(uint64(len(value)), wide) + value
}

func TestTextsOfAnyBytes(t *testing.T) {
	x := strewn(55)
	good := 0
	for range 30000 {
		s := ""
		for range x.below(5) {
			s += x.piece()
		}
		if x.below(4) == 0 {
			s = s[:x.below(len(s)+1)] + x.text(x.below(4))
		}
		checkReckoned(t, s)
		if t.Failed() {
			return
		}
		if _, ok := reckoned(s); ok {
			good++
		}
	}
	if good < 5000 || good > 25000 {
		t.Errorf("%d texts of 30000 are good: the rule strews badly", good)
	}
}

func TestShortTextsOfAnyBytes(t *testing.T) {
	for a := range 256 {
		checkReckoned(t, string([]byte{byte(a)}))
		for b := range 256 {
			checkReckoned(t, string([]byte{byte(a), byte(b)}))
			for _, c := range []byte{0, 1, 2, 3, 20, 21, 63, 64, 65, 128, 192, 255} {
				checkReckoned(t, string([]byte{byte(a), byte(b), c}))
			}
		}
		if t.Failed() {
			return
		}
	}
}

// Long texts, of numbers that each come once: none of them is passed over for another one.
func TestGetOfManyPairs(t *testing.T) {
	var s strings.Builder
	p, all := allOdd()
	for n := range uint64(20000) {
		s.WriteString(pair(100+n, ""))
	}
	checkGet(t, s.String()+all, p)
	checkGet(t, all+s.String(), p)
	checkWrong(t, s.String()+all+pair(100, ""))
	checkWrong(t, s.String()+all+pair(100+19999, ""))
}

func TestWhatIsAnsweredHangsOnTheArgumentsAlone(t *testing.T) {
	p, s := allOdd()
	for range 3 {
		checkMay(t, p, s)
		checkWrong(t, s+s)
		checkMayNot(t, P{})
		checkGet(t, "", usual())
	}
}
