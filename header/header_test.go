package header_test

import (
	"math"
	"slices"
	"strings"
	"testing"

	"domino/api"
	"domino/header"
)

type H = header.Header

// The masks' length, and the longest parts, as the chapter names them.
const (
	maskLen      = 5
	longestId    = 20
	longestToken = 1000
)

// form is a header, its bytes written out by hand, and at which of them its number stands.
type form struct {
	h     H
	s     string
	place int
}

func shortForms() []form {
	ones, abc := "\x01\x01\x01\x01\x01\x01\x01\x01", "abcdefgh"
	return []form{
		{H{Dcid: ones, Wide: 2, Num: 258}, "\x41" + ones + "\x01\x02", 9},
		{H{Dcid: abc, Wide: 1}, "\x40" + abc + "\x00", 9},
		{H{Dcid: abc, Wide: 1, Num: 255}, "\x40" + abc + "\xff", 9},
		{H{Dcid: abc, Wide: 3, Num: 5}, "\x42" + abc + "\x00\x00\x05", 9},
		{H{Dcid: abc, Wide: 4, Num: 0x01020304}, "\x43" + abc + "\x01\x02\x03\x04", 9},
		{H{Spin: true, Dcid: abc, Wide: 1, Num: 9}, "\x60" + abc + "\x09", 9},
		{H{Phase: true, Dcid: abc, Wide: 1, Num: 9}, "\x44" + abc + "\x09", 9},
		{H{Spin: true, Phase: true, Dcid: "\xff\xff\xff\xff\xff\xff\xff\xff", Wide: 4, Num: 1<<32 - 1}, "\x67\xff\xff\xff\xff\xff\xff\xff\xff\xff\xff\xff\xff", 9},
	}
}

func longForms() []form {
	id20, id19 := strings.Repeat("d", 20), strings.Repeat("s", 19)
	token64, token1000 := strings.Repeat("t", 64), strings.Repeat("\xa5", 1000)
	return []form{
		{H{Long: true, Wide: 1}, "\xc0\x00\x00\x00\x00\x00\x00\x00\x00\x00", 9},
		{H{Long: true, Version: 1, Dcid: "abcdefgh", Scid: "wxyz", Token: "tok", Length: 1200, Wide: 2, Num: 7}, "\xc1\x00\x00\x00\x01\x08abcdefgh\x04wxyz\x03tok\x44\xb0\x00\x07", 25},
		{H{Long: true, Type: header.Early, Version: 0x01020304, Dcid: "a", Length: 63, Wide: 3, Num: 0x010203}, "\xd2\x01\x02\x03\x04\x01a\x00\x3f\x01\x02\x03", 9},
		{H{Long: true, Type: header.Handshake, Version: math.MaxUint32, Scid: "s", Length: 64, Wide: 4, Num: 1<<32 - 1}, "\xe3\xff\xff\xff\xff\x00\x01s\x40\x40\xff\xff\xff\xff", 10},
		{H{Long: true, Version: 1, Dcid: id20, Scid: id19, Token: token64, Length: 1<<62 - 1, Wide: 1, Num: 200}, "\xc0\x00\x00\x00\x01\x14" + id20 + "\x13" + id19 + "\x40\x40" + token64 + "\xff\xff\xff\xff\xff\xff\xff\xff\xc8", 120},
		{H{Long: true, Version: 7, Dcid: id20, Scid: id20, Token: token1000, Length: 1 << 14, Wide: 4, Num: 1}, "\xc3\x00\x00\x00\x07\x14" + id20 + "\x14" + id20 + "\x43\xe8" + token1000 + "\x80\x00\x40\x00\x00\x00\x00\x01", 1053},
	}
}

func forms() []form {
	return slices.Concat(shortForms(), longForms())
}

// tails stand behind a header; none of them may be taken for a part of it.
func tails() []string {
	return []string{"", "\x00", "ab", "\xff\xff\xff\xff\xff", strings.Repeat("z", 140)}
}

// masks of five bytes: none, each bit of the first byte, each other byte, and mixed ones.
func masks() []string {
	l := []string{"\x00\x00\x00\x00\x00", "\xff\xff\xff\xff\xff", "\x1f\x00\x00\x00\x00", "\x0f\x00\x00\x00\x00", "\xe0\x00\x00\x00\x00", "\x03\x01\x02\x04\x08", "\x5a\xa5\x3c\xc3\x96"}
	for bit := range 8 {
		l = append(l, string([]byte{1 << bit, 0, 0, 0, 0}))
	}
	for place := 1; place < maskLen; place++ {
		b := make([]byte, maskLen)
		b[place] = 0x81
		l = append(l, string(b))
	}
	return l
}

// wrongMasks have not five bytes.
func wrongMasks() []string {
	return []string{"", "\xff", "\xff\xff\xff\xff", "\x00\x00\x00\x00", "\x00\x00\x00\x00\x00\x00", "\xff\xff\xff\xff\xff\xff", strings.Repeat("m", 16), strings.Repeat("m", 1200)}
}

// shortBytes is how long a short header is, up to its number.
const shortBytes = 9

// lowBits tells how many of the lowest bits of a first byte a mask is laid on.
func lowBits(first byte) int {
	if first >= 0x80 {
		return 4
	}
	return 5
}

func withFirst(first byte, s string) string {
	return string([]byte{first}) + s[1:]
}

func checkPut(t *testing.T, h H, s string, e api.Errno) {
	t.Helper()
	if got, f := header.Put(h); got != s || f != e {
		t.Errorf("Put(%#v) = %x %d, not %x %d", h, got, f, s, e)
	}
}

func checkMay(t *testing.T, h H, may bool) {
	t.Helper()
	if header.May(h) != may {
		t.Errorf("May(%#v) is not %t", h, may)
	}
	if _, e := header.Put(h); (e == api.OK) != may {
		t.Errorf("Put(%#v) answers %d", h, e)
	}
	if !may {
		checkPut(t, h, "", api.ErrArg)
	}
}

func checkGet(t *testing.T, s string, h H, rest string) {
	t.Helper()
	if got, r, e := header.Get(s); got != h || r != rest || e != api.OK {
		t.Errorf("Get(%x) = %#v %x %d, not %#v %x", s, got, r, e, h, rest)
	}
}

func checkNoHeader(t *testing.T, s string) {
	t.Helper()
	if h, rest, e := header.Get(s); h != (H{}) || rest != "" || e != api.ErrHeader {
		t.Errorf("Get(%x) = %#v %x %d", s, h, rest, e)
	}
}

func checkPlace(t *testing.T, s string, place int, e api.Errno) {
	t.Helper()
	if got, f := header.Place(s); got != place || f != e {
		t.Errorf("Place(%x) = %d %d, not %d %d", s, got, f, place, e)
	}
}

func checkMask(t *testing.T, s, mask, masked string, e api.Errno) {
	t.Helper()
	if got, f := header.Mask(s, mask); got != masked || f != e {
		t.Errorf("Mask(%x, %x) = %x %d, not %x %d", s, mask, got, f, masked, e)
	}
}

func checkUnmask(t *testing.T, s, mask, bare string, e api.Errno) {
	t.Helper()
	if got, f := header.Unmask(s, mask); got != bare || f != e {
		t.Errorf("Unmask(%x, %x) = %x %d, not %x %d", s, mask, got, f, bare, e)
	}
}

// The chapter's example, by each call.

func TestTheExample(t *testing.T) {
	h := H{Dcid: strings.Repeat("\x01", 8), Wide: 2, Num: 258}
	s := "\x41\x01\x01\x01\x01\x01\x01\x01\x01\x01\x02"
	checkMay(t, h, true)
	checkPut(t, h, s, api.OK)
	checkGet(t, s, h, "")
	checkPlace(t, s, 9, api.OK)
	checkMask(t, s, "\xff\x0f\xf0\xff\xff", "\x5e\x01\x01\x01\x01\x01\x01\x01\x01\x0e\xf2", api.OK)
	checkUnmask(t, "\x5e\x01\x01\x01\x01\x01\x01\x01\x01\x0e\xf2", "\xff\x0f\xf0\xff\xff", s, api.OK)
}

// P4.1

func TestTheTypesNumbers(t *testing.T) {
	if header.Initial != 0 || header.Early != 1 || header.Handshake != 2 {
		t.Error(header.Initial, header.Early, header.Handshake)
	}
}

func TestPutWritesTheBytes(t *testing.T) {
	for _, x := range forms() {
		checkMay(t, x.h, true)
		checkPut(t, x.h, x.s, api.OK)
	}
}

// bases may be: one of each form, of the least width.
func bases() []H {
	return []H{
		{Dcid: "abcdefgh", Wide: 1},
		{Spin: true, Phase: true, Dcid: "abcdefgh", Wide: 1},
		{Long: true, Wide: 1},
		{Long: true, Type: header.Initial, Version: 1, Dcid: "abcdefgh", Scid: "xyz", Token: "t", Length: 9, Wide: 1},
		{Long: true, Type: header.Early, Version: 1, Dcid: "abcdefgh", Scid: "xyz", Length: 9, Wide: 1},
		{Long: true, Type: header.Handshake, Version: 1, Dcid: "abcdefgh", Scid: "xyz", Length: 9, Wide: 1},
	}
}

func TestMayByWide(t *testing.T) {
	for _, h := range bases() {
		for _, wide := range []int{math.MinInt, -257, -8, -1, 0, 5, 6, 8, 9, 255, 256, 257, math.MaxInt} {
			h.Wide = wide
			checkMay(t, h, false)
		}
		for wide := 1; wide <= 4; wide++ {
			h.Wide = wide
			checkMay(t, h, true)
		}
	}
}

func TestMayByNum(t *testing.T) {
	for _, h := range bases() {
		for wide := 1; wide <= 4; wide++ {
			h.Wide = wide
			window := uint64(1) << (8 * wide)
			for _, n := range []uint64{0, 1, window/2 - 1, window / 2, window - 2, window - 1} {
				h.Num = n
				checkMay(t, h, true)
			}
			for _, n := range []uint64{window, window + 1, 2 * window, 1 << 32, 1<<32 + 1, 1 << 62, 1 << 63, math.MaxUint64} {
				h.Num = n
				checkMay(t, h, false)
			}
		}
	}
}

func TestMayOfShortOnesByDcid(t *testing.T) {
	for _, h := range bases()[:2] {
		for _, n := range []int{0, 1, 7, 9, 16, 20, 21, 255, 256, 264, 1200} {
			h.Dcid = strings.Repeat("c", n)
			checkMay(t, h, false)
		}
		for _, dcid := range []string{"cccccccc", "\x00\x00\x00\x00\x00\x00\x00\x00", "\xff\xff\xff\xff\xff\xff\xff\xff"} {
			h.Dcid = dcid
			checkMay(t, h, true)
		}
	}
}

func TestMayOfShortOnesWithPartsOfLongOnes(t *testing.T) {
	for _, base := range bases()[:2] {
		for _, change := range []func(h *H){
			func(h *H) { h.Type = header.Early },
			func(h *H) { h.Type = header.Handshake },
			func(h *H) { h.Type = 3 },
			func(h *H) { h.Type = -1 },
			func(h *H) { h.Version = 1 },
			func(h *H) { h.Version = math.MaxUint32 },
			func(h *H) { h.Scid = "s" },
			func(h *H) { h.Scid = "\x00" },
			func(h *H) { h.Scid = "abcdefgh" },
			func(h *H) { h.Token = "t" },
			func(h *H) { h.Token = "\x00" },
			func(h *H) { h.Length = 1 },
			func(h *H) { h.Length = api.MaxVarint + 1 },
		} {
			h := base
			change(&h)
			checkMay(t, h, false)
		}
	}
}

func TestMayOfLongOnesByTheirForm(t *testing.T) {
	for _, base := range bases()[2:] {
		for _, change := range []func(h *H){
			func(h *H) { h.Spin = true },
			func(h *H) { h.Phase = true },
			func(h *H) { h.Spin, h.Phase = true, true },
			func(h *H) { h.Long = false },
			func(h *H) { h.Type = 3 },
			func(h *H) { h.Type = 4 },
			func(h *H) { h.Type = -1 },
			func(h *H) { h.Type = 16 },
			func(h *H) { h.Type = 256 },
			func(h *H) { h.Type = math.MinInt },
			func(h *H) { h.Type = math.MaxInt },
		} {
			h := base
			change(&h)
			checkMay(t, h, false)
		}
	}
}

func TestMayOfLongOnesByTheirIds(t *testing.T) {
	for _, h := range bases()[2:] {
		for _, n := range []int{0, 1, 7, 8, 9, 19, longestId, longestId + 1, 22, 63, 64, 255, 256, 257, 276, 1200} {
			d, s := h, h
			d.Dcid, s.Scid = strings.Repeat("c", n), strings.Repeat("c", n)
			checkMay(t, d, n <= longestId)
			checkMay(t, s, n <= longestId)
		}
	}
}

func TestMayOfLongOnesByToken(t *testing.T) {
	for _, h := range bases()[2:] {
		for _, n := range []int{0, 1, 16, 63, 64, 999, longestToken, longestToken + 1, 1024, 2000} {
			h.Token = strings.Repeat("t", n)
			checkMay(t, h, n == 0 || n <= longestToken && h.Type == header.Initial)
		}
	}
}

func TestMayOfLongOnesByLength(t *testing.T) {
	for _, h := range bases()[2:] {
		for _, n := range []uint64{0, 1, 63, 64, 1<<14 - 1, 1 << 14, 1<<30 - 1, 1 << 30, 1<<32 - 1, 1 << 32, 1<<62 - 2, api.MaxVarint} {
			h.Length = n
			checkMay(t, h, true)
		}
		for _, n := range []uint64{api.MaxVarint + 1, api.MaxVarint + 2, 1<<62 + 1<<61, 1 << 63, 1<<63 + 1, math.MaxUint64} {
			h.Length = n
			checkMay(t, h, false)
		}
	}
}

func TestMayByVersion(t *testing.T) {
	for _, h := range bases()[2:] {
		for _, v := range []uint32{0, 1, 255, 256, 1 << 24, 1 << 31, math.MaxUint32} {
			h.Version = v
			checkMay(t, h, true)
		}
	}
}

// faults tells whether h may not be, for a reason that the chapter names, one by one.
func faults(h H) bool {
	common := []bool{
		h.Wide < 1, h.Wide > 4,
		h.Wide == 1 && h.Num > 0xff, h.Wide == 2 && h.Num > 0xffff,
		h.Wide == 3 && h.Num > 0xffffff, h.Wide == 4 && h.Num > 0xffffffff,
	}
	short := []bool{len(h.Dcid) != 8, h.Type != 0, h.Version != 0, h.Scid != "", h.Token != "", h.Length != 0}
	long := []bool{
		h.Spin, h.Phase, h.Type != 0 && h.Type != 1 && h.Type != 2, len(h.Dcid) > 20, len(h.Scid) > 20,
		len(h.Token) > 1000, h.Token != "" && h.Type != 0, h.Length > 1<<62-1,
	}
	of := short
	if h.Long {
		of = long
	}
	return slices.Contains(append(common, of...), true)
}

// edges calls do with headers of all parts at their edges, each with each.
func edges(do func(h H)) {
	flags := []bool{false, true}
	for _, long := range flags {
		for _, spin := range flags {
			for _, phase := range flags {
				for _, kind := range []int{-1, 0, 1, 2, 3} {
					for _, version := range []uint32{0, 1} {
						edgesOfParts(H{Long: long, Spin: spin, Phase: phase, Type: kind, Version: version}, do)
					}
				}
			}
		}
	}
}

func edgesOfParts(h H, do func(h H)) {
	for _, dcid := range []int{0, 7, 8, 9, 20, 21} {
		for _, scid := range []int{0, 20, 21} {
			for _, token := range []int{0, 1, 1000, 1001} {
				for _, h.Length = range []uint64{0, api.MaxVarint, api.MaxVarint + 1} {
					h.Dcid, h.Scid, h.Token = strings.Repeat("d", dcid), strings.Repeat("s", scid), strings.Repeat("t", token)
					edgesOfNumbers(h, do)
				}
			}
		}
	}
}

func edgesOfNumbers(h H, do func(h H)) {
	for _, h.Wide = range []int{0, 1, 3, 4, 5} {
		for _, h.Num = range []uint64{0, 1<<8 - 1, 1 << 8, 1<<32 - 1, 1 << 32} {
			do(h)
		}
	}
}

func TestMayOfAllEdges(t *testing.T) {
	edges(func(h H) {
		may := !faults(h)
		if header.May(h) != may {
			t.Fatalf("May(%#v) is not %t", h, may)
		}
		s, e := header.Put(h)
		if may && (e != api.OK || s == "") || !may && (e != api.ErrArg || s != "") {
			t.Fatalf("Put(%#v) = %x %d", h, s, e)
		}
	})
}

// P4.2

func TestGetTellsHeaderAndRest(t *testing.T) {
	for _, x := range forms() {
		for _, tail := range tails() {
			checkGet(t, x.s+tail, x.h, tail)
		}
	}
}

func TestGetOfTooFewBytes(t *testing.T) {
	checkNoHeader(t, "")
	for _, x := range forms() {
		for have := range len(x.s) {
			checkNoHeader(t, x.s[:have])
		}
	}
}

func TestGetOfEachFirstByteOfShortOnes(t *testing.T) {
	for first := range byte(0x80) {
		s := withFirst(first, "?abcdefgh\x01\x02\x03\x04xy")
		if first&0x40 == 0 || first&0x18 != 0 {
			checkNoHeader(t, s)
			continue
		}
		wide := int(first&3) + 1
		num := uint64(0x01020304) >> (8 * (4 - wide))
		h := H{Spin: first&0x20 != 0, Phase: first&4 != 0, Dcid: "abcdefgh", Wide: wide, Num: num}
		checkGet(t, s, h, s[shortBytes+wide:])
	}
}

func TestGetOfEachFirstByteOfLongOnes(t *testing.T) {
	for low := range byte(0x80) {
		first := 0x80 + low
		kind := int(first >> 4 & 3)
		parts, token := "?\x00\x00\x00\x01\x02ab\x01c", ""
		if kind == header.Initial {
			parts, token = parts+"\x02tk", "tk"
		}
		parts += "\x07"
		s := withFirst(first, parts+"\x01\x02\x03\x04xy")
		if first&0x40 == 0 || first&0x0c != 0 || kind == 3 {
			checkNoHeader(t, s)
			continue
		}
		wide := int(first&3) + 1
		num := uint64(0x01020304) >> (8 * (4 - wide))
		h := H{Long: true, Type: kind, Version: 1, Dcid: "ab", Scid: "c", Token: token, Length: 7, Wide: wide, Num: num}
		checkGet(t, s, h, s[len(parts)+wide:])
	}
}

func TestGetOfIdsThatAreTooLong(t *testing.T) {
	for _, first := range []string{"\xc0", "\xd0", "\xe0"} {
		for _, n := range []int{longestId, longestId + 1, 22, 63, 64, 128, 255} {
			id := string([]byte{byte(n)}) + strings.Repeat("i", n)
			dcid := first + "\x00\x00\x00\x01" + id + "\x00\x00\x00\x00\x00\x00\x00"
			scid := first + "\x00\x00\x00\x01\x00" + id + "\x00\x00\x00\x00\x00\x00"
			for _, s := range []string{dcid, scid} {
				if _, _, e := header.Get(s); (e == api.OK) != (n <= longestId) {
					t.Errorf("Get of an ID of %d bytes: %d", n, e)
				}
				if _, e := header.Place(s); (e == api.OK) != (n <= longestId) {
					t.Errorf("Place of an ID of %d bytes: %d", n, e)
				}
				if n > longestId {
					checkNoHeader(t, s)
					checkPlace(t, s, 0, api.ErrHeader)
				}
			}
		}
	}
}

func TestGetOfTokens(t *testing.T) {
	ahead, behind := "\xc0\x00\x00\x00\x01\x00\x00", "\x05\x09rest"
	for _, x := range []struct {
		size string
		n    int
	}{
		{"\x00", 0}, {"\x3f", 63}, {"\x40\x40", 64}, {"\x43\xe7", 999}, {"\x43\xe8", 1000},
		{"\x40\x00", 0}, {"\x80\x00\x00\x03", 3}, {"\xc0\x00\x00\x00\x00\x00\x03\xe8", 1000},
	} {
		token := strings.Repeat("t", x.n)
		h := H{Long: true, Version: 1, Token: token, Length: 5, Wide: 1, Num: 9}
		checkGet(t, ahead+x.size+token+behind, h, "rest")
		checkPlace(t, ahead+x.size+token+behind, len(ahead)+len(x.size)+x.n+1, api.OK)
	}
	// One that is too long, and sizes of more bytes than there are.
	tooLong, rest := strings.Repeat("t", longestToken+1), strings.Repeat("t", 100)
	for _, s := range []string{
		"\x43\xe9" + tooLong, "\x80\x00\x03\xe9" + tooLong, "\x44\x00" + tooLong + rest, "\x47\xd0" + rest,
		"\x3f" + rest[:50], "\x7f\xff" + rest, "\xbf\xff\xff\xff" + rest,
		"\xc0\x00\x00\x01\x00\x00\x00\x00" + rest, "\xff\xff\xff\xff\xff\xff\xff\xff" + rest,
	} {
		checkNoHeader(t, ahead+s+behind)
		checkPlace(t, ahead+s+behind, 0, api.ErrHeader)
	}
}

func TestGetTakesLengthsInMoreBytesThanTheyNeed(t *testing.T) {
	for _, first := range []string{"\xd0", "\xe0"} {
		for _, x := range []struct {
			size string
			n    uint64
		}{
			{"\x05", 5}, {"\x40\x05", 5}, {"\x80\x00\x00\x05", 5}, {"\xc0\x00\x00\x00\x00\x00\x00\x05", 5},
			{"\x40\x00", 0}, {"\x80\x00\x3f\xff", 1<<14 - 1}, {"\xff\xff\xff\xff\xff\xff\xff\xff", 1<<62 - 1},
		} {
			s := first + "\x00\x00\x00\x01\x01d\x00" + x.size
			h := H{Long: true, Type: int(first[0]) >> 4 & 3, Version: 1, Dcid: "d", Length: x.n, Wide: 1, Num: 9}
			checkGet(t, s+"\x09rest", h, "rest")
			checkPlace(t, s, len(s), api.OK)
		}
	}
}

// Length tells of what is behind the number's place, but nothing need be there.
func TestGetLooksAtNothingBehind(t *testing.T) {
	s := "\xd0\x00\x00\x00\x01\x00\x00\x50\x00\x07"
	h := H{Long: true, Type: header.Early, Version: 1, Length: 0x1000, Wide: 1, Num: 7}
	checkGet(t, s, h, "")
	checkGet(t, s+"\xc0", h, "\xc0")
}

// P4.3: Place

func TestPlaceOfEachForm(t *testing.T) {
	for _, x := range forms() {
		for _, tail := range tails() {
			checkPlace(t, x.s+tail, x.place, api.OK)
		}
	}
}

// Masked bits are any, and of the number any bytes may lack.
func TestPlaceLooksAtNothingMasked(t *testing.T) {
	for _, x := range forms() {
		for low := range byte(1) << lowBits(x.s[0]) {
			first := x.s[0]&^(1<<lowBits(x.s[0])-1) | low
			for end := x.place; end <= len(x.s); end++ {
				checkPlace(t, withFirst(first, x.s[:end]), x.place, api.OK)
			}
		}
	}
}

func TestPlaceOfTooFewBytes(t *testing.T) {
	checkPlace(t, "", 0, api.ErrHeader)
	for _, x := range forms() {
		for have := range x.place {
			checkPlace(t, x.s[:have], 0, api.ErrHeader)
		}
	}
}

func TestPlaceOfEachFirstByte(t *testing.T) {
	short, long := "?abcdefgh", "?\x00\x00\x00\x01\x02ab\x01c\x02\x42\x42\x07"
	for i := range 256 {
		first := byte(i)
		place, e := 0, api.ErrHeader
		switch {
		case first&0x40 == 0 || first >= 0xf0:
		case first < 0x80:
			place, e = 9, api.OK
		case first < 0xd0: // two bytes of a token, and a Length
			place, e = 14, api.OK
		default: // the Length is told by what would be the token's size
			place, e = 11, api.OK
		}
		s := short
		if first >= 0x80 {
			s = long
		}
		checkPlace(t, withFirst(first, s), place, e)
	}
}

// P4.3: Mask

func TestMaskLaysOnTheLowestBitsAndTheNumber(t *testing.T) {
	for _, x := range []struct{ s, mask, masked string }{
		{"\x40abcdefgh\x05", "\xff\xff\xff\xff\xff", "\x5fabcdefgh\xfa"},
		{"\x40abcdefgh\x05", "\xe0\x00\xff\xff\xff", "\x40abcdefgh\x05"},
		{"\x63abcdefgh\x01\x02\x03\x04", "\x10\x01\x01\x01\x01", "\x73abcdefgh\x00\x03\x02\x05"},
		{"\x45abcdefgh\x00\x00", "\x04\x12\x34\x56\x78", "\x41abcdefgh\x12\x34"},
		{"\x42abcdefgh\x00\x00\x00", "\x00\x12\x34\x56\x78", "\x42abcdefgh\x12\x34\x56"},
		{"\xc0\x00\x00\x00\x01\x01d\x01s\x02tk\x05\x05", "\xff\xff\xff\xff\xff", "\xcf\x00\x00\x00\x01\x01d\x01s\x02tk\x05\xfa"},
		{"\xd3\x00\x00\x00\x01\x01d\x01s\x05\x01\x02\x03\x04", "\x10\x10\x20\x40\x80", "\xd3\x00\x00\x00\x01\x01d\x01s\x05\x11\x22\x43\x84"},
		{"\xe1\x00\x00\x00\x01\x00\x00\x05\xff\x00", "\xf6\x0f\xf0\xff\xff", "\xe7\x00\x00\x00\x01\x00\x00\x05\xf0\xf0"},
	} {
		for _, tail := range tails() {
			checkMask(t, x.s+tail, x.mask, x.masked+tail, api.OK)
			checkUnmask(t, x.masked+tail, x.mask, x.s+tail, api.OK)
		}
	}
}

// masked tells s, whose number of so many bytes stands at place, with a mask laid on, byte by byte.
func masked(s, mask string, place, wide int) string {
	b := []byte(s)
	for bit := range lowBits(b[0]) {
		b[0] ^= mask[0] & (1 << bit)
	}
	for i := range wide {
		b[place+i] ^= mask[1+i]
	}
	return string(b)
}

func TestMaskOfEachFormByEachMask(t *testing.T) {
	for _, x := range forms() {
		for _, mask := range masks() {
			for _, tail := range tails() {
				want := masked(x.s+tail, mask, x.place, x.h.Wide)
				checkMask(t, x.s+tail, mask, want, api.OK)
				checkUnmask(t, want, mask, x.s+tail, api.OK)
			}
		}
	}
}

func TestMaskOfWhatIsNoHeader(t *testing.T) {
	var l []string
	for _, x := range forms() {
		for have := range len(x.s) {
			l = append(l, x.s[:have])
		}
		l = append(l, withFirst(x.s[0]^0x40, x.s), withFirst(x.s[0]|0x08, x.s))
	}
	l = append(l, "", "\x40", "\x50abcdefgh\x00\x00\x00\x00", "\xc4\x00\x00\x00\x01\x00\x00\x00\x00\x00", "\xf0\x00\x00\x00\x01\x00\x00\x00\x00\x00", "\xd0\x00\x00\x00\x01\x15"+strings.Repeat("d", 21)+"\x00\x00\x00")
	for _, s := range l {
		checkMask(t, s, "\x00\x00\x00\x00\x00", "", api.ErrHeader)
		checkMask(t, s, "\x08\x01\x02\x03\x04", "", api.ErrHeader)
	}
}

// The mask is asked first, whatever it is to be laid on.
func TestMasksThatHaveNotFiveBytes(t *testing.T) {
	l := []string{"", "\x00", "\x40", "\xf0\x00\x00\x00\x01\x00\x00\x00\x00\x00", "\x50abcdefgh\x00", strings.Repeat("x", 1200)}
	for _, x := range forms() {
		l = append(l, x.s, x.s+"rest", x.s[:x.place], x.s[:len(x.s)-1])
	}
	for _, s := range l {
		for _, mask := range wrongMasks() {
			checkMask(t, s, mask, "", api.ErrArg)
			checkUnmask(t, s, mask, "", api.ErrArg)
		}
	}
}

// P4.3: Unmask

func TestUnmaskOfTooFewBytes(t *testing.T) {
	for _, mask := range masks() {
		checkUnmask(t, "", mask, "", api.ErrHeader)
		for _, x := range forms() {
			s := masked(x.s, mask, x.place, x.h.Wide)
			for have := range len(s) {
				checkUnmask(t, s[:have], mask, "", api.ErrHeader)
			}
		}
	}
}

// How many bytes the number has is told by the bits that are turned back, not by those that are masked.
func TestUnmaskTellsTheNumbersBytesByTheBareByte(t *testing.T) {
	for _, ahead := range []string{"\x40abcdefgh", "\xd0\x00\x00\x00\x01\x00\x00\x05"} {
		for bare := range byte(4) {
			for turn := range byte(4) {
				mask := string([]byte{turn, 0, 0, 0, 0})
				s, want := withFirst(ahead[0]|bare^turn, ahead), withFirst(ahead[0]|bare, ahead)
				for have := range 6 {
					number := "\x01\x02\x03\x04\x05"[:have]
					if have <= int(bare) {
						checkUnmask(t, s+number, mask, "", api.ErrHeader)
					} else {
						checkUnmask(t, s+number, mask, want+number, api.OK)
					}
				}
			}
		}
	}
}

// behindFirst tells what stands between a first byte and a number, and which bits are 0 in the bare one.
func behindFirst(first byte) (parts string, unused byte) {
	switch {
	case first < 0x80:
		return "abcdefgh", 0x18
	case first>>4&3 == header.Initial:
		return "\x00\x00\x00\x01\x01d\x00\x03tkn\x05", 0x0c
	}
	return "\x00\x00\x00\x01\x01d\x00\x05", 0x0c
}

func TestUnmaskOfEachFirstByteByEachMask(t *testing.T) {
	for i := range 256 {
		first := byte(i)
		parts, unused := behindFirst(first)
		s := withFirst(first, "?"+parts+"\x10\x20\x30\x40xy")
		for turn := range 256 {
			mask := string([]byte{byte(turn), 1, 2, 3, 4})
			bare := first ^ byte(turn)&(1<<lowBits(first)-1)
			if first&0x40 == 0 || first >= 0xf0 || bare&unused != 0 {
				checkUnmask(t, s, mask, "", api.ErrHeader)
			} else {
				checkUnmask(t, s, mask, masked(s, mask, 1+len(parts), int(bare&3)+1), api.OK)
			}
		}
	}
}

// P4.4

// strewn tells numbers by a fixed rule.
type strewn uint64

func (x *strewn) below(n int) int {
	*x = *x*6364136223846793005 + 1442695040888963407
	return int(uint64(*x) >> 33 % uint64(n))
}

func (x *strewn) text(n int) string {
	b := make([]byte, n)
	for i := range b {
		b[i] = byte(x.below(256))
	}
	return string(b)
}

func (x *strewn) number(bits int) uint64 {
	n := uint64(x.below(1<<31))<<33 ^ uint64(x.below(1<<31))<<16 ^ uint64(x.below(1<<31))
	return n >> (64 - bits + x.below(bits))
}

// header tells one that may be: a short one, or a long one of each type.
func (x *strewn) header() H {
	h := H{Wide: 1 + x.below(4)}
	h.Num = x.number(8 * h.Wide)
	if x.below(3) == 0 {
		h.Spin, h.Phase, h.Dcid = x.below(2) == 0, x.below(2) == 0, x.text(8)
		return h
	}
	h.Long, h.Type, h.Version = true, x.below(3), uint32(x.number(32))
	h.Dcid, h.Scid, h.Length = x.text(x.below(21)), x.text(x.below(21)), x.number(62)
	if h.Type == header.Initial {
		h.Token = x.text(x.below(1 + x.below(1001)))
	}
	return h
}

func TestWhatIsPutIsGotBack(t *testing.T) {
	x := strewn(4)
	for range 5000 {
		h, tail := x.header(), x.text(x.below(60))
		s, e := header.Put(h)
		if e != api.OK || !header.May(h) {
			t.Fatalf("Put(%#v) = %x %d", h, s, e)
		}
		if got, rest, e := header.Get(s + tail); got != h || rest != tail || e != api.OK {
			t.Fatalf("%#v came back as %#v %x %d", h, got, rest, e)
		}
		if place, e := header.Place(s + tail); place != len(s)-h.Wide || e != api.OK {
			t.Fatalf("Place(%x) = %d %d", s, place, e)
		}
	}
}

func TestAllEdgesThatMayBeAreGotBack(t *testing.T) {
	edges(func(h H) {
		s, e := header.Put(h)
		if e != api.OK {
			return
		}
		if got, rest, e := header.Get(s + "\x00rest"); got != h || rest != "\x00rest" || e != api.OK {
			t.Fatalf("%#v came back as %#v %x %d", h, got, rest, e)
		}
	})
}

func TestWhatIsMaskedIsUnmasked(t *testing.T) {
	x := strewn(44)
	for range 5000 {
		h, tail, mask := x.header(), x.text(x.below(60)), x.text(maskLen)
		s, _ := header.Put(h)
		s += tail
		veiled, e := header.Mask(s, mask)
		if e != api.OK || veiled != masked(s, mask, len(s)-len(tail)-h.Wide, h.Wide) {
			t.Fatalf("Mask(%x, %x) = %x %d", s, mask, veiled, e)
		}
		if place, e := header.Place(veiled); place != len(s)-len(tail)-h.Wide || e != api.OK {
			t.Fatalf("Place(%x) = %d %d", veiled, place, e)
		}
		if bare, e := header.Unmask(veiled, mask); bare != s || e != api.OK {
			t.Fatalf("Unmask(%x, %x) = %x %d, not %x", veiled, mask, bare, e, s)
		}
	}
}

// reckoned reads a header by places in the text, for the calls to be held against.
func reckoned(s string) (h H, place int, ahead, whole bool) {
	at := func(i int) int {
		if i < 0 || i >= len(s) {
			return 0
		}
		return int(s[i])
	}
	number := func(from, wide int) (n uint64) {
		for i := range wide {
			n = n<<8 + uint64(at(from+i))
		}
		return n
	}
	part := func(from, n int) string {
		if n < 0 || from+n > len(s) {
			return ""
		}
		return s[from : from+n]
	}
	first := at(0)
	if first < 0x80 {
		h = H{Spin: first>>5&1 == 1, Phase: first>>2&1 == 1, Dcid: part(1, 8)}
		place = 9
	} else {
		h = H{Long: true, Type: first >> 4 & 3, Version: uint32(number(1, 4))}
		h.Dcid = part(6, at(5))
		place = 6 + at(5)
		h.Scid = part(place+1, at(place))
		place += 1 + at(place)
		if h.Type == 0 {
			wide := 1 << (at(place) >> 6)
			n := number(place, wide) & (1<<(8*wide-2) - 1)
			if n > 2000 || place+wide > len(s) {
				return h, 0, false, false
			}
			h.Token = part(place+wide, int(n))
			place += wide + int(n)
		}
		wide := 1 << (at(place) >> 6)
		h.Length = number(place, wide) & (1<<(8*wide-2) - 1)
		place += wide
	}
	ahead = first>>6&1 == 1 && place <= len(s) && len(h.Dcid) <= 20 && len(h.Scid) <= 20 && len(h.Token) <= 1000 && h.Type < 3
	h.Wide = first&3 + 1
	h.Num = number(place, h.Wide)
	whole = ahead && place+h.Wide <= len(s) && (h.Long && first&0x0c == 0 || !h.Long && first&0x18 == 0)
	return h, place, ahead, whole
}

// checkReckoned holds all calls on s, which may be any text, against what was reckoned.
func checkReckoned(t *testing.T, s, mask string) {
	t.Helper()
	h, place, ahead, whole := reckoned(s)
	if whole {
		checkGet(t, s, h, s[place+h.Wide:])
		checkMask(t, s, mask, masked(s, mask, place, h.Wide), api.OK)
	} else {
		checkNoHeader(t, s)
		checkMask(t, s, mask, "", api.ErrHeader)
	}
	if !ahead {
		checkPlace(t, s, 0, api.ErrHeader)
		checkUnmask(t, s, mask, "", api.ErrHeader)
		return
	}
	checkPlace(t, s, place, api.OK)
	wide := int((s[0]^mask[0])&3) + 1
	if place+wide > len(s) {
		checkUnmask(t, s, mask, "", api.ErrHeader)
		return
	}
	bare := masked(s, mask, place, wide)
	if _, _, _, whole := reckoned(bare); whole {
		checkUnmask(t, s, mask, bare, api.OK)
	} else {
		checkUnmask(t, s, mask, "", api.ErrHeader)
	}
}

func TestEachByteOfEachFormIsAny(t *testing.T) {
	x := strewn(444)
	for _, f := range forms() {
		s := f.s + "tail"
		for place := range min(len(s), 60) {
			for value := range 256 {
				b := []byte(s)
				b[place] = byte(value)
				checkReckoned(t, string(b), x.text(maskLen))
				if t.Failed() {
					return
				}
			}
		}
	}
}

func TestTextsOfAnyBytes(t *testing.T) {
	x := strewn(4444)
	for range 20000 {
		s := x.text(x.below(60))
		if x.below(2) == 0 {
			s, _ = header.Put(x.header())
			s = s[:x.below(len(s)+1)] + x.text(x.below(4))
		}
		checkReckoned(t, s, x.text(maskLen))
		if t.Failed() {
			return
		}
	}
}

func TestWhatIsAnsweredHangsOnTheArgumentsAlone(t *testing.T) {
	for _, x := range forms() {
		for range 2 {
			checkPut(t, x.h, x.s, api.OK)
			checkGet(t, x.s, x.h, "")
			checkPlace(t, x.s, x.place, api.OK)
			checkMask(t, x.s, "\x01\x02\x03\x04\x05", masked(x.s, "\x01\x02\x03\x04\x05", x.place, x.h.Wide), api.OK)
		}
	}
}
