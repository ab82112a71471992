package digest_test

import (
	"crypto/sha256"
	"encoding/hex"
	"fmt"
	"slices"
	"strings"
	"sync"
	"testing"

	"domino/digest"
)

const (
	abcSum   = "ba7816bf8f01cfea414140de5dae2223b00361a396177a9cb410ff61f20015ad"
	emptySum = "e3b0c44298fc1c149afbf4c8996fb92427ae41e4649b934ca495991b7852b855"
)

// known is texts, and the digits of their sum as they are published, or were reckoned by another program.
type known struct {
	name string
	l    []string
	hex  string
}

// published are the examples of FIPS 180-4, and those that stand beside them.
func published() []known {
	a1000 := strings.Repeat("a", 1000)
	return []known{
		{"no byte", []string{""}, emptySum},
		{"one block", []string{"abc"}, abcSum},
		{"two blocks", []string{"abcdbcdecdefdefgefghfghighijhijkijkljklmklmnlmnomnopnopq"}, "248d6a61d20638b8e5c026930c3e6039a33ce45964ff2167f6ecedd419db06c1"},
		{"two blocks, 112 bytes", []string{"abcdefghbcdefghicdefghijdefghijkefghijklfghijklmghijklmnhijklmnoijklmnopjklmnopqklmnopqrlmnopqrsmnopqrstnopqrstu"}, "cf5b16a778af8380036ce59e7b0492370b249b11e8f07a51afac45037afee9d1"},
		{"bd", []string{"\xbd"}, "68325720aabd7c82f30f554b313d0570c95accbb7dc4b5aae11204c08ffe732b"},
		{"c98c8e55", []string{"\xc9\x8c\x8e\x55"}, "7abc22c0ae5af26ce93dbb94433a0e0b2e119d014f8e7f65bd56c61ccccd9504"},
		{"1000 bytes A", []string{strings.Repeat("A", 1000)}, "c2e686823489ced2017f6059b8b239318b6364f6dcd835d0a519105a1eadd6e4"},
		{"1005 bytes U", []string{strings.Repeat("U", 1005)}, "f4d62ddec0f3dd90ea1380fa16a5ff8dc4c54b21740650f24afc4120903552b0"},
		{"a million bytes a", slices.Repeat([]string{a1000}, 1000), "cdc76e5c9914fb9281a1c7e284d73e67f1809a48a497200e046d39ccc7112cd0"},
	}
}

// edge is a number of bytes, and the digits of the sums of so many bytes 0, and of so many bytes 255.
type edge struct {
	many         int
	zeros, nines string
}

func edges() []edge {
	return []edge{
		{1, "6e340b9cffb37a989ca544e6bb780a2c78901d3fb33738768511a30617afa01d", "a8100ae6aa1940d0b663bb31cd466142ebbdbd5187131b92d93818987832eb89"},
		{55, "02779466cdec163811d078815c633f21901413081449002f24aa3e80f0b88ef7", "aadaed00a3c5fbb8072ae7f1984ba8199fbe5272de427d11eaf31583af37db51"},
		{56, "d4817aa5497628e7c77e6b606107042bbba3130888c5f47a375e6179be789fbb", "528ff50ab05e77bbbd224a9ec86165dbb6824a9a9efb544be0a1d57d5b416457"},
		{57, "65a16cb7861335d5ace3c60718b5052e44660726da4cd13bb745381b235a1785", "6eaa0abf8d7eda3e157692f5191a59bc08196ac193f6ac3bdde2af54214f2240"},
		{63, "c7723fa1e0127975e49e62e753db53924c1bd84b8ac1ac08df78d09270f3d971", "d12449c8124182545ae91924286cc6af13528bcf62a5ddbd5e00b891fffc1b48"},
		{64, "f5a5fd42d16a20302798ef6ed309979b43003d2320d9f0e8ea9831a92759fb4b", "8667e718294e9e0df1d30600ba3eeb201f764aad2dad72748643e4a285e1d1f7"},
		{65, "98ce42deef51d40269d542f5314bef2c7468d401ad5d85168bfab4c0108f75f7", "855c9a28fff2bbbd71327165554a00c6fdd44d5d58c1f12b8fdff29b5d67f001"},
		{119, "f616b0d54e78571a9611f343c9f8e022e859e920381ab0e4d3da01e193a7bd7e", "b863f94597d433ef2280e3b4656f13ea265a79bb8047287321c218905b03c99b"},
		{120, "6edd9f6f9cc92cded36e6c4a580933f9c9f1b90562b46903b806f21902a1a54f", "9088fee917e5a748c2f0b4f5458c1cbdabbd696291c69be6e605bae0ef779e8f"},
		{127, "15dae5979058bfbf4f9166029b6e340ea3ca374fef578a11dc9e6e923860d7ae", "67341bf96ebc543506d0ef5c98288263306e5454b082aba87e881d54c007fba7"},
		{128, "38723a2e5e8a17aa7950dc008209944e898f69a7bd10a23c839d341e935fd5ca", "e9175db65a9789096ca9cb5524d3abc2107df03e3c9ba3af1aca628f9c5d3bd2"},
		{129, "2c80619d7e7c58257293cda3a878c13e5856f4e06f6f90601276f7b9179c9e07", "c458df9bcd770f7a870b3bf6fa4c6f7c19d03c5015e40b0d8dbede68a0764e54"},
		{1000, "541b3e9daa09b20bf85fa273e5cbd3e80185aa4ec298e765db87742b70138a53", "b4f73dff046400b76728ab32619e3d89e00132653725f660c62ab9fca975b372"},
		{2000, "2da42fb1d7bd8524e83d5a1e332bad697c8769ba430770a19bec630eb8ffcaa8", "19813270963599ad8ba084792ca1c8fcae3bc421aee518e709642df647fba6fe"},
	}
}

// strewn tells so many bytes by a fixed rule; each seed has its own.
func strewn(seed uint64, many int) string {
	x := seed*0x9e3779b97f4a7c15 + 1
	b := make([]byte, many)
	for i := range b {
		x = x*6364136223846793005 + 1442695040888963407
		b[i] = byte(x >> 56)
	}
	return string(b)
}

// second is a second reckoning of a sum, by the library.
func second(s string) string {
	sum := sha256.Sum256([]byte(s))
	return string(sum[:])
}

// raw is the bytes of digits, by the library.
func raw(t *testing.T, digits string) string {
	t.Helper()
	b, e := hex.DecodeString(digits)
	if e != nil {
		t.Fatal(e)
	}
	return string(b)
}

// one is the text of one byte, also of one above 127.
func one(b int) string {
	return string([]byte{byte(b)})
}

// samples are texts of all kinds.
func samples() []string {
	all := make([]byte, 256)
	for i := range all {
		all[i] = byte(i)
	}
	l := []string{"", "\x00", "\xff", "a", "ab", "\x0f\xf0", "zwölf Bäume, 木", string(all), strings.Repeat("\x00", 2000), strings.Repeat("\xff", 2000)}
	for i := range 40 {
		l = append(l, strewn(uint64(i), 50*i+1))
	}
	return l
}

// The chapter's example.
func TestTheExample(t *testing.T) {
	if s := digest.Hex(digest.Sum("abc")); s != abcSum {
		t.Errorf("Hex of Sum of abc is %s, not %s", s, abcSum)
	}
}

// P7.1

func TestPublishedSums(t *testing.T) {
	for _, x := range published() {
		if s := digest.Sum(x.l...); s != raw(t, x.hex) {
			t.Errorf("%s: %x, not %s", x.name, s, x.hex)
		}
	}
}

func TestSumOfNoText(t *testing.T) {
	want := raw(t, emptySum)
	var none []string
	for name, s := range map[string]string{
		"no text":          digest.Sum(),
		"a nil list":       digest.Sum(none...),
		"an empty list":    digest.Sum([]string{}...),
		"one empty text":   digest.Sum(""),
		"two empty texts":  digest.Sum("", ""),
		"many empty texts": digest.Sum(make([]string, 120)...),
	} {
		if s != want {
			t.Errorf("%s: %x, not %s", name, s, emptySum)
		}
	}
}

func TestSumOfBytes0And255(t *testing.T) {
	for _, x := range edges() {
		if s := digest.Sum(strings.Repeat("\x00", x.many)); s != raw(t, x.zeros) {
			t.Errorf("%d bytes 0: %x, not %s", x.many, s, x.zeros)
		}
		if s := digest.Sum(strings.Repeat("\xff", x.many)); s != raw(t, x.nines) {
			t.Errorf("%d bytes 255: %x, not %s", x.many, s, x.nines)
		}
	}
}

func TestSumOfEachByte(t *testing.T) {
	for b := range 256 {
		if s := digest.Sum(one(b)); s != second(one(b)) {
			t.Errorf("Sum of the byte %d is %x", b, s)
		}
	}
}

func TestSumOfEachLength(t *testing.T) {
	for many := range 2001 {
		text := strewn(uint64(many), many)
		if s := digest.Sum(text); s != second(text) {
			t.Fatalf("Sum of %d bytes is %x", many, s)
		}
	}
}

// Of one bit after the other: no bit of a text is passed by, at whichever place.
func TestSumOfEachBit(t *testing.T) {
	for _, many := range []int{1, 55, 56, 64, 65, 120} {
		for bit := range 8 * many {
			b := make([]byte, many)
			b[bit/8] = 1 << (bit % 8)
			if s := digest.Sum(string(b)); s != second(string(b)) {
				t.Fatalf("Sum of %d bytes with the bit %d is %x", many, bit, s)
			}
		}
	}
}

func TestSumHas32Bytes(t *testing.T) {
	for _, text := range samples() {
		if s := digest.Sum(text); len(s) != 32 {
			t.Errorf("Sum of %d bytes has %d", len(text), len(s))
		}
	}
}

// Texts stand in the sum in the order in which they are handed in.
func TestSumOfTextsInOrder(t *testing.T) {
	for _, l := range [][]string{
		{"a", "b", "c"},
		{"c", "b", "a"},
		{"", "a", "", "a", "b", ""},
		{"b", "a", "a"},
		samples(),
	} {
		if s := digest.Sum(l...); s != second(strings.Join(l, "")) {
			t.Errorf("Sum of %d texts is %x", len(l), s)
		}
	}
}

// P7.2

func TestHexOfEachByte(t *testing.T) {
	if s := digest.Hex(""); s != "" {
		t.Errorf("Hex of no byte is %q", s)
	}
	for b := range 256 {
		want := fmt.Sprintf("%02x", b)
		if s := digest.Hex(one(b)); s != want {
			t.Errorf("Hex of the byte %d is %q, not %s", b, s, want)
		}
	}
}

func TestHexWrittenOut(t *testing.T) {
	for _, x := range []struct{ s, hex string }{
		{"\x12\x34", "1234"},
		{"\x0f\xf0", "0ff0"},
		{"\xa1\x1a", "a11a"},
		{"\x00\x00\x00", "000000"},
		{"\xff\xff", "ffff"},
		{"\x01\x23\x45\x67\x89\xab\xcd\xef", "0123456789abcdef"},
		{"\xfe\xdc\xba\x98\x76\x54\x32\x10", "fedcba9876543210"},
		{"abc", "616263"},
		{"ö木", "c3b6e69ca8"},
		{"\xc3", "c3"},
		{"\x80\xff\x80", "80ff80"},
	} {
		if s := digest.Hex(x.s); s != x.hex {
			t.Errorf("Hex of %q is %q, not %s", x.s, s, x.hex)
		}
		if s, ok := digest.Unhex(x.hex); s != x.s || !ok {
			t.Errorf("Unhex of %s is %q %t", x.hex, s, ok)
		}
	}
}

func TestHexOfTexts(t *testing.T) {
	for _, s := range samples() {
		if h := digest.Hex(s); h != hex.EncodeToString([]byte(s)) {
			t.Errorf("Hex of %q is %q", s, h)
		}
	}
}

func TestUnhexOfNoDigit(t *testing.T) {
	if s, ok := digest.Unhex(""); s != "" || !ok {
		t.Errorf("Unhex of nothing is %q %t", s, ok)
	}
}

func TestUnhexOfAnOddNumberOfDigits(t *testing.T) {
	for _, s := range []string{"0", "f", "a", "000", "012", "fff", "0123456789abcde", abcSum[1:], strings.Repeat("0", 1999), "g", "0g0", "G"} {
		refused(t, s)
	}
}

// refused holds what is no Hex against what is told of it: nothing, and false.
func refused(t *testing.T, s string) {
	t.Helper()
	if text, ok := digest.Unhex(s); text != "" || ok {
		t.Errorf("Unhex of %q is %q %t", s, text, ok)
	}
}

// value is what a digit is, written out; below 0 of any other byte.
func value(b int) int {
	switch {
	case b >= '0' && b <= '9':
		return b - '0'
	case b >= 'a' && b <= 'f':
		return 10 + b - 'a'
	}
	return -1
}

// All pairs of bytes: each digit, and each byte that is none, first and second, of a pair alone.
func TestUnhexOfEachPair(t *testing.T) {
	digits := 0
	for a := range 256 {
		for b := range 256 {
			s := one(a) + one(b)
			if value(a) < 0 || value(b) < 0 {
				refused(t, s)
				continue
			}
			digits++
			if text, ok := digest.Unhex(s); text != one(16*value(a)+value(b)) || !ok {
				t.Errorf("Unhex of %q is %q %t", s, text, ok)
			}
		}
	}
	if digits != 256 {
		t.Errorf("%d pairs have digits alone", digits)
	}
}

// A byte that is no digit is found at every place, also behind a text that was read ahead of it.
func TestUnhexOfOneWrongByte(t *testing.T) {
	for b := range 256 {
		if value(b) >= 0 {
			continue
		}
		for place := range 8 {
			s := []byte("01ab89ef")
			s[place] = byte(b)
			refused(t, string(s))
		}
	}
}

func TestUnhexOfGreatLetters(t *testing.T) {
	for _, s := range []string{"AA", "Aa", "aA", "BB", "B0", "0B", "CC", "c0C1", "DD", "dD", "EE", "1E", "FF", "fF", "Ff", "0F", "00FF", "FF00", "0X", "0x", "0x00"} {
		refused(t, s)
	}
	refused(t, strings.ToUpper(abcSum))
}

// What is no digit by its rune is none by its bytes.
func TestUnhexOfOtherDigits(t *testing.T) {
	for _, s := range []string{"à0", "٣", "٣٣", "０", "0０0", "ａ0", " 00", "00 ", "0 0 ", "+0", "-1", "1_", "0\x00"} {
		refused(t, s)
	}
}

func TestUnhexOfHex(t *testing.T) {
	for _, s := range samples() {
		if back, ok := digest.Unhex(digest.Hex(s)); back != s || !ok {
			t.Errorf("%q came back as %q %t", s, back, ok)
		}
	}
}

// There is no text but those that Unhex takes whose Hex is s.
func TestHexOfUnhex(t *testing.T) {
	for i := range 2000 {
		b := []byte(strewn(uint64(i), i%9))
		for k := range b {
			b[k] = "0123456789abcdefAFgG\x00\xff"[b[k]%22]
		}
		s := string(b)
		want, e := hex.DecodeString(s)
		if e != nil || strings.ToLower(s) != s {
			refused(t, s)
			continue
		}
		text, ok := digest.Unhex(s)
		if !ok || text != string(want) || digest.Hex(text) != s {
			t.Errorf("Unhex of %q is %q %t", s, text, ok)
		}
	}
}

// P7.3

func TestXorOfEachPairOfBytes(t *testing.T) {
	for a := range 256 {
		for b := range 256 {
			want := 0
			for bit := 1; bit < 256; bit *= 2 {
				if (a/bit)%2 != (b/bit)%2 {
					want += bit
				}
			}
			if s := digest.Xor(one(a), one(b)); s != one(want) {
				t.Fatalf("Xor of %d and %d is %q, not %d", a, b, s, want)
			}
		}
	}
}

func TestXorWrittenOut(t *testing.T) {
	for _, x := range []struct{ a, b, s string }{
		{"", "", ""},
		{"", "a", ""},
		{"a", "", ""},
		{"", strings.Repeat("a", 2000), ""},
		{strings.Repeat("a", 2000), "", ""},
		{"\x0f\xff", "\xff\x0f", "\xf0\xf0"},
		{"\x0f\xff", "\xff", "\xf0"},
		{"\xff", "\x0f\xff", "\xf0"},
		{"abc", "   ", "ABC"},
		{"abc", "   def", "ABC"},
		{"   def", "abc", "ABC"},
		{"abc", "\x00\x00\x00", "abc"},
		{"\x00\x00", "abc", "ab"},
		{"\xc3\xb6", "\xff\xff", "\x3c\x49"},
		{"ö木", "\x00\x00\x00\x00\x00", "ö木"},
	} {
		if s := digest.Xor(x.a, x.b); s != x.s {
			t.Errorf("Xor of %q and %q is %q, not %q", x.a, x.b, s, x.s)
		}
	}
}

func TestXorOfTextsOfAllLengths(t *testing.T) {
	for n := range 40 {
		for m := range 40 {
			a, b := strewn(uint64(n), n), strewn(uint64(100+m), m)
			want := make([]byte, min(n, m))
			for i := range want {
				want[i] = a[i] ^ b[i]
			}
			if s := digest.Xor(a, b); s != string(want) {
				t.Fatalf("Xor of %x and %x is %x", a, b, s)
			}
		}
	}
}

func TestXorOfATextWithItself(t *testing.T) {
	for _, s := range samples() {
		if x := digest.Xor(s, s); x != strings.Repeat("\x00", len(s)) {
			t.Errorf("Xor of %q with itself is %q", s, x)
		}
		mask := strewn(7, len(s))
		if back := digest.Xor(digest.Xor(s, mask), mask); back != s {
			t.Errorf("%q came back as %q", s, back)
		}
	}
}

// P7.4

func TestSumOfATextInTwoParts(t *testing.T) {
	for _, many := range []int{1, 3, 55, 56, 63, 64, 65, 119, 127, 128, 129, 200} {
		text := strewn(uint64(many), many)
		want := second(text)
		for at := range many + 1 {
			if s := digest.Sum(text[:at], text[at:]); s != want {
				t.Fatalf("Sum of %d bytes, parted at %d, is %x", many, at, s)
			}
		}
	}
}

func TestSumOfATextInThreeParts(t *testing.T) {
	text := strewn(9, 130)
	want := second(text)
	for _, a := range []int{0, 1, 54, 55, 56, 63, 64, 65} {
		for b := a; b <= len(text); b++ {
			if s := digest.Sum(text[:a], text[a:b], text[b:]); s != want {
				t.Fatalf("Sum of a text, parted at %d and %d, is %x", a, b, s)
			}
		}
	}
}

func TestSumOfATextByteByByte(t *testing.T) {
	text := strewn(3, 120)
	var bytes, apart []string
	for i := range len(text) {
		bytes = append(bytes, text[i:i+1])
		apart = append(apart, "", text[i:i+1], "")
	}
	for name, s := range map[string]string{
		"byte by byte":         digest.Sum(bytes...),
		"with nothing between": digest.Sum(apart...),
		"whole":                digest.Sum(text),
		"with nothing around":  digest.Sum("", text, "", ""),
	} {
		if s != second(text) {
			t.Errorf("%s: %x", name, s)
		}
	}
}

// Parts of any lengths, up to 120 of them, as a fixed rule strews them.
func TestSumOfATextInManyParts(t *testing.T) {
	for seed := range 200 {
		text := strewn(uint64(seed), 2000)
		var l []string
		left := text
		for _, n := range []byte(strewn(uint64(1000+seed), 119)) {
			cut := min(int(n)%40, len(left))
			l, left = append(l, left[:cut]), left[cut:]
		}
		l = append(l, left)
		if s := digest.Sum(l...); s != second(text) {
			t.Fatalf("Sum of %d parts is %x", len(l), s)
		}
	}
}

// Other bytes have other sums, however alike they are.
func TestSumsOfOtherBytes(t *testing.T) {
	l := [][]string{{}, {"\x00"}, {"\x00", "\x00"}, {"\x80"}, {"a"}, {"b"}, {"ab"}, {"ba"}, {"a", "bc"}, {"a", "cb"}, {"abc\x00"}, {"abc\x80"}, {"\x00abc"}}
	for many := range 130 {
		l = append(l, []string{strings.Repeat("z", many+1)})
	}
	seen := map[string]int{}
	for i, texts := range l {
		s := digest.Sum(texts...)
		if k, ok := seen[s]; ok {
			t.Errorf("%q and %q have the same sum", l[k], texts)
		}
		seen[s] = i
	}
}

// R4

func TestWhatIsHandedInIsNotChanged(t *testing.T) {
	l := make([]string, 5, 9)
	copy(l, []string{"a", "", "bc", "\xff", "d"})
	kept := slices.Clone(l[:9])
	digest.Sum(l...)
	digest.Sum(l[1:3]...)
	if !slices.Equal(l[:9], kept) {
		t.Errorf("Sum changed %q to %q", kept, l[:9])
	}
}

// R5

func TestCallsHangOnTheirArgumentsAlone(t *testing.T) {
	var all sync.WaitGroup
	for worker := range 8 {
		all.Go(func() {
			for i := range 50 {
				text := strewn(uint64(i), 37*i%300)
				if s := digest.Sum(text[:len(text)/2], text[len(text)/2:]); s != second(text) {
					t.Errorf("worker %d: Sum of %x is %x", worker, text, s)
				}
			}
		})
	}
	all.Wait()
	for range 3 {
		if s := digest.Hex(digest.Sum("abc")); s != abcSum {
			t.Errorf("Sum of abc, again, is %s", s)
		}
	}
}
