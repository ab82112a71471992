package kdf_test

import (
	"crypto/hkdf"
	"crypto/hmac"
	"crypto/sha256"
	"encoding/hex"
	"math"
	"slices"
	"strings"
	"sync"
	"testing"

	"domino/api"
	"domino/kdf"
)

// most is how many bytes a secret is expanded to at most.
const most = 8160

// strewn tells so many bytes by a fixed rule; each seed has its own.
func strewn(seed uint64, many int) string {
	x := seed*0x9e3779b97f4a7c15 + 1
	b := make([]byte, many)
	for i := range b {
		x = x*6364136223846793005 + 1442695040888963407
		b[i] = byte(x >> 56)
	}
	return string(b)
}

// rising tells the bytes from the first one to the last one.
func rising(first, last int) string {
	var b []byte
	for n := first; n <= last; n++ {
		b = append(b, byte(n))
	}
	return string(b)
}

// raw is the bytes of digits, by the library.
func raw(t *testing.T, digits string) string {
	t.Helper()
	b, e := hex.DecodeString(digits)
	if e != nil {
		t.Fatal(e)
	}
	return string(b)
}

// secondMac is a second reckoning of a Mac, by the library.
func secondMac(key string, l ...string) string {
	h := hmac.New(sha256.New, []byte(key))
	for _, s := range l {
		h.Write([]byte(s))
	}
	return string(h.Sum(nil))
}

// secondExpand is a second reckoning of Expand, by the library.
func secondExpand(t *testing.T, key, info string, n int) string {
	t.Helper()
	b, e := hkdf.Expand(sha256.New, []byte(key), info, n)
	if e != nil {
		t.Fatal(e)
	}
	return string(b)
}

// info is what Label expands a secret by, with n in two bytes, written out.
func info(label, context string, high, low byte) string {
	return string([]byte{high, low, byte(len(label) + 6)}) + "tls13 " + label + string([]byte{byte(len(context))}) + context
}

// keys are secrets and keys of all lengths that the chapter tells apart, and long ones.
func keys() []string {
	var l []string
	for i, many := range []int{0, 1, 12, 31, 32, 33, 62, 63, 64, 65, 66, 100, 127, 128, 129, 200, 2000} {
		l = append(l, strewn(uint64(i), many))
	}
	return append(l, "domino", "zwölf Bäume, 木", "\x00", strings.Repeat("\x00", 32), strings.Repeat("\x00", 64), strings.Repeat("\xff", 65))
}

// expanded holds what was told beside an error or none against what is wanted of it.
func expanded(t *testing.T, name, s string, e api.Errno, want string) {
	t.Helper()
	if s != want || e != api.OK {
		t.Errorf("%s: %x %d, not %x", name, s, e, want)
	}
}

// refused holds what was told against ErrArg, and nothing.
func refused(t *testing.T, name, s string, e api.Errno) {
	t.Helper()
	if s != "" || e != api.ErrArg {
		t.Errorf("%s: %d bytes, error %d", name, len(s), e)
	}
}

// The chapter's example.
func TestTheExample(t *testing.T) {
	if s := kdf.Mac("Jefe", "what do ya want for nothing?"); !strings.HasPrefix(s, "\x5b\xdc\xc1\x46") {
		t.Errorf("Mac begins by %x", s[:4])
	}
}

// P8.1

// The examples of RFC 4231.
func TestPublishedMacs(t *testing.T) {
	aa := strings.Repeat("\xaa", 131)
	for name, x := range map[string]struct{ key, text, hex string }{
		"case 1": {strings.Repeat("\x0b", 20), "Hi There", "b0344c61d8db38535ca8afceaf0bf12b881dc200c9833da726e9376c2e32cff7"},
		"case 2": {"Jefe", "what do ya want for nothing?", "5bdcc146bf60754e6a042426089575c75a003f089d2739839dec58b964ec3843"},
		"case 3": {strings.Repeat("\xaa", 20), strings.Repeat("\xdd", 50), "773ea91e36800e46854db8ebd09181a72959098b3ef8c122d9635514ced565fe"},
		"case 4": {rising(1, 25), strings.Repeat("\xcd", 50), "82558a389a443c0ea4cc819899f2083a85f0faa3e578f8077a2e3ff46729665b"},
		"case 6": {aa, "Test Using Larger Than Block-Size Key - Hash Key First", "60e431591ee0b67f0d8a26aacbf5b77f8e0bc6213728c5140546040f0ee37f54"},
		"case 7": {aa, "This is a test using a larger than block-size key and a larger than block-size data. The key needs to be hashed before being used by the HMAC algorithm.", "9b09ffa71b942fcb27635fbcd5b0e944bfdc63644f0713938a7f51535c3a35e2"},
	} {
		if s := kdf.Mac(x.key, x.text); s != raw(t, x.hex) {
			t.Errorf("%s: %x, not %s", name, s, x.hex)
		}
	}
	// Of case 5 half of the Mac is published.
	if s := kdf.Mac(strings.Repeat("\x0c", 20), "Test With Truncation"); s[:16] != raw(t, "a3b6167473100ee06e0c796c2955552b") {
		t.Errorf("case 5: %x", s)
	}
}

func TestMacOfKeysOfEachLength(t *testing.T) {
	for many := range 201 {
		key := strewn(uint64(many), many)
		for _, text := range []string{"", "a", strewn(7, 64)} {
			if s := kdf.Mac(key, text); s != secondMac(key, text) || len(s) != 32 {
				t.Fatalf("Mac by a key of %d bytes of %d bytes is %x", many, len(text), s)
			}
		}
	}
}

func TestMacOfEachKindOfKey(t *testing.T) {
	for _, key := range keys() {
		if s := kdf.Mac(key, "text"); s != secondMac(key, "text") {
			t.Errorf("Mac by a key of %d bytes is %x", len(key), s)
		}
	}
}

// A key above a block counts as its sum; one of a block, or less, does not.
func TestMacOfASummedKey(t *testing.T) {
	for _, many := range []int{1, 63, 64, 65, 66, 200} {
		key := strewn(1, many)
		sum := sha256.Sum256([]byte(key))
		alike := kdf.Mac(key, "text") == kdf.Mac(string(sum[:]), "text")
		if alike != (many > 64) {
			t.Errorf("a key of %d bytes counts as its sum: %t", many, alike)
		}
	}
}

// A key that is filled up by hand, to a block at most, is the same one.
func TestMacOfAFilledKey(t *testing.T) {
	for _, many := range []int{0, 1, 20, 63, 64} {
		key := strewn(3, many)
		for filled := key; len(filled) <= 64; filled += "\x00" {
			if kdf.Mac(filled, "text") != kdf.Mac(key, "text") {
				t.Errorf("a key of %d bytes is another one when filled to %d", many, len(filled))
			}
		}
	}
	if kdf.Mac("", "text") == kdf.Mac(strings.Repeat("\x00", 65), "text") {
		t.Error("65 bytes 0 count as none")
	}
}

func TestMacOfNoText(t *testing.T) {
	var none []string
	for _, key := range keys() {
		want := secondMac(key)
		for name, s := range map[string]string{
			"no text":          kdf.Mac(key),
			"a nil list":       kdf.Mac(key, none...),
			"an empty list":    kdf.Mac(key, []string{}...),
			"one empty text":   kdf.Mac(key, ""),
			"many empty texts": kdf.Mac(key, make([]string, 120)...),
		} {
			if s != want {
				t.Errorf("%s, by a key of %d bytes: %x, not %x", name, len(key), s, want)
			}
		}
	}
	if s := kdf.Mac(""); s != raw(t, "b613679a0814d9ec772f95d778c35fc5ff1697c493715653c6c712144292c5ad") {
		t.Errorf("Mac of nothing is %x", s)
	}
}

// However a text is parted, what is told is that of the whole.
func TestMacOfPartedTexts(t *testing.T) {
	text := strewn(5, 150)
	want := secondMac("key", text)
	for i := range len(text) + 1 {
		if kdf.Mac("key", text[:i], text[i:]) != want || kdf.Mac("key", "", text[:i], "", text[i:], "") != want {
			t.Fatalf("parted at %d it is another one", i)
		}
		middle := i + (len(text)-i)/2
		if kdf.Mac("key", text[:i], text[i:middle], text[middle:]) != want {
			t.Fatalf("parted at %d and %d it is another one", i, middle)
		}
	}
	if kdf.Mac("key", strings.Split(text, "")...) != want {
		t.Error("parted into its letters it is another one")
	}
}

func TestMacOfManyTexts(t *testing.T) {
	for many := range 121 {
		var l []string
		for i := range many {
			l = append(l, strewn(uint64(i), i%20))
		}
		if s := kdf.Mac("key", l...); s != secondMac("key", l...) {
			t.Fatalf("Mac of %d texts is %x", many, s)
		}
	}
	for _, l := range [][]string{{"a", "b", "c"}, {"c", "b", "a"}, {"ab", "", "a"}, keys()} {
		if s := kdf.Mac("key", l...); s != secondMac("key", l...) {
			t.Errorf("Mac of %d texts is %x", len(l), s)
		}
	}
}

func TestMacOfTextsOfEachLength(t *testing.T) {
	for many := range 300 {
		text := strewn(uint64(many), many)
		if s := kdf.Mac("key", text); s != secondMac("key", text) {
			t.Fatalf("Mac of %d bytes is %x", many, s)
		}
	}
}

// The key is no part of the text: what is moved from one to the other leads to another Mac.
func TestMacTellsKeyAndTextApart(t *testing.T) {
	if kdf.Mac("ab", "c") == kdf.Mac("a", "bc") || kdf.Mac("a", "b") == kdf.Mac("b", "a") {
		t.Error("the key and the text are alike")
	}
}

// P8.2

// published is an example of RFC 5869.
type published struct {
	name, salt, input, info string
	n                       int
	secret, told            string
}

func publishedSecrets() []published {
	b22 := strings.Repeat("\x0b", 22)
	return []published{
		{"case 1", rising(0x00, 0x0c), b22, rising(0xf0, 0xf9), 42, "077709362c2e32df0ddc3f0dc47bba6390b6c73bb50f9c3122ec844ad7c2b3e5", "3cb25f25faacd57a90434f64d0362f2a2d2d0a90cf1a5a4c5db02d56ecc4c5bf34007208d5b887185865"},
		{"case 2", rising(0x60, 0xaf), rising(0x00, 0x4f), rising(0xb0, 0xff), 82, "06a6b88c5853361a06104c9ceb35b45cef760014904671014a193f40c15fc244", "b11e398dc80327a1c8e7f78c596a49344f012eda2d4efad8a050cc4c19afa97c59045a99cac7827271cb41c65e590e09da3275600c2f09b8367793a9aca3db71cc30c58179ec3e87c14c01d5c1f3434f1d87"},
		{"case 3", "", b22, "", 42, "19ef24a32c717b167f33a91d6f648bdf96596776afdb6377ac434c1c293ccb04", "8da4e775a563c18f715f802a063c5a31b8a11f5c5ee1879ec3454e5f3c738d2d9d201395faa4b61a96c8"},
	}
}

func TestPublishedSecrets(t *testing.T) {
	for _, x := range publishedSecrets() {
		secret := kdf.Extract(x.salt, x.input)
		if secret != raw(t, x.secret) {
			t.Errorf("%s: Extract is %x", x.name, secret)
		}
		s, e := kdf.Expand(secret, x.info, x.n)
		expanded(t, x.name, s, e, raw(t, x.told))
	}
}

func TestExtract(t *testing.T) {
	for _, salt := range keys() {
		for _, input := range keys() {
			if s := kdf.Extract(salt, input); s != secondMac(salt, input) {
				t.Errorf("Extract by a salt of %d bytes of %d bytes is %x", len(salt), len(input), s)
			}
		}
	}
}

func TestExtractOfNoSalt(t *testing.T) {
	for _, input := range keys() {
		want := secondMac(strings.Repeat("\x00", 32), input)
		if kdf.Extract("", input) != want || kdf.Extract(strings.Repeat("\x00", 32), input) != want {
			t.Errorf("Extract by no salt of %d bytes is not that by 32 bytes 0", len(input))
		}
	}
	if kdf.Extract("", "a") == kdf.Extract("a", "") || kdf.Extract("0", "a") == kdf.Extract("", "a") {
		t.Error("the salt and the input are alike")
	}
}

func TestExpandOfTheEdges(t *testing.T) {
	for _, key := range keys() {
		for _, n := range []int{0, 1, 31, 32, 33, 63, 64, 65, 96, 97} {
			s, e := kdf.Expand(key, "info", n)
			expanded(t, "Expand", s, e, secondExpand(t, key, "info", n))
		}
	}
	for _, n := range []int{0, 1, 31, 32, 33, 64, 8128, 8129, 8159, most} {
		s, e := kdf.Expand("key", strewn(2, 100), n)
		expanded(t, "Expand", s, e, secondExpand(t, "key", strewn(2, 100), n))
		if len(s) != n {
			t.Errorf("Expand to %d bytes tells %d", n, len(s))
		}
	}
}

func TestExpandBeyondTheEdges(t *testing.T) {
	for _, n := range []int{-1, most + 1, -32, -most, most + 32, 2 * most, 1 << 16, 1<<16 + 1, 1 << 32, 1<<32 + 1, -1 << 32, math.MaxInt32, math.MinInt32, math.MaxInt, math.MinInt} {
		for _, key := range []string{"", "key", strewn(1, 200)} {
			s, e := kdf.Expand(key, "info", n)
			refused(t, "Expand", s, e)
			s, e = kdf.Expand(key, "", n)
			refused(t, "Expand", s, e)
		}
	}
}

func TestExpandOfEachLength(t *testing.T) {
	for n := range 130 {
		key, text := strewn(uint64(n), 1+n%70), strewn(1, n)
		s, e := kdf.Expand(key, text, n)
		expanded(t, "Expand", s, e, secondExpand(t, key, text, n))
	}
}

func TestExpandOfEachKindOfInfo(t *testing.T) {
	for _, text := range keys() {
		s, e := kdf.Expand("key", text, 70)
		expanded(t, "Expand", s, e, secondExpand(t, "key", text, 70))
	}
}

// Each piece is the Mac of the one ahead of it, info, and its number, up to the last one that a byte tells.
func TestExpandPieceByPiece(t *testing.T) {
	s, e := kdf.Expand("key", "info", most)
	if e != api.OK || len(s) != most {
		t.Fatalf("%d bytes, error %d", len(s), e)
	}
	last := ""
	for k := 1; k <= 255; k++ {
		want := secondMac("key", last, "info", string([]byte{byte(k)}))
		last = s[32*(k-1) : 32*k]
		if last != want {
			t.Fatalf("the piece %d is %x, not %x", k, last, want)
		}
	}
}

// P8.3

func TestLabelOfTheEdges(t *testing.T) {
	for _, x := range []struct {
		label, context int
		n              int
		high, low      byte
	}{
		{0, 0, 0, 0, 0},
		{0, 0, 1, 0, 1},
		{0, 0, 32, 0, 32},
		{1, 0, 255, 0, 255},
		{0, 1, 256, 1, 0},
		{249, 0, 257, 1, 1},
		{249, 255, 255, 0, 255},
		{249, 255, 0, 0, 0},
		{248, 254, 8159, 31, 223},
		{0, 255, most, 31, 224},
		{249, 255, most, 31, 224},
		{249, 1, 4096, 16, 0},
	} {
		label, context := strewn(1, x.label), strewn(2, x.context)
		for _, secret := range []string{"", "secret", strewn(3, 200)} {
			s, e := kdf.Label(secret, label, context, x.n)
			expanded(t, "Label", s, e, secondExpand(t, secret, info(label, context, x.high, x.low), x.n))
		}
	}
}

func TestLabelBeyondTheEdges(t *testing.T) {
	for _, x := range []struct{ label, context, n int }{
		{250, 0, 32},
		{0, 256, 32},
		{0, 0, -1},
		{0, 0, most + 1},
		{250, 0, 0},
		{0, 256, 0},
		{251, 3, 1},
		{255, 0, 1},
		{256, 0, 1},
		{505, 0, 1},
		{506, 0, 1},
		{2000, 0, 1},
		{0, 257, 1},
		{0, 512, 1},
		{0, 2000, 1},
		{249, 255, -1},
		{249, 255, most + 1},
		{249, 255, 1 << 16},
		{249, 255, 1<<16 + 32},
		{249, 255, 1<<32 + 32},
		{3, 3, math.MaxInt},
		{3, 3, math.MinInt},
		// More than one reason.
		{250, 256, 32},
		{250, 0, -1},
		{0, 256, most + 1},
		{250, 256, -1},
		{250, 256, most + 1},
		{2000, 2000, math.MaxInt},
	} {
		for _, secret := range []string{"", "secret", strewn(3, 2000)} {
			s, e := kdf.Label(secret, strewn(1, x.label), strewn(2, x.context), x.n)
			refused(t, "Label", s, e)
		}
	}
}

func TestLabelOfEachLength(t *testing.T) {
	for many := range 256 {
		label, context := strewn(1, min(many, 249)), strewn(2, many)
		s, e := kdf.Label("secret", label, "context", 20)
		expanded(t, "Label", s, e, secondExpand(t, "secret", info(label, "context", 0, 20), 20))
		s, e = kdf.Label("secret", "label", context, 20)
		expanded(t, "Label", s, e, secondExpand(t, "secret", info("label", context, 0, 20), 20))
		s, e = kdf.Label("secret", "label", "context", many)
		expanded(t, "Label", s, e, secondExpand(t, "secret", info("label", "context", 0, byte(many)), many))
	}
}

func TestLabelOfEachKindOfSecret(t *testing.T) {
	for _, secret := range keys() {
		s, e := kdf.Label(secret, "a label", "a context", 300)
		expanded(t, "Label", s, e, secondExpand(t, secret, info("a label", "a context", 1, 44), 300))
	}
}

// Length is by bytes, not by letters.
func TestLabelOfLettersOfManyBytes(t *testing.T) {
	s, e := kdf.Label("secret", strings.Repeat("木", 83), strings.Repeat("木", 85), 8)
	expanded(t, "Label", s, e, secondExpand(t, "secret", info(strings.Repeat("木", 83), strings.Repeat("木", 85), 0, 8), 8))
	s, e = kdf.Label("secret", strings.Repeat("木", 84), "", 8)
	refused(t, "a label of 84 letters", s, e)
	s, e = kdf.Label("secret", "", strings.Repeat("木", 86), 8)
	refused(t, "a context of 86 letters", s, e)
}

// The client's first keys of RFC 9001 (A.1), of other lengths than those of Of.
func TestPublishedLabels(t *testing.T) {
	secret := kdf.Extract(raw(t, "38762cf7f55934b34d179ae6a4c80cadccbb7f0a"), raw(t, "8394c8f03e515708"))
	client, e := kdf.Label(secret, "client in", "", 32)
	expanded(t, "client in", client, e, raw(t, "c00cf151ca5be075ed0ebfb5c80323c42d6b7db67881289af4008f1f6c357aea"))
	for _, x := range []struct {
		label string
		n     int
		hex   string
	}{
		{"quic key", 16, "1f369613dd76d5467730efcbe3b1a22d"},
		{"quic iv", 12, "fa044b2f42a3fd3b46fb255c"},
		{"quic hp", 16, "9f50449e04a0e810283a1e9933adedd2"},
	} {
		s, e := kdf.Label(client, x.label, "", x.n)
		expanded(t, x.label, s, e, raw(t, x.hex))
	}
}

// What is moved from the label to the context, or another number of bytes, leads to other bytes.
func TestLabelTellsItsPartsApart(t *testing.T) {
	a, _ := kdf.Label("secret", "ab", "c", 16)
	b, _ := kdf.Label("secret", "a", "bc", 16)
	c, _ := kdf.Label("secret", "ab", "c", 17)
	if a == b || a == c[:16] {
		t.Errorf("%x, %x and %x", a, b, c)
	}
}

// P8.4

// secondKeys is a second reckoning of Of, by the library.
func secondKeys(t *testing.T, secret string) kdf.Keys {
	return kdf.Keys{
		Key:  secondExpand(t, secret, "\x00\x20\x0etls13 quic key\x00", 32),
		Iv:   secondExpand(t, secret, "\x00\x0c\x0dtls13 quic iv\x00", 12),
		Mask: secondExpand(t, secret, "\x00\x20\x0dtls13 quic hp\x00", 32),
	}
}

// The example of RFC 9001 (A.5) for keys of 32 bytes.
func TestPublishedKeys(t *testing.T) {
	secret := raw(t, "9ac312a7f877468ebe69422748ad00a15443f18203a07d6060f688f30f21632b")
	want := kdf.Keys{
		Key:  raw(t, "c6d98ff3441c3fe1b2182094f69caa2ed4b716b65488960a7a984979fb23e1c8"),
		Iv:   raw(t, "e0459b3474bdd0e44a41c144"),
		Mask: raw(t, "25a282b9e82f06f21f488917a4fc8f1b73573685608597d0efcb076b0ab7a7a4"),
	}
	if k := kdf.Of(secret); k != want {
		t.Errorf("Of is %x, not %x", k, want)
	}
	if s := kdf.Next(secret); s != raw(t, "1223504755036d556342ee9361d253421a826c9ecdf3c7148684b36b714881f9") {
		t.Errorf("Next is %x", s)
	}
}

func TestOfAndNext(t *testing.T) {
	for _, secret := range keys() {
		if k := kdf.Of(secret); k != secondKeys(t, secret) {
			t.Errorf("Of a secret of %d bytes is %x", len(secret), k)
		}
		if s := kdf.Next(secret); s != secondExpand(t, secret, "\x00\x20\x0dtls13 quic ku\x00", 32) {
			t.Errorf("Next of a secret of %d bytes is %x", len(secret), s)
		}
	}
}

// Of and Next are by Label.
func TestOfAndNextByLabel(t *testing.T) {
	for _, secret := range keys() {
		key, _ := kdf.Label(secret, "quic key", "", 32)
		iv, _ := kdf.Label(secret, "quic iv", "", 12)
		mask, _ := kdf.Label(secret, "quic hp", "", 32)
		next, _ := kdf.Label(secret, "quic ku", "", 32)
		if k := kdf.Of(secret); k.Key != key || k.Iv != iv || k.Mask != mask {
			t.Errorf("Of a secret of %d bytes is not by its labels", len(secret))
		}
		if kdf.Next(secret) != next {
			t.Errorf("Next of a secret of %d bytes is not by its label", len(secret))
		}
	}
}

func TestKeysHaveTheirLengths(t *testing.T) {
	for _, secret := range keys() {
		k := kdf.Of(secret)
		if len(k.Key) != 32 || len(k.Iv) != 12 || len(k.Mask) != 32 || len(kdf.Next(secret)) != 32 {
			t.Errorf("keys of %d, %d and %d bytes", len(k.Key), len(k.Iv), len(k.Mask))
		}
	}
}

// secondShared is a second reckoning of Shared, by the library.
func secondShared(t *testing.T, psk, client, server string) (string, string) {
	secret, e := hkdf.Extract(sha256.New, []byte(psk), []byte("domino"))
	if e != nil {
		t.Fatal(e)
	}
	sum := sha256.Sum256([]byte(client + server))
	context := "\x20" + string(sum[:])
	return secondExpand(t, string(secret), "\x00\x20\x0ctls13 client"+context, 32), secondExpand(t, string(secret), "\x00\x20\x0ctls13 server"+context, 32)
}

func TestShared(t *testing.T) {
	l := append([]string{"client hello", "server hello"}, keys()...)
	for i, psk := range l {
		for j, client := range l {
			server := l[(i+7*j)%len(l)]
			a, b := kdf.Shared(psk, client, server)
			first, second := secondShared(t, psk, client, server)
			if a != first || b != second {
				t.Errorf("Shared of %d, %d and %d bytes is %x %x", len(psk), len(client), len(server), a, b)
			}
		}
	}
}

func TestSharedOfNothing(t *testing.T) {
	a, b := kdf.Shared("", "", "")
	first, second := secondShared(t, "", "", "")
	if a != first || b != second || a == b || len(a) != 32 || len(b) != 32 {
		t.Errorf("Shared of nothing is %x %x", a, b)
	}
}

// The one's secret is not the other's, nor that of the same messages the other way round.
func TestSharedOfEachOther(t *testing.T) {
	a, b := kdf.Shared("psk", "hello", "welcome")
	c, d := kdf.Shared("psk", "welcome", "hello")
	first, second := secondShared(t, "psk", "welcome", "hello")
	if c != first || d != second {
		t.Errorf("the other way round it is %x %x", c, d)
	}
	l := []string{a, b, c, d}
	slices.Sort(l)
	if len(slices.Compact(l)) != 4 {
		t.Errorf("%x %x, the other way round %x %x", a, b, c, d)
	}
	same, other := kdf.Shared("psk", "same", "same")
	if same == other {
		t.Errorf("of messages that are alike both have %x", same)
	}
}

func TestReset(t *testing.T) {
	for _, key := range keys() {
		for _, cid := range append(keys(), "abcdefgh") {
			s := kdf.Reset(key, cid)
			if len(s) != 16 || s != secondMac(key, cid)[:16] || s != kdf.Mac(key, cid)[:16] {
				t.Errorf("Reset of a key of %d bytes and a connection ID of %d is %x", len(key), len(cid), s)
			}
		}
	}
}

// P8.5

func TestExpandFurther(t *testing.T) {
	for _, key := range keys() {
		whole, e := kdf.Expand(key, "info", 200)
		if e != api.OK {
			t.Fatal(e)
		}
		for n := range 200 {
			s, e := kdf.Expand(key, "info", n)
			expanded(t, "Expand", s, e, whole[:n])
		}
	}
}

func TestExpandToAllItCan(t *testing.T) {
	whole, e := kdf.Expand("key", "info", most)
	if e != api.OK {
		t.Fatal(e)
	}
	for n := most; n >= 0; n -= 241 {
		s, e := kdf.Expand("key", "info", n)
		expanded(t, "Expand", s, e, whole[:n])
	}
}

// R4

func TestWhatIsHandedInStays(t *testing.T) {
	l := []string{"a", "b", "", "c"}
	kept := slices.Clone(l)
	// There is room behind the list: nothing is written there either.
	long := append(make([]string, 0, 9), l...)
	first := kdf.Mac("key", long...)
	if !slices.Equal(long, kept) || !slices.Equal(long[:9][4:], make([]string, 5)) {
		t.Errorf("the list is %q", long[:9])
	}
	if first != kdf.Mac("key", l...) {
		t.Error("the room behind a list matters")
	}
	clear(long)
	if first != secondMac("key", kept...) {
		t.Error("what was told changed")
	}
}

// R5

func TestCallsHangOnTheirArgumentsAlone(t *testing.T) {
	k := kdf.Of("secret")
	a, b := kdf.Shared("psk", "client", "server")
	for range 3 {
		kdf.Expand("other", "other", 100)
		c, d := kdf.Shared("psk", "client", "server")
		if kdf.Of("secret") != k || a != c || b != d {
			t.Error("the same call tells something else")
		}
	}
}

func TestManyCallsAtOnce(t *testing.T) {
	var group sync.WaitGroup
	for i := range 8 {
		group.Go(func() {
			for n := range 20 {
				key := strewn(uint64(i), 10*n)
				if kdf.Mac(key, "a", "b") != secondMac(key, "a", "b") {
					t.Errorf("Mac by a key of %d bytes is another one among many calls", len(key))
				}
			}
		})
	}
	group.Wait()
}
