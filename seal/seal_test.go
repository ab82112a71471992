package seal_test

import (
	"crypto/hkdf"
	"crypto/hmac"
	"crypto/sha256"
	"encoding/binary"
	"encoding/hex"
	"fmt"
	"math"
	"strings"
	"sync"
	"testing"

	"domino/api"
	"domino/header"
	"domino/kdf"
	"domino/pnum"
	"domino/seal"
)

// cid is the connection ID of packets that are as usual.
const cid = "abcdefgh"

// highest is the last counter there is.
const highest = math.MaxUint32

// strewn tells so many bytes by a fixed rule; each seed has its own.
func strewn(seed uint64, many int) string {
	x := seed*0x9e3779b97f4a7c15 + 1
	b := make([]byte, many)
	for i := range b {
		x = x*6364136223846793005 + 1442695040888963407
		b[i] = byte(x >> 56)
	}
	return string(b)
}

// rising tells the bytes from the first one to the last one.
func rising(first, last int) string {
	var b []byte
	for n := first; n <= last; n++ {
		b = append(b, byte(n))
	}
	return string(b)
}

// zeros tells so many bytes 0.
func zeros(many int) string {
	return strings.Repeat("\x00", many)
}

// raw is the bytes of digits, by the library.
func raw(t *testing.T, digits string) string {
	t.Helper()
	b, e := hex.DecodeString(digits)
	if e != nil {
		t.Fatal(e)
	}
	return string(b)
}

// sized tells s cut, or filled up with bytes 0, to so many bytes, by an array's copy.
func sized(s string, many int) []byte {
	b := make([]byte, many)
	copy(b, s)
	return b
}

// quads are the words that are mixed by each other in two rounds, in their order.
func quads() [][4]int {
	return [][4]int{
		{0, 4, 8, 12}, {1, 5, 9, 13}, {2, 6, 10, 14}, {3, 7, 11, 15},
		{0, 5, 10, 15}, {1, 6, 11, 12}, {2, 7, 8, 13}, {3, 4, 9, 14},
	}
}

// secondBlock is a second reckoning of a Block, by the words of RFC 8439.
func secondBlock(key, nonce string, counter uint32) string {
	first := []byte("expand 32-byte k")
	first = append(first, sized(key, 32)...)
	first = binary.LittleEndian.AppendUint32(first, counter)
	first = append(first, sized(nonce, 12)...)
	var begun [16]uint32
	for i := range begun {
		begun[i] = binary.LittleEndian.Uint32(first[4*i:])
	}
	turned := func(n uint32, by int) uint32 { return n<<by | n>>(32-by) }
	x := begun
	for range 10 {
		for _, q := range quads() {
			a, b, c, d := x[q[0]], x[q[1]], x[q[2]], x[q[3]]
			a += b
			d = turned(d^a, 16)
			c += d
			b = turned(b^c, 12)
			a += b
			d = turned(d^a, 8)
			c += d
			b = turned(b^c, 7)
			x[q[0]], x[q[1]], x[q[2]], x[q[3]] = a, b, c, d
		}
	}
	var out []byte
	for i := range x {
		out = binary.LittleEndian.AppendUint32(out, x[i]+begun[i])
	}
	return string(out)
}

// secondStream is a second reckoning of a Stream, byte by byte.
func secondStream(key, nonce string, counter uint32, s string) string {
	b := []byte(s)
	block := ""
	for i := range b {
		if i%64 == 0 {
			block = secondBlock(key, nonce, counter)
			counter++
		}
		b[i] ^= block[i%64]
	}
	return string(b)
}

// secondSeal is a second reckoning of a Seal, of keys of the usual lengths.
func secondSeal(k kdf.Keys, num uint64, head, plain string) string {
	nonce := []byte(k.Iv)
	binary.BigEndian.PutUint64(nonce[4:], binary.BigEndian.Uint64(nonce[4:])^num)
	text := secondStream(k.Key, string(nonce), 1, plain)
	h := hmac.New(sha256.New, []byte(secondBlock(k.Key, string(nonce), 0)[:32]))
	h.Write([]byte(head))
	h.Write(binary.BigEndian.AppendUint64(nil, uint64(len(head))))
	h.Write([]byte(text))
	h.Write(binary.BigEndian.AppendUint64(nil, uint64(len(text))))
	return text + string(h.Sum(nil)[:16])
}

// secondLabel is a second reckoning of what a secret leads to by a label.
func secondLabel(secret, label string, n int) string {
	info := string([]byte{0, byte(n), byte(6 + len(label))}) + "tls13 " + label + "\x00"
	b, e := hkdf.Expand(sha256.New, []byte(secret), info, n)
	if e != nil {
		panic(e)
	}
	return string(b)
}

// secondKeys is a second reckoning of the keys of a secret.
func secondKeys(secret string) kdf.Keys {
	return kdf.Keys{
		Key:  secondLabel(secret, "quic key", 32),
		Iv:   secondLabel(secret, "quic iv", 12),
		Mask: secondLabel(secret, "quic hp", 32),
	}
}

// secondState is a second reckoning of the state of a secret behind so many turns, from the secret on.
func secondState(secret string, turns int) seal.State {
	mask := secondKeys(secret).Mask
	secrets := []string{secret}
	for i := range turns + 1 {
		secrets = append(secrets, secondLabel(secrets[i], "quic ku", 32))
	}
	of := func(place int) kdf.Keys {
		k := secondKeys(secrets[place])
		k.Mask = mask
		return k
	}
	s := seal.State{Secret: secrets[turns+1], Now: of(turns), Then: of(turns + 1), Phase: turns%2 == 1}
	if turns > 0 {
		s.Was, s.Old = of(turns-1), true
	}
	return s
}

// secondMask is a second reckoning of the mask of a packet whose number begins at its tenth byte.
func secondMask(k kdf.Keys, packet string) string {
	sample := packet[13:29]
	return secondBlock(k.Mask, sample[4:], binary.LittleEndian.Uint32([]byte(sample)))[:5]
}

// secondPacket is a packet sealed by these keys, with any first byte, whose lowest two bits tell how wide its number is.
func secondPacket(k kdf.Keys, first byte, num uint64, cid, plain string) string {
	wide := int(first&3) + 1
	number := binary.BigEndian.AppendUint64(nil, num)[8-wide:]
	head := string([]byte{first}) + cid + string(number)
	b := []byte(head + secondSeal(k, num, head, plain))
	mask := secondMask(k, string(b))
	b[0] ^= mask[0] & 0x1f
	for i := range wide {
		b[9+i] ^= mask[1+i]
	}
	return string(b)
}

// firstOf is the first byte of a packet of a state.
func firstOf(s seal.State, wide int) byte {
	if s.Phase {
		return 0x44 + byte(wide-1)
	}
	return 0x40 + byte(wide-1)
}

// told is all that Unprotect tells.
type told struct {
	s     seal.State
	num   uint64
	plain string
	e     api.Errno
}

// unprotect tells it as one.
func unprotect(s seal.State, largest uint64, any bool, packet string) told {
	var x told
	x.s, x.num, x.plain, x.e = seal.Unprotect(s, largest, any, packet)
	return x
}

// refused is what Unprotect tells beside an error.
func refused(s seal.State, e api.Errno) told {
	return told{s: s, e: e}
}

// secondUnprotect is a second reckoning of Unprotect.
func secondUnprotect(s seal.State, largest uint64, any bool, packet string) told {
	if len(packet) < 9 || packet[0]&0x40 == 0 || packet[0]&0x80 != 0 {
		return refused(s, api.ErrHeader)
	}
	if len(packet) < 29 {
		return refused(s, api.ErrSeal)
	}
	b, mask := []byte(packet), secondMask(s.Now, packet)
	b[0] ^= mask[0] & 0x1f
	if b[0]&0x18 != 0 {
		return refused(s, api.ErrHeader)
	}
	wide, cut := int(b[0]&3)+1, uint64(0)
	for i := range wide {
		b[9+i] ^= mask[1+i]
		cut = cut<<8 | uint64(b[9+i])
	}
	num := pnum.Expand(largest, any, cut, wide)
	head, sealed := string(b[:9+wide]), string(b[9+wide:])
	opens := func(k kdf.Keys) (string, bool) { return secondOpen(k, num, head, sealed) }
	if (b[0]&4 != 0) == s.Phase {
		if plain, ok := opens(s.Now); ok {
			return told{s, num, plain, api.OK}
		}
		return refused(s, api.ErrSeal)
	}
	if s.Old {
		if plain, ok := opens(s.Was); ok {
			return told{s, num, plain, api.OK}
		}
	}
	if plain, ok := opens(s.Then); ok {
		return told{secondTurn(s), num, plain, api.OK}
	}
	return refused(s, api.ErrSeal)
}

// secondOpen is a second reckoning of Open: what is sealed again is the same.
func secondOpen(k kdf.Keys, num uint64, head, sealed string) (string, bool) {
	if len(sealed) < 16 {
		return "", false
	}
	text := sealed[:len(sealed)-16]
	hidden := secondSeal(k, num, head, text)
	plain := hidden[:len(text)]
	return plain, secondSeal(k, num, head, plain) == sealed
}

// secondTurn is a second reckoning of Turn.
func secondTurn(s seal.State) seal.State {
	secret := secondLabel(s.Secret, "quic ku", 32)
	out := seal.State{Secret: secret, Was: s.Now, Now: s.Then, Then: secondKeys(secret), Old: true, Phase: !s.Phase}
	out.Now.Mask, out.Then.Mask = s.Now.Mask, s.Now.Mask
	return out
}

// turned tells a state behind so many turns.
func turned(s seal.State, turns int) seal.State {
	for range turns {
		s = seal.Turn(s)
	}
	return s
}

// protected tells a packet that is as usual, to one who has all up to the number ahead of it.
func protected(t *testing.T, s seal.State, num uint64, plain string) string {
	t.Helper()
	p, e := seal.Protect(s, num, num-1, num > 0, cid, plain)
	if e != api.OK {
		t.Fatalf("Protect of %d: error %d", num, e)
	}
	return p
}

// flipped tells s with one bit turned.
func flipped(s string, bit int) string {
	b := []byte(s)
	b[bit/8] ^= 1 << (bit % 8)
	return string(b)
}

// The chapter's example.
func TestTheExample(t *testing.T) {
	if s := seal.Block(zeros(32), zeros(12), 0); !strings.HasPrefix(s, "\x76\xb8\xe0\xad") {
		t.Errorf("Block begins by %x", s[:4])
	}
}

// P9.1

// The examples of RFC 8439 (2.3.2, 2.6.2 and A.1).
func TestPublishedBlocks(t *testing.T) {
	for name, x := range map[string]struct {
		key, nonce string
		counter    uint32
		hex        string
	}{
		"2.3.2": {rising(0x00, 0x1f), "\x00\x00\x00\x09\x00\x00\x00\x4a\x00\x00\x00\x00", 1, "10f1e7e4d13b5915500fdd1fa32071c4c7d1f4c733c068030422aa9ac3d46c4ed2826446079faa0914c2d705d98b02a2b5129cd1de164eb9cbd083e8a2503c4e"},
		"A.1 1": {zeros(32), zeros(12), 0, "76b8e0ada0f13d90405d6ae55386bd28bdd219b8a08ded1aa836efcc8b770dc7da41597c5157488d7724e03fb8d84a376a43b8f41518a11cc387b669b2ee6586"},
		"A.1 2": {zeros(32), zeros(12), 1, "9f07e7be5551387a98ba977c732d080dcb0f29a048e3656912c6533e32ee7aed29b721769ce64e43d57133b074d839d531ed1f28510afb45ace10a1f4b794d6f"},
		"A.1 3": {zeros(31) + "\x01", zeros(12), 1, "3aeb5224ecf849929b9d828db1ced4dd832025e8018b8160b82284f3c949aa5a8eca00bbb4a73bdad192b5c42f73f2fd4e273644c8b36125a64addeb006c13a0"},
		"A.1 4": {"\x00\xff" + zeros(30), zeros(12), 2, "72d54dfbf12ec44b362692df94137f328fea8da73990265ec1bbbea1ae9af0ca13b25aa26cb4a648cb9b9d1be65b2c0924a66c54d545ec1b7374f4872e99f096"},
		"A.1 5": {zeros(32), zeros(11) + "\x02", 0, "c2c64d378cd536374ae204b9ef933fcd1a8b2288b3dfa49672ab765b54ee27c78a970e0e955c14f3a88e741b97c286f75f8fc299e8148362fa198a39531bed6d"},
	} {
		if s := seal.Block(x.key, x.nonce, x.counter); s != raw(t, x.hex) {
			t.Errorf("%s: %x, not %s", name, s, x.hex)
		}
	}
	// Of 2.6.2 half of the block is published.
	if s := seal.Block(rising(0x80, 0x9f), zeros(4)+rising(0, 7), 0); s[:32] != raw(t, "8ad5a08b905f81cc815040274ab29471a833b637e3fd0da508dbb8e2fdd1a646") {
		t.Errorf("2.6.2: %x", s)
	}
}

func TestBlocksOfEachLength(t *testing.T) {
	for _, key := range []int{0, 1, 31, 32, 33, 64, 100, 2000} {
		for _, nonce := range []int{0, 1, 4, 11, 12, 13, 16, 40, 2000} {
			for _, counter := range []uint32{0, 1, 2, 0xff, 0x100, 0x01020304, 1 << 31, highest - 1, highest} {
				k, n := strewn(uint64(key), key), strewn(uint64(nonce)+9, nonce)
				if s := seal.Block(k, n, counter); s != secondBlock(k, n, counter) || len(s) != 64 {
					t.Errorf("Block of a key of %d bytes, a nonce of %d, counter %d: %x", key, nonce, counter, s)
				}
			}
		}
	}
}

// What is cut off counts for nothing, what is filled up is bytes 0.
func TestBlocksOfCutAndFilledTexts(t *testing.T) {
	key, nonce := strewn(1, 32), strewn(2, 12)
	for name, alike := range map[string]bool{
		"a key of more bytes":    seal.Block(key+"more", nonce, 5) == seal.Block(key, nonce, 5),
		"a nonce of more bytes":  seal.Block(key, nonce+"more", 5) == seal.Block(key, nonce, 5),
		"a key of fewer bytes":   seal.Block(key[:31], nonce, 5) == seal.Block(key[:31]+"\x00", nonce, 5),
		"a nonce of fewer bytes": seal.Block(key, nonce[:11], 5) == seal.Block(key, nonce[:11]+"\x00", 5),
		"no key":                 seal.Block("", nonce, 5) == seal.Block(zeros(32), nonce, 5),
		"no nonce":               seal.Block(key, "", 5) == seal.Block(key, zeros(12), 5),
	} {
		if !alike {
			t.Errorf("%s: it is not as when cut or filled up", name)
		}
	}
}

// Each bit of a key, of a nonce, and of a counter leads to another block.
func TestBlocksOfEachBit(t *testing.T) {
	key, nonce := strewn(1, 32), strewn(2, 12)
	seen := map[string]string{seal.Block(key, nonce, 5): "nothing"}
	see := func(what, block string) {
		if other, has := seen[block]; has {
			t.Errorf("with %s turned it is as with %s", what, other)
		}
		seen[block] = what
	}
	for bit := range 256 {
		see(fmt.Sprint("bit of the key ", bit), seal.Block(flipped(key, bit), nonce, 5))
	}
	for bit := range 96 {
		see(fmt.Sprint("bit of the nonce ", bit), seal.Block(key, flipped(nonce, bit), 5))
	}
	for bit := range 32 {
		see(fmt.Sprint("bit of the counter ", bit), seal.Block(key, nonce, 5^1<<bit))
	}
}

// The example of RFC 8439 (2.4.2).
func TestPublishedStream(t *testing.T) {
	plain := "Ladies and Gentlemen of the class of '99: If I could offer you only one tip for the future, sunscreen would be it."
	want := "6e2e359a2568f98041ba0728dd0d6981e97e7aec1d4360c20a27afccfd9fae0bf91b65c5524733ab8f593dabcd62b3571639d624e65152ab8f530c359f0861d807ca0dbf500d6a6156a38e088a22b65e52bc514d16ccf806818ce91ab77937365af90bbf74a35be6b40b8eedf2785e42874d"
	if s := seal.Stream(rising(0x00, 0x1f), zeros(7)+"\x4a"+zeros(4), 1, plain); s != raw(t, want) {
		t.Errorf("%x, not %s", s, want)
	}
}

func TestStreamsOfEachLength(t *testing.T) {
	key, nonce := strewn(1, 32), strewn(2, 12)
	for _, many := range []int{0, 1, 2, 63, 64, 65, 127, 128, 129, 191, 192, 193, 1500, 2000} {
		for _, counter := range []uint32{0, 1, 7, 1 << 31, highest - 1, highest} {
			plain := strewn(uint64(many), many)
			s := seal.Stream(key, nonce, counter, plain)
			if s != secondStream(key, nonce, counter, plain) || len(s) != many {
				t.Errorf("Stream of %d bytes from counter %d on: %x", many, counter, s)
			}
			if seal.Stream(key, nonce, counter, s) != plain {
				t.Errorf("Stream of %d bytes from counter %d on is not taken off by itself", many, counter)
			}
		}
	}
}

func TestStreamsOfKeysAndNoncesOfEachLength(t *testing.T) {
	plain := strewn(3, 100)
	for _, key := range []int{0, 31, 32, 33, 64} {
		for _, nonce := range []int{0, 11, 12, 13, 40} {
			k, n := strewn(1, key), strewn(2, nonce)
			if s := seal.Stream(k, n, 3, plain); s != secondStream(k, n, 3, plain) {
				t.Errorf("Stream of a key of %d bytes, a nonce of %d: %x", key, nonce, s)
			}
		}
	}
}

// Behind the last counter 0 is next: a stream of bytes 0 is the blocks.
func TestStreamsAcrossTheLastCounter(t *testing.T) {
	key, nonce := strewn(1, 32), strewn(2, 12)
	want := seal.Block(key, nonce, highest-1) + seal.Block(key, nonce, highest) + seal.Block(key, nonce, 0) + seal.Block(key, nonce, 1)
	for many := range len(want) + 1 {
		if seal.Stream(key, nonce, highest-1, zeros(many)) != want[:many] {
			t.Fatalf("%d bytes 0 are not the blocks", many)
		}
	}
}

// P9.2

// sealing is one call of Seal.
type sealing struct {
	k           kdf.Keys
	num         uint64
	head, plain string
}

// sealings are all edges of it, and ordinary ones.
func sealings() []sealing {
	var l []sealing
	for i, num := range []uint64{0, 1, 255, 256, 0x0102030405060708, api.MaxNumber, api.MaxNumber + 1, 1 << 63, math.MaxUint64} {
		for j, head := range []string{"", "h", strewn(4, 13), strewn(5, 1200)} {
			for _, plain := range []int{0, 1, 4, 16, 63, 64, 65, 1500} {
				l = append(l, sealing{kdf.Of(strewn(uint64(i+j), 32)), num, head, strewn(6, plain)})
			}
		}
	}
	return l
}

func TestSealAndOpen(t *testing.T) {
	for _, x := range sealings() {
		s := seal.Seal(x.k, x.num, x.head, x.plain)
		if s != secondSeal(x.k, x.num, x.head, x.plain) || len(s) != len(x.plain)+16 {
			t.Fatalf("Seal of number %d, a head of %d bytes, %d bytes: %x", x.num, len(x.head), len(x.plain), s)
		}
		if plain, e := seal.Open(x.k, x.num, x.head, s); plain != x.plain || e != api.OK {
			t.Fatalf("Open of number %d, a head of %d bytes, %d bytes: %x %d", x.num, len(x.head), len(x.plain), plain, e)
		}
	}
}

// The text stands ahead of the tag; it is the stream from counter 1 on, by the nonce of RFC 9001 (A.5).
func TestTheTextOfASeal(t *testing.T) {
	k := kdf.Keys{
		Key:  raw(t, "c6d98ff3441c3fe1b2182094f69caa2ed4b716b65488960a7a984979fb23e1c8"),
		Iv:   raw(t, "e0459b3474bdd0e44a41c144"),
		Mask: raw(t, "25a282b9e82f06f21f488917a4fc8f1b73573685608597d0efcb076b0ab7a7a4"),
	}
	s := seal.Seal(k, 654360564, raw(t, "4200bff4"), "\x01")
	if want := seal.Stream(k.Key, raw(t, "e0459b3474bdd0e46d417eb0"), 1, "\x01"); s[:1] != want || want != "\x65" {
		t.Errorf("the text is %x, not %x, nor 65", s[:1], want)
	}
}

// unopened holds it that nothing is told but ErrSeal.
func unopened(t *testing.T, name string, k kdf.Keys, num uint64, head, sealed string) {
	t.Helper()
	if s, e := seal.Open(k, num, head, sealed); s != "" || e != api.ErrSeal {
		t.Errorf("%s: %x %d", name, s, e)
	}
}

func TestOpenOfTooFewBytes(t *testing.T) {
	k := kdf.Of("secret")
	whole := seal.Seal(k, 5, "head", "p")
	for many := range len(whole) {
		unopened(t, fmt.Sprintf("the first %d bytes", many), k, 5, "head", whole[:many])
		unopened(t, fmt.Sprintf("the last %d bytes", many), k, 5, "head", whole[len(whole)-many:])
		unopened(t, fmt.Sprintf("%d bytes 0", many), k, 5, "head", zeros(many))
	}
	empty := seal.Seal(k, 5, "head", "")
	unopened(t, "15 of 16 bytes", k, 5, "head", empty[:15])
	unopened(t, "16 bytes and one more", k, 5, "head", empty+"\x00")
	unopened(t, "16 bytes behind one more", k, 5, "head", "\x00"+empty)
	if s, e := seal.Open(k, 5, "head", empty); s != "" || e != api.OK {
		t.Errorf("16 bytes: %x %d", s, e)
	}
	if s, e := seal.Open(k, 5, "head", whole); s != "p" || e != api.OK {
		t.Errorf("17 bytes: %x %d", s, e)
	}
}

func TestOpenOfWhatWasChanged(t *testing.T) {
	k, num, head, plain := kdf.Of("secret"), uint64(0x0102030405060708), "head", "plain text"
	s := seal.Seal(k, num, head, plain)
	for bit := range 8 * len(s) {
		unopened(t, fmt.Sprint("bit of the text or the tag ", bit), k, num, head, flipped(s, bit))
	}
	for bit := range 8 * len(head) {
		unopened(t, fmt.Sprint("bit of the head ", bit), k, num, flipped(head, bit), s)
	}
	for bit := range 64 {
		unopened(t, fmt.Sprint("bit of the number ", bit), k, num^1<<bit, head, s)
	}
	for bit := range 256 {
		unopened(t, fmt.Sprint("bit of the key ", bit), kdf.Keys{Key: flipped(k.Key, bit), Iv: k.Iv, Mask: k.Mask}, num, head, s)
	}
	for bit := range 96 {
		unopened(t, fmt.Sprint("bit of the IV ", bit), kdf.Keys{Key: k.Key, Iv: flipped(k.Iv, bit), Mask: k.Mask}, num, head, s)
	}
	// The Mask hides headers alone.
	if got, e := seal.Open(kdf.Keys{Key: k.Key, Iv: k.Iv}, num, head, s); got != plain || e != api.OK {
		t.Errorf("without a Mask: %x %d", got, e)
	}
}

// What is moved between the head and the text, or lacks, is not what was sealed.
func TestOpenOfWhatWasMoved(t *testing.T) {
	k := kdf.Of("secret")
	s := seal.Seal(k, 5, "head", "plain text")
	unopened(t, "a byte to the text", k, 5, "hea", "d"+s)
	unopened(t, "a byte to the head", k, 5, "head"+s[:1], s[1:])
	unopened(t, "no head", k, 5, "", s)
	unopened(t, "a head of more bytes", k, 5, "head\x00", s)
	unopened(t, "a text of more bytes", k, 5, "head", s[:10]+"\x00"+s[10:])
	unopened(t, "a text behind its tag", k, 5, "head", s[10:]+s[:10])
	unopened(t, "one seal behind another", k, 5, "head", s+s)
}

// The example of RFC 9001 (A.5).
func TestPublishedMask(t *testing.T) {
	k := kdf.Keys{Mask: raw(t, "25a282b9e82f06f21f488917a4fc8f1b73573685608597d0efcb076b0ab7a7a4")}
	if s, e := seal.Mask(k, raw(t, "5e5cd55c41f69080575d7999c25a5bfb")); s != raw(t, "aefefe7d03") || e != api.OK {
		t.Errorf("Mask is %x %d", s, e)
	}
}

func TestMasks(t *testing.T) {
	for i := range uint64(50) {
		k, sample := kdf.Of(strewn(i, 32)), strewn(i, 16)
		want := secondBlock(k.Mask, sample[4:], binary.LittleEndian.Uint32([]byte(sample)))[:5]
		if s, e := seal.Mask(k, sample); s != want || e != api.OK {
			t.Errorf("Mask of %x is %x %d, not %x", sample, s, e, want)
		}
		if s, e := seal.Mask(kdf.Keys{Mask: k.Mask}, sample); s != want || e != api.OK {
			t.Errorf("without Key and Iv Mask of %x is %x %d", sample, s, e)
		}
	}
}

// The first four bytes tell the counter, the lowest one first.
func TestMasksByTheirCounter(t *testing.T) {
	k, nonce := kdf.Of("secret"), strewn(1, 12)
	for _, x := range []struct {
		sample  string
		counter uint32
	}{
		{zeros(4), 0},
		{"\x01\x00\x00\x00", 1},
		{"\x00\x01\x00\x00", 1 << 8},
		{"\x00\x00\x01\x00", 1 << 16},
		{"\x00\x00\x00\x01", 1 << 24},
		{"\x04\x03\x02\x01", 0x01020304},
		{"\x80\x90\xa0\xff", 0xffa09080},
		{"\xff\xff\xff\xff", highest},
	} {
		if s, e := seal.Mask(k, x.sample+nonce); s != seal.Block(k.Mask, nonce, x.counter)[:5] || e != api.OK {
			t.Errorf("Mask of counter %d is %x %d", x.counter, s, e)
		}
	}
}

func TestMasksOfSamplesOfOtherLengths(t *testing.T) {
	for many := range 41 {
		s, e := seal.Mask(kdf.Of("secret"), strewn(1, many))
		switch {
		case many == 16 && (len(s) != 5 || e != api.OK):
			t.Errorf("Mask of 16 bytes is %x %d", s, e)
		case many != 16 && (s != "" || e != api.ErrArg):
			t.Errorf("Mask of %d bytes is %x %d", many, s, e)
		}
	}
	for _, many := range []int{272, 1500, 2000} {
		if s, e := seal.Mask(kdf.Of("secret"), strewn(1, many)); s != "" || e != api.ErrArg {
			t.Errorf("Mask of %d bytes is %x %d", many, s, e)
		}
	}
}

// P9.3

// secrets are of all lengths, usual and not.
func secrets() []string {
	return []string{"", "s", strewn(1, 31), strewn(2, 32), strewn(3, 33), strewn(4, 64), strewn(5, 65), strewn(6, 2000), zeros(32)}
}

func TestNew(t *testing.T) {
	for _, secret := range secrets() {
		s := seal.New(secret)
		if s != secondState(secret, 0) {
			t.Errorf("New of %d bytes: %#v", len(secret), s)
		}
		then := kdf.Of(kdf.Next(secret))
		then.Mask = kdf.Of(secret).Mask
		want := seal.State{Secret: kdf.Next(secret), Now: kdf.Of(secret), Then: then}
		if s != want {
			t.Errorf("New of %d bytes: %#v, not %#v", len(secret), s, want)
		}
	}
}

func TestTurns(t *testing.T) {
	for _, secret := range secrets() {
		s := seal.New(secret)
		for turns := range 6 {
			if want := secondState(secret, turns); s != want {
				t.Errorf("behind %d turns: %#v, not %#v", turns, s, want)
			}
			s = seal.Turn(s)
		}
	}
	if s := turned(seal.New("secret"), 40); s != secondState("secret", 40) {
		t.Errorf("behind 40 turns: %#v", s)
	}
}

// Keys change from turn to turn, but for the Mask, which is as it was at first.
func TestTheMaskStays(t *testing.T) {
	s := seal.New("secret")
	mask, seen := s.Now.Mask, map[string]bool{}
	for range 10 {
		if s.Now.Mask != mask || s.Then.Mask != mask || s.Old && s.Was.Mask != mask {
			t.Fatalf("the masks are %x, %x, %x, not %x", s.Was.Mask, s.Now.Mask, s.Then.Mask, mask)
		}
		if seen[s.Now.Key] || seen[s.Now.Iv] {
			t.Fatal("the keys are those of a phase ahead")
		}
		seen[s.Now.Key], seen[s.Now.Iv] = true, true
		s = seal.Turn(s)
	}
}

// strangeStates are such as New and Turn do not make.
func strangeStates() []seal.State {
	a, b, c := kdf.Of("a"), kdf.Of("b"), kdf.Of("c")
	return []seal.State{
		{Secret: "d", Was: a, Now: b, Then: c},
		{Secret: "d", Was: a, Now: b, Then: c, Phase: true},
		{Secret: "d", Was: a, Now: b, Then: c, Old: true},
		{Secret: "d", Was: a, Now: b, Then: c, Old: true, Phase: true},
		{Secret: "", Was: a, Now: b, Then: a, Old: true},
		{Secret: strewn(1, 100), Was: a, Now: a, Then: a},
	}
}

// Of any state Now's Mask is that of both, whatever Then's was.
func TestTurnsOfStrangeStates(t *testing.T) {
	for _, s := range strangeStates() {
		got := seal.Turn(s)
		if got != secondTurn(s) {
			t.Errorf("Turn of %#v is %#v", s, got)
		}
		if got.Was != s.Now || got.Now.Key != s.Then.Key || got.Now.Iv != s.Then.Iv || got.Now.Mask != s.Now.Mask || got.Then.Mask != s.Now.Mask {
			t.Errorf("Turn of %#v is %#v", s, got)
		}
		if got.Phase == s.Phase || !got.Old || got.Secret != kdf.Next(s.Secret) {
			t.Errorf("Turn of %#v is %#v", s, got)
		}
	}
}

// P9.4

func TestProtect(t *testing.T) {
	for turns := range 3 {
		s := turned(seal.New("secret"), turns)
		for _, x := range []struct {
			num, acked uint64
			any        bool
			wide       int
		}{
			{0, 0, false, 1},
			{0, 0, true, 1},
			{126, 0, false, 1},
			{127, 0, false, 2},
			{5, 4, true, 1},
			{5, 9, true, 1},
			{127, 0, true, 1},
			{128, 0, true, 2},
			{0xa82f9b32, 0xa82f30ea, true, 2},
			{0x7fff, 0, true, 2},
			{0x8000, 0, true, 3},
			{0xace8fe, 0xabe8b3, true, 3},
			{0x7fffff, 0, true, 3},
			{0x800000, 0, true, 4},
			{0x7fffffff, 0, true, 4},
			{api.MaxNumber, 0, false, 4},
			{api.MaxNumber, api.MaxNumber - 1, true, 1},
			{api.MaxNumber, math.MaxUint64, true, 1},
		} {
			for _, plain := range []int{4, 5, 16, 64, 1471} {
				text := strewn(x.num, plain)
				want := secondPacket(s.Now, firstOf(s, x.wide), x.num, cid, text)
				p, e := seal.Protect(s, x.num, x.acked, x.any, cid, text)
				if p != want || e != api.OK || len(p) != 9+x.wide+plain+16 {
					t.Errorf("Protect of %d, %d, %t, %d bytes behind %d turns: %x %d, not %x", x.num, x.acked, x.any, plain, turns, p, e, want)
				}
			}
		}
	}
}

// The header is what header.Put makes of it, once the mask is taken off.
func TestTheHeaderOfAPacket(t *testing.T) {
	for _, s := range []seal.State{seal.New("secret"), turned(seal.New("secret"), 1)} {
		for _, id := range []string{cid, zeros(8), "\xff\xff\xff\xff\xff\xff\xff\xff"} {
			p, e := seal.Protect(s, 0xa82f9b32, 0xa82f30ea, true, id, "plain text")
			if e != api.OK {
				t.Fatalf("error %d", e)
			}
			mask, _ := seal.Mask(s.Now, p[13:29])
			bare, e := header.Unmask(p, mask)
			if e != api.OK {
				t.Fatalf("error %d", e)
			}
			want := header.Header{Phase: s.Phase, Dcid: id, Wide: 2, Num: 0x9b32}
			h, sealed, e := header.Get(bare)
			if h != want || e != api.OK {
				t.Errorf("the header is %#v %d, not %#v", h, e, want)
			}
			if plain, e := seal.Open(s.Now, 0xa82f9b32, bare[:11], sealed); plain != "plain text" || e != api.OK {
				t.Errorf("%x %d", plain, e)
			}
		}
	}
}

func TestProtectOfWhatMayNotBe(t *testing.T) {
	s := seal.New("secret")
	for name, x := range map[string]struct {
		num        uint64
		cid, plain string
	}{
		"one more than MaxNumber": {api.MaxNumber + 1, cid, "plain"},
		"half of all numbers":     {1 << 63, cid, "plain"},
		"the greatest number":     {math.MaxUint64, cid, "plain"},
		"no cid":                  {1, "", "plain"},
		"a cid of 7 bytes":        {1, cid[:7], "plain"},
		"a cid of 9 bytes":        {1, cid + "i", "plain"},
		"a cid of 264 bytes":      {1, strewn(1, 264), "plain"},
		"no plain":                {1, cid, ""},
		"plain of 1 byte":         {1, cid, "p"},
		"plain of 3 bytes":        {1, cid, "pla"},
		"a cid and plain":         {1, "", ""},
		"a number and a cid":      {api.MaxNumber + 1, cid[:7], "plain"},
		"all of them":             {math.MaxUint64, cid + "i", "pla"},
	} {
		for _, any := range []bool{false, true} {
			if p, e := seal.Protect(s, x.num, 0, any, x.cid, x.plain); p != "" || e != api.ErrArg {
				t.Errorf("%s: %x %d", name, p, e)
			}
		}
	}
}

func TestProtectOfTheLeast(t *testing.T) {
	s := seal.New("secret")
	for plain := range 7 {
		for _, num := range []uint64{0, 200, 1 << 20, 1 << 30} {
			p, e := seal.Protect(s, num, 0, false, cid, strewn(1, plain))
			if (e == api.OK) != (plain >= 4) || e != api.OK && p != "" {
				t.Errorf("Protect of %d bytes: %x %d", plain, p, e)
			}
		}
	}
}

// P9.5

func TestUnprotectByNow(t *testing.T) {
	for turns := range 4 {
		s := turned(seal.New("secret"), turns)
		for wide := 1; wide <= 4; wide++ {
			p := secondPacket(s.Now, firstOf(s, wide), 5, cid, "plain text")
			if x := unprotect(s, 4, true, p); x != (told{s, 5, "plain text", api.OK}) {
				t.Errorf("behind %d turns, %d bytes wide: %#v", turns, wide, x)
			}
		}
	}
}

func TestUnprotectByWas(t *testing.T) {
	for turns := range 4 {
		behind := turned(seal.New("secret"), turns)
		s := seal.Turn(behind)
		p := secondPacket(behind.Now, firstOf(behind, 2), 5, cid, "plain text")
		if x := unprotect(s, 4, true, p); x != (told{s, 5, "plain text", api.OK}) {
			t.Errorf("behind %d turns: %#v", turns, x)
		}
		s.Old = false
		if x := unprotect(s, 4, true, p); x != refused(s, api.ErrSeal) {
			t.Errorf("behind %d turns, without Old: %#v", turns, x)
		}
	}
}

func TestUnprotectByThen(t *testing.T) {
	for turns := range 4 {
		s := turned(seal.New("secret"), turns)
		for _, old := range []bool{false, true} {
			s.Old = old
			ahead := seal.Turn(s)
			p := secondPacket(ahead.Now, firstOf(ahead, 2), 5, cid, "plain text")
			if x := unprotect(s, 4, true, p); x != (told{ahead, 5, "plain text", api.OK}) {
				t.Errorf("behind %d turns, Old %t: %#v", turns, old, x)
			}
			if x := unprotect(s, 4, true, p); x.s != secondTurn(s) {
				t.Errorf("behind %d turns, Old %t, the state is %#v", turns, old, x.s)
			}
		}
	}
}

// Was is tried ahead of Then, and Then only if Was can not: a state whose two are alike does not turn, but without Old.
func TestUnprotectByWasAheadOfThen(t *testing.T) {
	s := turned(seal.New("secret"), 2)
	s.Was = s.Then
	p := secondPacket(s.Then, firstOf(seal.Turn(s), 1), 5, cid, "plain text")
	if x := unprotect(s, 4, true, p); x != (told{s, 5, "plain text", api.OK}) {
		t.Errorf("with Old: %#v", x)
	}
	s.Old = false
	if x := unprotect(s, 4, true, p); x != (told{seal.Turn(s), 5, "plain text", api.OK}) {
		t.Errorf("without Old: %#v", x)
	}
}

// Of a packet of the state's own phase Now alone is tried, of one of the other phase never Now.
func TestUnprotectOfTheWrongPhase(t *testing.T) {
	for turns := range 3 {
		s := turned(seal.New("secret"), turns)
		own, other := firstOf(s, 2), firstOf(seal.Turn(s), 2)
		for name, p := range map[string]string{
			"Then with Now's phase": secondPacket(s.Then, own, 5, cid, "plain text"),
			"Now with the other":    secondPacket(s.Now, other, 5, cid, "plain text"),
		} {
			if x := unprotect(s, 4, true, p); x != refused(s, api.ErrSeal) {
				t.Errorf("behind %d turns, %s: %#v", turns, name, x)
			}
		}
	}
	s := turned(seal.New("secret"), 2)
	if x := unprotect(s, 4, true, secondPacket(s.Was, firstOf(s, 2), 5, cid, "plain text")); x != refused(s, api.ErrSeal) {
		t.Errorf("Was with Now's phase: %#v", x)
	}
}

// What Was would open is not opened without Old, and Was and Then never open what others sealed.
func TestUnprotectOfOthers(t *testing.T) {
	for turns := range 3 {
		s := turned(seal.New("secret"), turns)
		for _, first := range []byte{0x40, 0x44} {
			k := kdf.Of("others")
			k.Mask = s.Now.Mask
			if x := unprotect(s, 4, true, secondPacket(k, first, 5, cid, "plain text")); x != refused(s, api.ErrSeal) {
				t.Errorf("behind %d turns: %#v", turns, x)
			}
		}
	}
	for _, s := range strangeStates() {
		k := s.Was
		k.Mask = s.Now.Mask
		p := secondPacket(k, firstOf(seal.Turn(s), 3), 5, cid, "plain text")
		if x, want := unprotect(s, 4, true, p), secondUnprotect(s, 4, true, p); x != want {
			t.Errorf("%#v: %#v, not %#v", s, x, want)
		}
	}
}

// longPacket is a long header, with so many bytes behind it.
func longPacket(t *testing.T, behind int) string {
	t.Helper()
	s, e := header.Put(header.Header{Long: true, Type: header.Handshake, Dcid: cid, Scid: cid, Length: 100, Wide: 2, Num: 258})
	if e != api.OK {
		t.Fatalf("error %d", e)
	}
	return s + strewn(1, behind)
}

func TestUnprotectOfNoShortHeader(t *testing.T) {
	p := protected(t, seal.New("secret"), 5, "plain text")
	for name, packet := range map[string]string{
		"an empty packet":               "",
		"one byte":                      p[:1],
		"8 bytes":                       p[:8],
		"no bit that is always there":   flipped(p, 6),
		"a long one":                    longPacket(t, 100),
		"a long one without a sample":   longPacket(t, 0),
		"a long one, all but a sample":  longPacket(t, 17),
		"a long one with just a sample": longPacket(t, 18),
		"what begins as a long one":     flipped(p, 7),
		"a long one of one byte":        "\xc0",
		"1500 bytes 0":                  zeros(1500),
		"1500 bytes 255":                strings.Repeat("\xff", 1500),
	} {
		for turns := range 2 {
			s := turned(seal.New("secret"), turns)
			if x := unprotect(s, 4, true, packet); x != refused(s, api.ErrHeader) {
				t.Errorf("%s, behind %d turns: %#v", name, turns, x)
			}
		}
	}
}

func TestUnprotectWithoutASample(t *testing.T) {
	s := seal.New("secret")
	p := protected(t, s, 5, "plain text")
	for many := 9; many <= 28; many++ {
		if x := unprotect(s, 4, true, p[:many]); x != refused(s, api.ErrSeal) {
			t.Errorf("%d bytes: %#v", many, x)
		}
	}
	// With all bits of the first byte that a mask hides: none of them is looked at without a sample.
	for first := byte(0x40); first <= 0x7f; first++ {
		if x := unprotect(s, 4, true, string([]byte{first})+p[1:28]); x != refused(s, api.ErrSeal) {
			t.Errorf("first byte %x: %#v", first, x)
		}
	}
}

// The shortest packets that have a sample: of these one with four bytes of its number seals nothing.
func TestUnprotectWithJustASample(t *testing.T) {
	s := seal.New("secret")
	for wide := 1; wide <= 4; wide++ {
		plain := strewn(1, 4-wide)
		p := secondPacket(s.Now, firstOf(s, wide), 5, cid, plain)
		if x := unprotect(s, 4, true, p); len(p) != 29 || x != (told{s, 5, plain, api.OK}) {
			t.Errorf("%d bytes wide, of %d bytes: %#v", wide, len(p), x)
		}
	}
}

// Bits that are always 0 are a fault of the header, also of a packet that is sealed well, and of one that is not.
func TestUnprotectOfBitsThatMayNotBe(t *testing.T) {
	for turns := range 2 {
		s := turned(seal.New("secret"), turns)
		for _, bits := range []byte{0x08, 0x10, 0x18} {
			for _, k := range []kdf.Keys{s.Now, s.Then} {
				p := secondPacket(k, firstOf(s, 2)|bits, 5, cid, "plain text")
				if x := unprotect(s, 4, true, p); x != refused(s, api.ErrHeader) {
					t.Errorf("bits %x: %#v", bits, x)
				}
			}
		}
	}
}

// The bit of Spin is not hidden, and may be there; but it is sealed.
func TestUnprotectOfASpin(t *testing.T) {
	s := seal.New("secret")
	p := secondPacket(s.Now, 0x61, 5, cid, "plain text")
	if x := unprotect(s, 4, true, p); x != (told{s, 5, "plain text", api.OK}) {
		t.Errorf("%#v", x)
	}
	if x := unprotect(s, 4, true, flipped(p, 5)); x != refused(s, api.ErrSeal) {
		t.Errorf("with the bit turned: %#v", x)
	}
}

// With any bit turned a packet is refused, and just as the chapter says.
func TestUnprotectOfWhatWasChanged(t *testing.T) {
	for turns := range 2 {
		s := turned(seal.New("secret"), turns)
		for far := range 2 {
			from := turned(s, far)
			p := protected(t, from, 0xa82f9b32, "plain text")
			for bit := range 8 * len(p) {
				changed := flipped(p, bit)
				x, want := unprotect(s, 0xa82f9b31, true, changed), secondUnprotect(s, 0xa82f9b31, true, changed)
				if x != want || x.e == api.OK || x != refused(s, x.e) {
					t.Fatalf("bit %d: %#v, not %#v", bit, x, want)
				}
			}
		}
	}
}

// What ends too early, or too late, is refused just as the chapter says.
func TestUnprotectOfOtherLengths(t *testing.T) {
	s := seal.New("secret")
	p := protected(t, s, 5, "plain text")
	for many := range len(p) {
		x, want := unprotect(s, 4, true, p[:many]), secondUnprotect(s, 4, true, p[:many])
		if x != want || x != refused(s, x.e) || x.e == api.OK {
			t.Errorf("%d bytes: %#v, not %#v", many, x, want)
		}
	}
	for _, more := range []string{"\x00", p, strewn(1, 100)} {
		if x := unprotect(s, 4, true, p+more); x != refused(s, api.ErrSeal) {
			t.Errorf("%d bytes more: %#v", len(more), x)
		}
	}
}

func TestUnprotectOfAnyBytes(t *testing.T) {
	for i := range uint64(400) {
		s := turned(seal.New("secret"), int(i%2))
		p := strewn(i, int(i%60))
		if x, want := unprotect(s, i, i%3 > 0, p), secondUnprotect(s, i, i%3 > 0, p); x != want {
			t.Errorf("%x: %#v, not %#v", p, x, want)
		}
	}
}

// The number is put right by the greatest one so far; by another one the packet is of another number.
func TestUnprotectByTheLargest(t *testing.T) {
	s := seal.New("secret")
	for _, x := range []struct {
		num, acked uint64
		anyAcked   bool
		largest    uint64
		any        bool
		opens      bool
	}{
		{0, 0, false, 0, false, true},
		{0xa82f9b32, 0xa82f30ea, true, 0xa82f30ea, true, true},
		{0xa82f9b32, 0xa82f30ea, true, 0xa82f9b31, true, true},
		{0xa82f9b32, 0xa82f30ea, true, 0xa82f9b32, true, true},
		{0xa82f9b32, 0xa82f30ea, true, 0xa8309b32, true, false},
		{0xa82f9b32, 0xa82f30ea, true, 0, false, false},
		{0xa82f9b32, 0xa82f30ea, true, math.MaxUint64, true, false},
		{0x9b32, 0, true, 0xa82f30ea, false, true},
		{0x9b32, 0, true, 0xa82f30ea, true, false},
		{api.MaxNumber, api.MaxNumber - 1, true, api.MaxNumber - 1, true, true},
		{api.MaxNumber, api.MaxNumber - 1, true, api.MaxNumber, true, true},
		{api.MaxNumber, 0, false, api.MaxNumber - 1000, true, true},
		{api.MaxNumber, 0, false, 1, true, false},
	} {
		p, e := seal.Protect(s, x.num, x.acked, x.anyAcked, cid, "plain text")
		if e != api.OK {
			t.Fatalf("error %d", e)
		}
		want := refused(s, api.ErrSeal)
		if x.opens {
			want = told{s, x.num, "plain text", api.OK}
		}
		if got := unprotect(s, x.largest, x.any, p); got != want {
			t.Errorf("%d by %d %t: %#v, not %#v", x.num, x.largest, x.any, got, want)
		}
	}
}

// Whose packet it is hangs on no connection ID: that is sealed, and told by nobody.
func TestUnprotectOfAnyConnectionId(t *testing.T) {
	s := seal.New("secret")
	for _, id := range []string{zeros(8), strewn(1, 8), strings.Repeat("\xff", 8)} {
		p, e := seal.Protect(s, 5, 4, true, id, "plain text")
		if x := unprotect(s, 4, true, p); e != api.OK || x != (told{s, 5, "plain text", api.OK}) {
			t.Errorf("%x: %d %#v", id, e, x)
		}
	}
}

// P9.6

func TestWhatIsProtectedIsUnprotected(t *testing.T) {
	for i, secret := range secrets() {
		num := uint64(1) << (6 * i)
		for from := range 5 {
			p := protected(t, turned(seal.New(secret), from), num, strewn(uint64(from), 4+i))
			for by := range 5 {
				s := turned(seal.New(secret), by)
				want := refused(s, api.ErrSeal)
				switch {
				case from == by || from == by-1:
					want = told{s, num, strewn(uint64(from), 4+i), api.OK}
				case from == by+1:
					want = told{seal.Turn(s), num, strewn(uint64(from), 4+i), api.OK}
				}
				if x := unprotect(s, num-1, true, p); x != want {
					t.Errorf("from behind %d turns by one behind %d: %#v, not %#v", from, by, x, want)
				}
			}
		}
	}
}

// Two ends of one secret talk on, whichever turns first, with packets that come late.
func TestTwoEndsTalkOn(t *testing.T) {
	out, in := seal.New("secret"), seal.New("secret")
	late, largest := "", uint64(0)
	for num := range uint64(60) {
		if num > 0 && num%10 == 0 {
			late = protected(t, out, 1000+num, "late text")
			out = seal.Turn(out)
		}
		x := unprotect(in, largest, num > 0, protected(t, out, num, strewn(num, 4+int(num))))
		if x != (told{out, num, strewn(num, 4+int(num)), api.OK}) {
			t.Fatalf("packet %d: %#v", num, x)
		}
		in, largest = x.s, num
		if num%10 == 3 && late != "" {
			if x := unprotect(in, 1000, true, late); x != (told{in, 997 + num, "late text", api.OK}) {
				t.Fatalf("the late packet at %d: %#v", num, x)
			}
		}
	}
}

// R1

// Keys that kdf.Of does not tell are promised nothing, but that no call ends in a panic.
func TestKeysOfAnyLength(t *testing.T) {
	for _, many := range []int{0, 1, 11, 12, 13, 31, 33, 100} {
		k := kdf.Keys{Key: strewn(1, many), Iv: strewn(2, many), Mask: strewn(3, many)}
		s := seal.State{Secret: strewn(4, many), Was: k, Now: k, Then: k, Old: true}
		p, e := seal.Protect(s, 5, 4, true, cid, "plain text")
		if x := unprotect(s, 4, true, p); e != api.OK || x != (told{s, 5, "plain text", api.OK}) {
			t.Errorf("of %d bytes: %d %#v", many, e, x)
		}
		seal.Turn(s)
	}
}

// R4

func TestWhatIsHandedInStays(t *testing.T) {
	s := turned(seal.New("secret"), 1)
	before := s
	p := protected(t, seal.Turn(s), 5, "plain text")
	seal.Turn(s)
	if x := unprotect(s, 4, true, p); x.s == s || s != before {
		t.Errorf("the state is %#v, not %#v", s, before)
	}
}

// R5

func TestCallsHangOnTheirArgumentsAlone(t *testing.T) {
	s := turned(seal.New("secret"), 1)
	first := protected(t, seal.Turn(s), 5, "plain text")
	want := unprotect(s, 4, true, first)
	unprotect(s, 4, true, flipped(first, 200))
	protected(t, s, 6, "other text")
	if protected(t, seal.Turn(s), 5, "plain text") != first || unprotect(s, 4, true, first) != want {
		t.Error("the same calls tell other things")
	}
}

func TestManyCallsAtOnce(t *testing.T) {
	s := turned(seal.New("secret"), 1)
	var all sync.WaitGroup
	for n := range uint64(16) {
		all.Go(func() {
			p, e := seal.Protect(s, n, 0, false, cid, strewn(n, 100))
			if x := unprotect(s, 0, false, p); e != api.OK || x != (told{s, n, strewn(n, 100), api.OK}) {
				t.Errorf("packet %d: %d %#v", n, e, x)
			}
		})
	}
	all.Wait()
}
