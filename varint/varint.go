// Package varint is layer 1: see shared/doc/01-varint.md.
package varint

import (
	"strings"

	"domino/api"
)

// lengths stand by the number that the highest two bits of a first byte tell.
var lengths = [4]int{1, 2, 4, 8}

// word is how many bytes a number of 64 bits has.
const word = 8

// room tells how many bits of so many bytes are the number's: two more tell the length.
func room(wide int) int {
	return 8*wide - 2
}

// shortest tells the place in lengths of the least one that holds n, and whether there is one.
func shortest(n uint64) (int, bool) {
	for place, wide := range lengths {
		if n>>room(wide) == 0 {
			return place, true
		}
	}
	return 0, false
}

// Size tells how many bytes n has as a varint; 0, if it is none.
func Size(n uint64) int {
	place, ok := shortest(n)
	if !ok {
		return 0
	}
	return lengths[place]
}

// Put tells the varint of n.
func Put(n uint64) (string, api.Errno) {
	place, ok := shortest(n)
	if !ok {
		return "", api.ErrArg
	}
	wide := lengths[place]
	return Fixed(uint64(place)<<room(wide)|n, wide), api.OK
}

// Get tells the varint that s begins with, and what is behind it.
func Get(s string) (uint64, string, api.Errno) {
	if s == "" {
		return 0, "", api.ErrShort
	}
	wide := lengths[s[0]>>6]
	if len(s) < wide {
		return 0, "", api.ErrShort
	}
	number := uint64(1)<<room(wide) - 1
	return Back(s[:wide]) & number, s[wide:], api.OK
}

// Puts tells the varints of all of l, one behind the other.
func Puts(l ...uint64) (string, api.Errno) {
	var out strings.Builder
	for _, n := range l {
		s, e := Put(n)
		if e != api.OK {
			return "", e
		}
		out.WriteString(s)
	}
	return out.String(), api.OK
}

// Gets tells as many varints as s is to begin with, and what is behind them.
func Gets(s string, many int) ([]uint64, string, api.Errno) {
	// No room is made ahead: many may be far more than s has.
	var l []uint64
	for range many {
		n, rest, e := Get(s)
		if e != api.OK {
			return nil, "", e
		}
		l, s = append(l, n), rest
	}
	return l, s, api.OK
}

// Fixed tells the lowest bytes of n, the highest one first.
func Fixed(n uint64, wide int) string {
	var b [word]byte
	for i := range b {
		b[i] = byte(n >> (8 * (word - 1 - i)))
	}
	return string(b[word-min(max(wide, 0), word):])
}

// Back tells the number of the last bytes of s, the highest one first.
func Back(s string) uint64 {
	n := uint64(0)
	for i := max(len(s)-word, 0); i < len(s); i++ {
		n = n<<8 | uint64(s[i])
	}
	return n
}
