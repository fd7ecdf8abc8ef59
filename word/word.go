// Package word: numbers and texts as bytes.
package word

import (
	"strings"

	"tableau/api"
)

// size is how many bytes a number has, and what texts and lists are filled up to a multiple of.
const size = 4

// least and most are the whole numbers between which a number with a fraction has room for 256 times as much.
const (
	least = -1 << 23
	most  = 1<<23 - 1
)

// Put puts a number behind b.
func Put(b []byte, v uint32) []byte {
	// Without spare room b must be moved: behind it somebody else's bytes may stand.
	full := b[:len(b):len(b)]
	return append(full, byte(v), byte(v>>8), byte(v>>16), byte(v>>24))
}

// Get is the number that stands at a place.
func Get(b []byte, at int) (uint32, error) {
	if at < 0 || at > len(b) {
		return 0, api.ErrArg
	}
	if len(b)-at < size {
		return 0, api.ErrShort
	}
	w := b[at : at+size : at+size]
	return uint32(w[0]) | uint32(w[1])<<8 | uint32(w[2])<<16 | uint32(w[3])<<24, nil
}

// PutText puts a text behind b.
func PutText(b []byte, s string) []byte {
	return PutList(b, s+"\x00")
}

// PutList puts a list of bytes behind b.
func PutList(b []byte, s string) []byte {
	// Put has moved b already, so the rest may use the spare room.
	b = append(Put(b, uint32(len(s))), s...)
	for range filled(len(s)) - len(s) {
		b = append(b, 0)
	}
	return b
}

// GetText is the text that stands at a place, and the place behind it.
func GetText(b []byte, at int) (string, int, error) {
	s, next, err := GetList(b, at)
	if err != nil {
		return "", 0, err
	}
	if !ended(s) {
		return "", 0, api.ErrBytes
	}
	return s[:len(s)-1], next, nil
}

// GetList is the list of bytes that stands at a place, and the place behind it.
func GetList(b []byte, at int) (string, int, error) {
	v, err := Get(b, at)
	if err != nil {
		return "", 0, err
	}
	if v > api.MaxMsg {
		return "", 0, api.ErrBig
	}
	n, from := int(v), at+size
	whole := filled(n)
	if len(b)-from < whole {
		return "", 0, api.ErrShort
	}
	body := b[from : from+whole : from+whole]
	for _, x := range body[n:] {
		if x != 0 {
			return "", 0, api.ErrBytes
		}
	}
	return string(body[:n]), from + whole, nil
}

// filled is how many bytes n bytes are with their filling.
func filled(n int) int {
	return (n + size - 1) / size * size
}

// ended tells whether the last byte of s is 0, and none ahead of it.
func ended(s string) bool {
	return s != "" && strings.IndexByte(s, 0) == len(s)-1
}

// Fixed is a number with a fraction.
func Fixed(n int) int32 {
	// Cut first: 256 times n may be beyond what an int holds.
	return int32(min(max(n, least), most)) * 256
}

// Whole is the number below.
func Whole(v int32) int {
	// A shift rounds towards the lower ones; a division would round towards 0.
	return int(v >> 8)
}
