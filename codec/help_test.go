package codec_test

import (
	"math"
	"math/rand"

	"copyist/api"
)

var (
	encodings   = []int{api.UTF8, api.UTF16LE, api.UTF16BE, api.Latin1}
	noEncodings = []int{math.MinInt, -1, 0, 5, 6, 1 << 32, math.MaxInt}
)

// edges are the bytes at which a rule of some encoding begins or ends.
const edges = "\x00\x0A\x41\x7F\x80\x8F\x90\x9F\xA0\xBF\xC0\xC1\xC2\xD7\xD8\xDB\xDC\xDF\xE0\xE1\xEC\xED\xEE\xEF\xF0\xF1\xF3\xF4\xF5\xFF"

// rows: the table of P101, a first byte's and the other bytes' bounds.
var rows = [][][2]byte{
	{{0x00, 0x7F}},
	{{0xC2, 0xDF}, {0x80, 0xBF}},
	{{0xE0, 0xE0}, {0xA0, 0xBF}, {0x80, 0xBF}},
	{{0xE1, 0xEC}, {0x80, 0xBF}, {0x80, 0xBF}},
	{{0xED, 0xED}, {0x80, 0x9F}, {0x80, 0xBF}},
	{{0xEE, 0xEF}, {0x80, 0xBF}, {0x80, 0xBF}},
	{{0xF0, 0xF0}, {0x90, 0xBF}, {0x80, 0xBF}, {0x80, 0xBF}},
	{{0xF1, 0xF3}, {0x80, 0xBF}, {0x80, 0xBF}, {0x80, 0xBF}},
	{{0xF4, 0xF4}, {0x80, 0x8F}, {0x80, 0xBF}, {0x80, 0xBF}},
}

// token is an atom and the number of its bytes.
type token struct{ atom, size int }

func within(row [][2]byte, b string) bool {
	for i, bounds := range row {
		if i >= len(b) || b[i] < bounds[0] || b[i] > bounds[1] {
			return false
		}
	}
	return true
}

func firstUTF8(b string) token {
	for _, row := range rows {
		if !within(row, b) {
			continue
		}
		n := len(row)
		v := int(b[0]) & []int{0x7F, 0x1F, 0x0F, 0x07}[n-1]
		for _, x := range []byte(b[1:n]) {
			v = v*64 + int(x)%64
		}
		return token{v, n}
	}
	return token{-1 - int(b[0]), 1}
}

func first16(b string, unit func(hi, lo byte) int) token {
	if len(b) == 1 {
		return token{-1 - int(b[0]), 1}
	}
	u := unit(b[0], b[1])
	if u >= 0xD800 && u <= 0xDBFF && len(b) >= 4 {
		if v := unit(b[2], b[3]); v >= 0xDC00 && v <= 0xDFFF {
			return token{0x10000 + (u-0xD800)*0x400 + (v - 0xDC00), 4}
		}
	}
	return token{u, 2}
}

// tokens reads bytes as P101 says it, in the plainest way.
func tokens(enc int, b string) []token {
	var out []token
	for len(b) > 0 {
		var t token
		switch enc {
		case api.UTF8:
			t = firstUTF8(b)
		case api.UTF16LE:
			t = first16(b, func(x, y byte) int { return int(y)*256 + int(x) })
		case api.UTF16BE:
			t = first16(b, func(x, y byte) int { return int(x)*256 + int(y) })
		case api.Latin1:
			t = token{int(b[0]), 1}
		}
		out = append(out, t)
		b = b[t.size:]
	}
	return out
}

func atomsOf(ts []token) []int {
	var out []int
	for _, t := range ts {
		out = append(out, t.atom)
	}
	return out
}

// words gives every text of up to n bytes out of an alphabet.
func words(alphabet string, n int, give func(string)) {
	give("")
	var grow func(string)
	grow = func(w string) {
		if len(w) == n {
			return
		}
		for i := range len(alphabet) {
			longer := w + alphabet[i:i+1]
			give(longer)
			grow(longer)
		}
	}
	grow("")
}

// samples gives every text of up to three edge bytes, of four bytes some, and longer ones at random, the same in each run.
func samples(give func(string)) {
	words(edges, 3, give)
	words("\x00\x80\x90\xBF\xD8\xDC\xE0\xED\xF0\xF4\xFF", 4, give)
	r := rand.New(rand.NewSource(1))
	for range 3000 {
		b := make([]byte, r.Intn(40))
		for i := range b {
			b[i] = edges[r.Intn(len(edges))]
			if r.Intn(3) == 0 {
				b[i] = byte(r.Intn(256))
			}
		}
		give(string(b))
	}
}

// everyInt gives all atoms, and ints that are none.
func everyInt(give func(int)) {
	for a := -600; a <= 0x110300; a++ {
		give(a)
	}
	for _, a := range []int{math.MinInt, math.MinInt + 1, -1 << 32, -1<<32 - 1, -1<<32 + 65, math.MinInt32, 1 << 31, 1 << 32, 1<<32 + 65, math.MaxInt - 1, math.MaxInt} {
		give(a)
	}
}
