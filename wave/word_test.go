package wave

import (
	"slices"
	"strconv"
	"strings"
	"testing"

	"firn/api"
)

// TestWordsByHand: P3.3.
func TestWordsByHand(t *testing.T) {
	for _, c := range []struct {
		width, n int
		word     string
	}{
		{1, 0, "0"}, {1, -1, "1"},
		{2, 0, "00"}, {2, 1, "01"}, {2, -2, "10"}, {2, -1, "11"},
		{3, 2, "010"}, {3, 3, "011"}, {3, -4, "100"}, {3, -3, "101"}, {3, -1, "111"},
		{6, 31, "011111"}, {6, -32, "100000"}, {6, -31, "100001"},
		{11, 100, "00001100100"}, {11, 1023, "01111111111"}, {11, -1023, "10000000001"}, {11, -1024, "10000000000"},
	} {
		if w, err := Word(c.width, c.n); w != c.word || err != api.OK {
			t.Errorf("Word(%d, %d): %q, %d", c.width, c.n, w, err)
		}
		if n, err := Number(c.word); n != c.n || err != api.OK {
			t.Errorf("Number(%q): %d, %d", c.word, n, err)
		}
	}
}

// TestWordsThereAndBack: P3.3 and P3.10, for all words and all numbers.
func TestWordsThereAndBack(t *testing.T) {
	for _, width := range []int{1, 2, 3, 6, 11} {
		half := 1 << (width - 1)
		seen := map[string]bool{}
		for n := -half; n < half; n++ {
			word, err := Word(width, n)
			if err != api.OK || len(word) != width || seen[word] {
				t.Fatalf("Word(%d, %d): %q, %d", width, n, word, err)
			}
			seen[word] = true
			if (word == "1"+strings.Repeat("0", width-1)) != (n == -half) {
				t.Fatalf("Word(%d, %d): %q", width, n, word)
			}
			// Two's complement: the number modulo 2^w, in w binary digits. A bit in
			// front keeps the zeros, and is cut off.
			modulo := (n + 2*half) % (2 * half)
			if bits := strconv.FormatInt(int64(2*half+modulo), 2)[1:]; bits != word {
				t.Fatalf("Word(%d, %d): %q, want %q", width, n, word, bits)
			}
			if back, err := Number(word); back != n || err != api.OK {
				t.Fatalf("Number(%q): %d, %d", word, back, err)
			}
		}
		if len(seen) != 2*half {
			t.Errorf("width %d: %d words", width, len(seen))
		}
		for _, n := range append([]int{-half - 1, half, 2 * half}, slices.DeleteFunc(slices.Clone(extremes), func(n int) bool { return n == -1 })...) {
			if word, err := Word(width, n); word != "" || err != api.ErrArg {
				t.Errorf("Word(%d, %d): %q, %d", width, n, word, err)
			}
		}
	}
}

// TestNoWords: P3.3, widths that are none and texts that are no words.
func TestNoWords(t *testing.T) {
	for _, width := range append([]int{0, 4, 5, 7, 8, 9, 10, 12, 13, 16, 32, 64, -3}, extremes...) {
		for _, n := range []int{0, 1, -1, 5000} {
			if word, err := Word(width, n); word != "" || err != api.ErrArg {
				t.Errorf("Word(%d, %d): %q, %d", width, n, word, err)
			}
		}
	}
	for n := range 40 {
		is := n == 1 || n == 2 || n == 3 || n == 6 || n == 11
		if x, err := Number(strings.Repeat("0", n)); x != 0 || is != (err == api.OK) || !is && err != api.ErrForm {
			t.Errorf("Number of %d bits: %d, %d", n, x, err)
		}
	}
	for _, word := range append(badBits(), "", "a", "0a", "/00", "00:", "01 ", "+1", "-1", "00000x", "0000000000\x00", "é", "０") {
		if n, err := Number(word); n != 0 || err != api.ErrForm {
			t.Errorf("Number(%q): %d, %d", word, n, err)
		}
	}
}

// TestPackByHand: P3.7.
func TestPackByHand(t *testing.T) {
	for _, c := range []struct {
		text string
		b    []byte
	}{
		{"", []byte{0, 0}},
		{"0", []byte{0, 1, 0}},
		{"1", []byte{0, 1, 0x80}},
		{"01", []byte{0, 2, 0x40}},
		{"00000001", []byte{0, 8, 1}},
		{"000000011", []byte{0, 9, 1, 0x80}},
		{"010000000000", []byte{0, 12, 0x40, 0}},
		{strings.Repeat("1", 256), append([]byte{1, 0}, slices.Repeat([]byte{0xff}, 32)...)},
		{strings.Repeat("10", 500), append([]byte{3, 0xe8}, slices.Repeat([]byte{0xaa}, 125)...)},
	} {
		if b, err := Pack(c.text); !slices.Equal(b, c.b) || err != api.OK {
			t.Errorf("Pack(%q): %v, %d", c.text, b, err)
		}
		if text, err := Unpack(c.b); text != c.text || err != api.OK {
			t.Errorf("Unpack(%v): %q, %d", c.b, text, err)
		}
	}
	for _, text := range badBits() {
		if b, err := Pack(text); b != nil || err != api.ErrBits {
			t.Errorf("Pack(%q): %v, %d", text, b, err)
		}
	}
}

// TestUnpackForm: P3.7, bytes that are Pack of no text.
func TestUnpackForm(t *testing.T) {
	long := slices.Repeat([]byte{0}, 2+126)
	long[0], long[1] = 3, 0xe9
	for _, b := range [][]byte{
		nil, {}, {0}, {1}, {0, 0, 0}, {0, 1}, {0, 1, 0, 0}, {0, 8}, {0, 9, 0}, {0, 8, 0, 0}, {0, 16, 0, 0, 0}, {1, 0, 0},
		{0, 1, 0x40}, {0, 1, 0xc0}, {0, 1, 1}, {0, 7, 1}, {0, 9, 0xff, 0xc0}, {1, 0}, {255, 255}, {255, 255, 0, 0}, {3, 0xe8},
		long, long[:2+125], slices.Repeat([]byte{255}, 2+8192),
	} {
		if text, err := Unpack(b); text != "" || err != api.ErrForm {
			t.Errorf("Unpack(%v): %q, %d", b, text, err)
		}
	}
}

// TestPackThereAndBack: P3.10, for all short bytes and for texts of all lengths.
func TestPackThereAndBack(t *testing.T) {
	next := numbers(3)
	for n := range api.MaxText + 1 {
		bits := make([]byte, n)
		for i := range bits {
			bits[i] = '0' + byte(next(2))
		}
		text := string(bits)
		b, err := Pack(text)
		if err != api.OK || len(b) != 2+(n+7)/8 {
			t.Fatalf("Pack(%q): %v, %d", text, b, err)
		}
		if back, err := Unpack(b); back != text || err != api.OK {
			t.Fatalf("Unpack(%v): %q, %d", b, back, err)
		}
	}
	texts := 0
	look := func(b []byte) {
		text, err := Unpack(b)
		if text == "" && err == api.ErrForm {
			return
		}
		texts++
		if back, again := Pack(text); err != api.OK || again != api.OK || !slices.Equal(back, b) || len(text) != int(b[1]) {
			t.Fatalf("Unpack(%v): %q, %d", b, text, err)
		}
	}
	for n := range byte(20) {
		for x := range 1 << 16 {
			look([]byte{0, n, byte(x >> 8), byte(x)})
		}
		for x := range 1 << 8 {
			look([]byte{0, n, byte(x)})
		}
	}
	// All texts of 1 to 16 bits, each once.
	if want := 1<<17 - 2; texts != want {
		t.Errorf("%d texts, want %d", texts, want)
	}
}
