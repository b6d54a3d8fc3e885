package wave

import (
	"slices"
	"strings"
	"testing"

	"firn/api"
)

// The words of the chapter's table, written out once more, so that a slip in the
// program's own one is seen.
var testWidths = []int{1, 2, 3, 6, 11}

// told is what a text of a wave form says.
type told struct {
	samples, widths []int
	changes         int
}

// readBySteps reads a text bit by bit by the words of the chapter.
func readBySteps(text string) (told, bool) {
	var r told
	at, last, step := 0, 0, 2
	take := func(n int) (string, bool) {
		if at+n > len(text) {
			return "", false
		}
		at += n
		return text[at-n : at], true
	}
	for open := true; at < len(text) || open; {
		w := testWidths[step]
		word, is := take(w)
		if !is {
			return told{}, false
		}
		n := 0
		for i, bit := range []byte(word) {
			if bit == '1' && i == 0 {
				n -= 1 << (w - 1)
			} else if bit == '1' {
				n += 1 << (w - 1 - i)
			}
		}
		if open = n == -(1 << (w - 1)); open {
			bit, is := take(1)
			if bit == "1" {
				step++
			} else {
				step--
			}
			if !is || step < 0 || step == len(testWidths) {
				return told{}, false
			}
			r.changes++
			continue
		}
		last += n
		r.samples = append(r.samples, last)
		r.widths = append(r.widths, w)
	}
	return r, Valid(r.samples)
}

// checkText holds all that is told of a text against readBySteps.
func checkText(t *testing.T, text string) (told, bool) {
	t.Helper()
	want, is := readBySteps(text)
	wantErr := api.OK
	if !is {
		want, wantErr = told{}, api.ErrForm
	}
	s, a := Decode(text)
	widths, b := Widths(text)
	changes, c := Changes(text)
	if !slices.Equal(s, want.samples) || !slices.Equal(widths, want.widths) || changes != want.changes || a != wantErr || b != wantErr || c != wantErr {
		t.Fatalf("text %q: %v, %d, %v, %d, %d, %d, want %v, %d", text, s, a, widths, b, changes, c, want, wantErr)
	}
	if is {
		if yes, err := IsText(s, text); !yes || err != api.OK {
			t.Fatalf("IsText(%v, %q): %v, %d", s, text, yes, err)
		}
	}
	return want, is
}

// TestValidBits: P3.2.
func TestValidBits(t *testing.T) {
	for _, text := range []string{"", "0", "1", "0110", strings.Repeat("1", api.MaxText)} {
		if !ValidBits(text) {
			t.Errorf("ValidBits(%q): false", text)
		}
	}
	for _, text := range badBits() {
		if ValidBits(text) {
			t.Errorf("ValidBits(%q): true", text)
		}
	}
}

// TestTextsByHand: P3.4 and P3.5.
func TestTextsByHand(t *testing.T) {
	for _, c := range []struct {
		text            string
		samples, widths []int
		changes         int
	}{
		{"010000000000", []int{2, 2, 2, 2}, []int{3, 3, 3, 3}, 0},
		{"1001100000100001100100", []int{100}, []int{11}, 2},
		// To 2 bits, to 1 bit, and then three differences of 0.
		{"1000" + "100" + "000", []int{0, 0, 0}, []int{1, 1, 1}, 2},
		{"000", []int{0}, []int{3}, 0},
		// Up and down again before the first difference: more than is needed, but a text.
		{"1001" + "1000000" + "001", []int{1}, []int{3}, 2},
		// From 1 bit, whose sign of change is one bit alone, up again.
		{"1000" + "100" + "0" + "11" + "01", []int{0, 1}, []int{1, 2}, 3},
	} {
		got, is := checkText(t, c.text)
		if !is || !slices.Equal(got.samples, c.samples) || !slices.Equal(got.widths, c.widths) || got.changes != c.changes {
			t.Errorf("text %q: %v, %v", c.text, got, is)
		}
	}
}

// TestTextForm: P3.4 and P3.5, texts of no wave form.
func TestTextForm(t *testing.T) {
	narrow, wide := "1000100", "10011000001"
	for _, text := range []string{
		"", "0", "01", "1", "10", "0000", "00001",
		// Behind a sign of change, and behind its bit.
		"100", "1001", "1000", "000100", "0001000", "0001001", narrow, wide, narrow + "01", narrow + "011", narrow + "01110",
		// Beyond the least and the greatest width.
		narrow + "10", narrow + "10" + "0", narrow + "010" + "00", wide + "100000000001", wide + "100000000001" + "00000000000",
		// Samples below 0, and above the greatest one.
		"111", "001110", wide + "11111111111", wide + "01111111111" + "00000000001", wide + "00000000001" + "11111111110",
		// More than all samples.
		strings.Repeat("000", api.MaxWave+1), narrow + strings.Repeat("0", api.MaxWave+1), strings.Repeat("0", api.MaxText),
		strings.Repeat("1", api.MaxText),
	} {
		if s, err := Decode(text); s != nil || err != api.ErrForm {
			t.Errorf("Decode(%q): %v, %d", text, s, err)
		}
		if w, err := Widths(text); w != nil || err != api.ErrForm {
			t.Errorf("Widths(%q): %v, %d", text, w, err)
		}
		if n, err := Changes(text); n != 0 || err != api.ErrForm {
			t.Errorf("Changes(%q): %d, %d", text, n, err)
		}
		if is, err := IsText([]int{0}, text); is || err != api.OK {
			t.Errorf("IsText(0, %q): %v, %d", text, is, err)
		}
		checkText(t, text)
	}
}

// TestTextErrors: P3.1 and P3.4, ErrBits is in front of all but ErrWave.
func TestTextErrors(t *testing.T) {
	for _, text := range badBits() {
		if s, err := Decode(text); s != nil || err != api.ErrBits {
			t.Errorf("Decode(%q): %v, %d", text, s, err)
		}
		if w, err := Widths(text); w != nil || err != api.ErrBits {
			t.Errorf("Widths(%q): %v, %d", text, w, err)
		}
		if n, err := Changes(text); n != 0 || err != api.ErrBits {
			t.Errorf("Changes(%q): %d, %d", text, n, err)
		}
		if is, err := IsText([]int{0}, text); is || err != api.ErrBits {
			t.Errorf("IsText(0, %q): %v, %d", text, is, err)
		}
	}
}

// TestLongestTexts: P3.4, a text may go up and down as often as it has bits for.
func TestLongestTexts(t *testing.T) {
	// To 1 bit, between it and 2 bits up by `11` and down by `100`, and three differences of 0.
	text := "1000100" + strings.Repeat("11100", 198) + "000"
	got, is := checkText(t, text)
	if !is || len(text) != api.MaxText || got.changes != 2+2*198 || !slices.Equal(got.samples, flat(3, 0)) {
		t.Errorf("%d bits: %v, %v", len(text), got, is)
	}
	if s, err := Decode(text + "0"); s != nil || err != api.ErrBits {
		t.Errorf("Decode of %d bits: %v, %d", len(text)+1, s, err)
	}
}

// allTexts calls look with all texts of up to most bits, by their lengths and then
// the ones that come first in front.
func allTexts(most int, look func(text string)) {
	for n := range most + 1 {
		bits := make([]byte, n)
		for x := range 1 << n {
			for i := range bits {
				bits[i] = '0' + byte(x>>(n-1-i)&1)
			}
			look(string(bits))
		}
	}
}

// key is a wave form as the key of a map.
func key(s []int) string {
	var b strings.Builder
	for _, n := range s {
		b.WriteRune(rune(n + 1))
	}
	return b.String()
}

// TestAllShortTexts: P3.4, P3.5, P3.8 and P3.9, for all texts of up to 17 bits: the
// first one of a wave form is its Encode.
func TestAllShortTexts(t *testing.T) {
	first := map[string]string{}
	texts := 0
	allTexts(17, func(text string) {
		got, is := checkText(t, text)
		if !is {
			return
		}
		texts++
		k := key(got.samples)
		if _, seen := first[k]; !seen {
			first[k] = text
			if best, err := Encode(got.samples); best != text || err != api.OK {
				t.Fatalf("Encode(%v): %q, %d, want %q", got.samples, best, err, text)
			}
			if n, err := Length(got.samples); n != len(text) || err != api.OK {
				t.Fatalf("Length(%v): %d, %d, want %d", got.samples, n, err, len(text))
			}
		}
		other := slices.Clone(got.samples)
		other[len(other)-1] ^= 1
		if is, err := IsText(other, text); is || err != api.OK {
			t.Fatalf("IsText(%v, %q): %v, %d", other, text, is, err)
		}
		if is, err := IsText(slices.Concat(got.samples[:1], got.samples), text); is || err != api.OK {
			t.Fatalf("IsText of a longer one, %q: %v, %d", text, is, err)
		}
	})
	if texts < 1000 || len(first) < 500 || len(first) == texts {
		t.Errorf("%d texts of %d wave forms", texts, len(first))
	}
}

// TestRandomTexts: P3.4 and P3.5, texts of words and signs at random, some of which are cut off.
func TestRandomTexts(t *testing.T) {
	next := numbers(4)
	read := 0
	for range 30000 {
		var text strings.Builder
		step := 2
		for n := next(60); n > 0; n-- {
			w := testWidths[step]
			bit := next(3)
			if next(3) > 0 || step == 0 && bit == 0 && next(9) > 0 || step == 4 && bit == 1 && next(9) > 0 {
				word, _ := Word(w, next(4)*next(1<<(w-1))/3)
				text.WriteString(word)
				continue
			}
			text.WriteString("1" + strings.Repeat("0", w-1))
			if bit == 1 {
				text.WriteString("1")
				step = min(step+1, 4)
			} else {
				text.WriteString("0")
				step = max(step-1, 0)
			}
		}
		all := text.String()
		if _, is := checkText(t, all); is {
			read++
		}
		if len(all) > 0 {
			checkText(t, all[:next(len(all))])
		}
	}
	if read < 1000 {
		t.Errorf("%d texts of wave forms alone", read)
	}
}
