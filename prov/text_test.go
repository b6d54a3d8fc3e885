package prov

import (
	"regexp"
	"slices"
	"strings"
	"testing"

	"firn/api"
)

// productForm has the texts of products, but for limits and the order of tokens.
var productForm = regexp.MustCompile(`^(1|([2-9]|[1-9][0-9]{1,5})[a-h]*|[a-h]+)$`)

// isText reports whether a text is that of a sum, by the chapter's words.
func isText(text string) bool {
	if text == "0" {
		return true
	}
	for part := range strings.SplitSeq(text, "+") {
		if !productForm.MatchString(part) {
			return false
		}
	}
	return isSum(of(text))
}

// TestFormatAndParseByHand: P9.4.
func TestFormatAndParseByHand(t *testing.T) {
	for _, c := range []struct {
		text string
		sum  []api.Product
	}{
		{"0", nil}, {"0", []api.Product{}}, {"1", []api.Product{{Tokens: "", Times: 1}}}, {"12", []api.Product{{Tokens: "", Times: 12}}}, {"a", []api.Product{{Tokens: "a", Times: 1}}},
		{"2a+ab+bc", []api.Product{{Tokens: "a", Times: 2}, {Tokens: "ab", Times: 1}, {Tokens: "bc", Times: 1}}},
		{"1+a", []api.Product{{Tokens: "", Times: 1}, {Tokens: "a", Times: 1}}}, {"10+11aah+100000h", []api.Product{{Tokens: "", Times: 10}, {Tokens: "aah", Times: 11}, {Tokens: "h", Times: 100000}}},
		{"abcdefghhhhh", []api.Product{{Tokens: "abcdefghhhhh", Times: 1}}}, {"100000aaaaaaaaaaaa", []api.Product{{Tokens: "aaaaaaaaaaaa", Times: 100000}}},
	} {
		if text, err := Format(c.sum); text != c.text || err != api.OK {
			t.Errorf("Format(%v): %q, %d, want %q", c.sum, text, err, c.text)
		}
		if s, err := Parse(c.text); !slices.Equal(s, c.sum) || err != api.OK {
			t.Errorf("Parse(%q): %v, %d, want %v", c.text, s, err, c.sum)
		}
	}
}

// TestParseNoText: P9.4.
func TestParseNoText(t *testing.T) {
	long := make([]string, 41)
	for a, p := range many(41, 1)[1:] {
		long[a] = p.Tokens
	}
	long[40] = "hhhhhhhhhhhh"
	if _, err := Parse(strings.Join(long[:40], "+")); err != api.OK {
		t.Errorf("40 products: error %d", err)
	}
	for _, text := range []string{
		"", " ", "+", "00", "01", "0a", "1a", "01a", "-1", "-1a", "+a", "a+", "a++b", "0+a", "a+0", "1+0", "0+1", " a", "a ", "a +b", "a+ b", "a b", "a,b", "a-b", "a\n", "\na", "a\x00",
		"A", "i", "ai", "`", "é", "\xff", "a\xffb", "١a", "ba", "aba", "a+a", "b+a", "a+1", "1+1", "ab+a", "a+b+ab", "2a2", "2a2b", "a2", "2 a", "2*a", "2_0a", "0x2", "1e2", "2.0", "+2", "2+-a",
		"100001", "100001a", "999999", "4294967297", "18446744073709551617a", "9223372036854775808", strings.Repeat("9", 1000), strings.Repeat("1", 100000) + "a",
		"aaaaaaaaaaaaa", "abcdefghhhhhh", strings.Repeat("a", 1<<16), strings.Repeat("a+", 1<<16), strings.Repeat("+", 1<<16), strings.Join(long, "+"), "(a)", "aa+aaa+a", "1a+b", "a+1b", "0+0", "1+01a", "1+2a+02b",
	} {
		if s, err := Parse(text); len(s) > 0 || err != api.ErrForm {
			t.Errorf("Parse(%.40q): %v, %d", text, s, err)
		}
	}
}

// TestParseAllTexts: P9.4 and P9.11, all short texts of some bytes.
func TestParseAllTexts(t *testing.T) {
	bytes := "012+abh i"
	var hold func(text string, n int)
	sums := 0
	hold = func(text string, n int) {
		s, err := Parse(text)
		if isText(text) != (err == api.OK) || err != api.OK && (err != api.ErrForm || len(s) > 0) {
			t.Fatalf("Parse(%q): %v, %d", text, s, err)
		}
		if err == api.OK {
			sums++
			if again := sure[string](t, "Format")(Format(s)); again != text || !slices.Equal(s, of(text)) {
				t.Fatalf("Parse(%q): %v, Format of it: %q", text, s, again)
			}
		}
		if n > 0 {
			for a := range len(bytes) {
				hold(text+bytes[a:a+1], n-1)
			}
		}
	}
	hold("", 5)
	if sums < 500 {
		t.Errorf("%d sums", sums)
	}
}

// TestFormatAndParse: P9.11, there and back.
func TestFormatAndParse(t *testing.T) {
	manySums(11, 3000, func(s []api.Product, next func(int) int) {
		text := sure[string](t, "Format")(Format(s))
		if !isText(text) || !slices.Equal(of(text), s) {
			t.Fatalf("Format(%v): %q", s, text)
		}
		if again := sure[[]api.Product](t, "Parse")(Parse(text)); !slices.Equal(again, s) {
			t.Fatalf("Parse(%q): %v", text, again)
		}
		// One byte more, less or other.
		a := next(len(text))
		other := text[:a] + []string{"", "0", "1", "+", "a", "c", "h", " "}[next(8)] + text[a+next(2):]
		x, err := Parse(other)
		if isText(other) != (err == api.OK) || err == api.OK && !slices.Equal(x, of(other)) {
			t.Fatalf("Parse(%q): %v, %d", other, x, err)
		}
	})
}
