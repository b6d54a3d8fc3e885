package tick

import (
	"slices"
	"strings"
	"testing"

	"firn/api"
)

func TestFormatAndParse(t *testing.T) {
	for text, c := range map[string][]api.Mark{
		example:                     marks(0, 10, 10, 30, 20, 60),
		"0=0 1=1":                   marks(0, 0, 1, 1),
		"0=5 100000=100000":         marks(0, 5, 100000, 100000),
		"99999=99998 100000=100000": marks(99999, 99998, 100000, 100000),
		"100=7 1000=70 10000=700":   marks(100, 7, 1000, 70, 10000, 700),
	} {
		if got, err := Format(c); got != text || err != api.OK {
			t.Errorf("Format(%v): %q, %d", c, got, err)
		}
		if got, err := Parse(text); !slices.Equal(got, c) || err != api.OK {
			t.Errorf("Parse(%q): %v, %d", text, got, err)
		}
	}
}

func TestParseErrors(t *testing.T) {
	most, err := Format(longClock(api.MaxMarks))
	if err != api.OK {
		t.Fatal(err)
	}
	for _, bad := range []string{
		"", " ", "=", "0=0", "0=0 ", " 0=0 1=1", "0=0 1=1 ", "0=0  1=1", "0=0\t1=1", "0=0\n1=1",
		"0=0 1", "0=0 =1", "0=0 1=", "0=0 1==1", "0=0 1=1=1", "0 0 1 1", "0:0 1:1", "0=0,1=1",
		"00=0 1=1", "0=00 1=1", "0=0 01=1", "0=0 1=01", "+0=0 1=1", "-0=0 1=1", "-1=0 1=1", "0=-1 1=1", "0=0 1=+1",
		"0=0 1_0=1", "0=0 0x1=1", "0=0 1=1.0", "0=0 1=1e1", "0=0 a=1", "0=0 １=1", "0=0 1=1\x00",
		"1=1 0=2", "0=1 1=1", "0=1 1=0", "0=0 0=1", "0=0 100001=1", "0=0 1=100001",
		"0=0 18446744073709551617=1", "0=0 1=99999999999999999999999999",
		most + " 50000=50000", most + " ", strings.Repeat("0=0 ", 100000), strings.Repeat("9", 100000) + "=1",
	} {
		if c, err := Parse(bad); err != api.ErrForm || c != nil {
			t.Errorf("Parse(%.80q): %v, %d", bad, c, err)
		}
	}
	if c, err := Parse(most); len(c) != api.MaxMarks || err != api.OK {
		t.Errorf("Parse(%q): %v, %d", most, c, err)
	}
}

// TestTextsThereAndBack: P1.12.
func TestTextsThereAndBack(t *testing.T) {
	next := numbers(6)
	for i := range 1000 {
		c := randomClock(next, []int{5, 500, api.MaxTick}[i%3])
		text, err := Format(c)
		if err != api.OK {
			t.Fatalf("Format(%v): %d", c, err)
		}
		back, err := Parse(text)
		if !slices.Equal(back, c) || err != api.OK {
			t.Fatalf("Parse(%q): %v, %d", text, back, err)
		}
		// A byte left out or doubled gives another clock or none, but never this text again.
		at := next(len(text))
		for _, other := range []string{text[:at] + text[at+1:], text[:at+1] + text[at:]} {
			got, err := Parse(other)
			if err != api.OK {
				if err != api.ErrForm || got != nil {
					t.Fatalf("Parse(%q): %v, %d", other, got, err)
				}
				continue
			}
			if again, err := Format(got); again != other || err != api.OK {
				t.Fatalf("Format(%v): %q, %d, want %q", got, again, err, other)
			}
		}
	}
}
