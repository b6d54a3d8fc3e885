package link

import (
	"regexp"
	"slices"
	"strconv"
	"strings"
	"testing"

	"firn/api"
	"firn/ice"
	"firn/prov"
	"firn/sky"
	"firn/tick"
	"firn/wave"
)

// num is a number as a line has it, by the chapter's words.
const num = `(?:0|-?[1-9][0-9]{0,5})`

var questions = regexp.MustCompile(`^(?:(?:entry|wave|why) ` + num + `|(?:clock|ring) ` + num + ` ` + num + `|loss ` + num + ` ` + num + ` ` + num + `)$`)

var samplesForm = regexp.MustCompile(`^` + num + `(,` + num + `)*$`)

// isQuestion reports whether a line is a question, by the chapter's words.
func isQuestion(line string) bool {
	return questions.MatchString(line)
}

// north returns a link of which the north has these entries, and the pole one more.
func north(t *testing.T, entries ...string) *Link {
	t.Helper()
	l := made(t, 8, entries...)
	for n, _ := Passes(l); n > 0; n-- {
		l.Clean()
	}
	l.Add("not there")
	return l
}

// asked asks a question and compares the answer, or the error.
func asked(t *testing.T, l *Link, line, want string, wantErr api.Errno) {
	t.Helper()
	before := l.Copy()
	if answer, err := l.Ask(line); answer != want || err != wantErr {
		t.Errorf("Ask(%q): %q, %d, want %q, %d", line, answer, err, want, wantErr)
	}
	if !Same(l, before) {
		t.Errorf("Ask(%q) changes the link", line)
	}
}

// vocabulary has words of lines, and some that come near to them.
var vocabulary = []string{
	"", "entry", "clock", "wave", "why", "ring", "loss", "add", "pass", "clean", "fall", "seen", "sent", "pole", "north",
	"0", "1", "2", "-1", "-0", "01", "+1", "999999", "-999999", "1000000", "-1000000", "-", "0,1", "NUM", "Entry", "1\n",
}

// lines calls look with all lines of up to three words, and with all of more words that
// begin as a question does.
func lines(look func(line string)) {
	all := slices.Clone(vocabulary)
	for a := 0; a < len(all); a++ {
		look(all[a])
		n := strings.Count(all[a], " ") + 1
		if n < 3 || n < 5 && (strings.HasPrefix(all[a], "loss 1 1") || strings.HasPrefix(all[a], "ring 0 0") || strings.HasPrefix(all[a], "pass 0 0")) {
			for _, word := range vocabulary {
				all = append(all, all[a]+" "+word)
			}
		}
	}
}

func TestWhichLinesAsk(t *testing.T) {
	l := north(t, "0=0 1=1", "1,2")
	count := 0
	lines(func(line string) {
		_, err := l.Ask(line)
		if isQuestion(line) == (err == api.ErrCommand) {
			t.Errorf("Ask(%q): %d", line, err)
		}
		if err != api.ErrCommand {
			count++
		}
	})
	if count < 50 {
		t.Errorf("there are just %d questions", count)
	}
}

// near calls look with all texts that are a text with one byte left out, put in, or
// exchanged.
func near(text string, look func(text string)) {
	for a := 0; a <= len(text); a++ {
		for _, b := range []string{" ", "\t", "\n", "-", "+", "0", "1", "9", ",", "e", "\x00", "\xa0", "٣"} {
			look(text[:a] + b + text[a:])
			if a < len(text) {
				look(text[:a] + b + text[a+1:])
			}
		}
		if a < len(text) {
			look(text[:a] + text[a+1:])
		}
	}
}

func TestNearQuestions(t *testing.T) {
	l := north(t, "a")
	for _, line := range []string{"entry 1", "clock 1 -5", "wave 12345", "why 0", "ring 4 999999", "loss 12 -3 0"} {
		if !isQuestion(line) {
			t.Fatalf("%q is no question", line)
		}
		near(line, func(text string) {
			if _, err := l.Ask(text); isQuestion(text) == (err == api.ErrCommand) {
				t.Errorf("Ask(%q): %d", text, err)
			}
		})
	}
	for _, line := range []string{strings.Repeat("entry 1 ", 1<<16), "entry " + strings.Repeat("1", 1<<16), strings.Repeat(" ", 1<<20), "entry 99999999999999999999"} {
		asked(t, l, line, "", api.ErrCommand)
	}
}

func TestEntryQuestion(t *testing.T) {
	l := north(t, "first", " two  words ", "~")
	for number := -3; number < 10; number++ {
		entry, err := l.Entry(number)
		asked(t, l, "entry "+strconv.Itoa(number), entry, err)
	}
	asked(t, l, "entry 2", " two  words ", api.OK)
	for _, line := range []string{"entry 0", "entry 4", "entry -1", "entry 999999", "clock 4 5", "clock 0 -1", "wave 4", "why 4", "why -3"} {
		asked(t, l, line, "", api.ErrNone)
	}
	// What is no question is told before what there is not.
	asked(t, l, "entry 4 ", "", api.ErrCommand)
	asked(t, l, "clock 4", "", api.ErrCommand)
}

// TestOldNorth tells that the north answers, not the pole.
func TestOldNorth(t *testing.T) {
	l := made(t, 2, "a", "b")
	asked(t, l, "why 1", "", api.ErrNone)
	pass(t, l, []int{0}, nil)
	asked(t, l, "why 1", "a", api.OK)
	asked(t, l, "why 2", "", api.ErrNone)
	l.Fall()
	asked(t, l, "why 1", "a", api.OK)
}

func TestClockQuestion(t *testing.T) {
	clocks := []string{"0=10 10=30", "0=10 10=30 20=60", "3=1 10=2", "0=10", "10=30 0=10", "0=10  10=30", "a", " 0=1 1=2", "00=10 10=30", "0=10 10=100001", "0=10 10=100000"}
	l := north(t, clocks...)
	asked(t, l, "clock 1 5", "20/1", api.OK)
	asked(t, l, "clock 3 4", "8/7", api.OK)
	asked(t, l, "clock 3 0", "4/7", api.OK)
	asked(t, l, "clock 4 0", "", api.ErrForm)
	asked(t, l, "clock 1 100001", "", api.ErrArg)
	asked(t, l, "clock 1 -1", "", api.ErrArg)
	asked(t, l, "clock 4 -1", "", api.ErrForm)
	for a, entry := range clocks {
		for _, local := range []int{-999999, -1, 0, 1, 2, 5, 10, 15, 20, 99, 100000, 100001, 999999} {
			want := ""
			c, err := tick.Parse(entry)
			if err == api.OK {
				var time api.Ratio
				if time, err = tick.At(c, local); err == api.OK {
					want = strconv.Itoa(time.N) + "/" + strconv.Itoa(time.D)
				}
			}
			asked(t, l, "clock "+strconv.Itoa(a+1)+" "+strconv.Itoa(local), want, err)
		}
	}
	// A time may be below 0.
	asked(t, north(t, "10=0 20=3"), "clock 1 0", "-3/1", api.OK)
	asked(t, north(t, "10=0 20=3"), "clock 1 5", "-3/2", api.OK)
}

func TestWaveQuestion(t *testing.T) {
	long := "1" + strings.Repeat(",2", 29)
	forms := []string{
		"2,2,2,2", "100", "0", "1023", "1024", "-1", "5,-5", "1,2,1000000", "999999", "-999999", "1000000", "01", "-0", "1, 2", "1,,2",
		",1", "1,", ",", "-", "a", "1 2", "+1", " 1", "1 ", "1.5", long, "0,1023,0,1023,512", "3;4",
	}
	l := north(t, forms...)
	asked(t, l, "wave 1", "12", api.OK)
	asked(t, l, "wave 2", "22", api.OK)
	asked(t, l, "wave 5", "", api.ErrWave)
	asked(t, l, "wave 6", "", api.ErrWave)
	asked(t, l, "wave 8", "", api.ErrForm)
	asked(t, l, "wave 12", "", api.ErrForm)
	for a, entry := range forms {
		want, err := "", api.ErrForm
		if samplesForm.MatchString(entry) {
			var samples []int
			for part := range strings.SplitSeq(entry, ",") {
				n, _ := strconv.Atoi(part)
				samples = append(samples, n)
			}
			var length int
			if length, err = wave.Length(samples); err == api.OK {
				want = strconv.Itoa(length)
			}
		}
		asked(t, l, "wave "+strconv.Itoa(a+1), want, err)
	}
}

func TestNearWaves(t *testing.T) {
	for _, entry := range []string{"2,2,2", "10,0,-7", "123456"} {
		near(entry, func(text string) {
			if !validEntry(text) {
				return
			}
			_, err := north(t, text).Ask("wave 1")
			if samplesForm.MatchString(text) == (err == api.ErrForm) || err != api.OK && err != api.ErrForm && err != api.ErrWave {
				t.Errorf("wave of %q: %d", text, err)
			}
		})
	}
}

func TestWhyQuestion(t *testing.T) {
	sums := []string{"2a+ab+bc", "0", "3", "1+a", "h", "ab+bc+cd", "2aabb", "a+a", "ba", " ", "b+a", "1a", "100001a", "i", "a b"}
	l := north(t, sums...)
	asked(t, l, "why 1", "a bc", api.OK)
	for _, line := range []string{"why 2", "why 3", "why 4"} {
		asked(t, l, line, "", api.OK)
	}
	asked(t, l, "why 6", "ab bc cd", api.OK)
	asked(t, l, "why 8", "", api.ErrForm)
	for a, entry := range sums {
		s, err := prov.Parse(entry)
		sets, _ := prov.Why(s)
		if err != api.OK {
			sets = nil
		}
		asked(t, l, "why "+strconv.Itoa(a+1), strings.Join(sets, " "), err)
	}
}

// number returns a number as an answer.
func number(n int, err api.Errno) string {
	if err != api.OK {
		return ""
	}
	return strconv.Itoa(n)
}

func TestRingQuestion(t *testing.T) {
	l := made(t, 1)
	asked(t, l, "ring 1 0", "13", api.OK)
	asked(t, l, "ring 0 4", "4", api.OK)
	asked(t, l, "ring 5 0", "", api.ErrArg)
	asked(t, l, "ring 0 12", "", api.ErrArg)
	for order := -2; order < 7; order++ {
		for _, pixel := range []int{-999999, -1, 0, 3, 11, 12, 47, 48, 1000, 3071, 3072, 999999} {
			n, err := sky.Ring(order, pixel)
			asked(t, l, "ring "+strconv.Itoa(order)+" "+strconv.Itoa(pixel), number(n, err), err)
		}
	}
}

func TestLossQuestion(t *testing.T) {
	l := made(t, 1)
	asked(t, l, "loss 10 7 3", "21", api.OK)
	asked(t, l, "loss 30 100 30", "3000", api.OK)
	asked(t, l, "loss 5 7 0", "0", api.OK)
	asked(t, l, "loss 0 7 0", "", api.ErrIce)
	asked(t, l, "loss 31 7 -1", "", api.ErrIce)
	asked(t, l, "loss 5 7 6", "", api.ErrArg)
	numbers := []int{-999999, -1, 0, 1, 2, 29, 30, 31, 100, 101, 999999}
	for _, thick := range numbers {
		for _, dim := range numbers {
			for _, depth := range numbers {
				n, err := ice.Loss([]api.Layer{{Thick: thick, Dim: dim}}, 0, depth)
				line := strings.Join([]string{"loss", strconv.Itoa(thick), strconv.Itoa(dim), strconv.Itoa(depth)}, " ")
				asked(t, l, line, number(n, err), err)
			}
		}
	}
}
