package link

import (
	"math/rand"
	"regexp"
	"slices"
	"strconv"
	"strings"
	"testing"

	"firn/api"
)

const places = `(-|` + num + `(?:,` + num + `)*)`

var (
	passForm = regexp.MustCompile(`^pass ` + places + ` ` + places + `$`)
	addForm  = regexp.MustCompile(`(?s)^add (.*)$`)
)

// read returns the numbers of a text that is right.
func read(text string) []int {
	var list []int
	if text == "-" {
		return nil
	}
	for part := range strings.SplitSeq(text, ",") {
		n, _ := strconv.Atoi(part)
		list = append(list, n)
	}
	return list
}

// answered returns the answer for a number, or an error.
func answered(n int, err api.Errno) string {
	if err != api.OK {
		return "error " + strconv.Itoa(int(err))
	}
	return strconv.Itoa(n)
}

// said does a line with a link, by the chapter's words, and returns the answer.
func said(l *Link, line string) string {
	switch line {
	case "clean":
		return answered(l.Clean())
	case "fall":
		l.Fall()
		return "ok"
	case "seen":
		return strconv.Itoa(l.Seen())
	case "sent":
		return strconv.Itoa(l.Sent())
	case "pole":
		return strconv.Itoa(len(l.Pole()))
	case "north":
		return strconv.Itoa(len(l.North()))
	}
	if m := addForm.FindStringSubmatch(line); m != nil {
		err := l.Add(m[1])
		return answered(len(l.Pole()), err)
	}
	if m := passForm.FindStringSubmatch(line); m != nil {
		receipts, err := l.Pass(read(m[1]), read(m[2]))
		if err != api.OK {
			return answered(0, err)
		}
		if len(receipts) == 0 {
			return "-"
		}
		return strings.ReplaceAll(text(receipts), " ", ",")
	}
	if isQuestion(line) {
		answer, err := l.Ask(line)
		if err != api.OK {
			return answered(0, err)
		}
		return answer
	}
	return "error 100"
}

// played plays lines and compares the answers.
func played(t *testing.T, window int, lines, want []string) {
	t.Helper()
	kept := slices.Clone(lines)
	answers, err := Play(window, lines)
	if err != api.OK || !slices.Equal(answers, want) {
		t.Errorf("Play(%d, %q): %q, %d, want %q", window, lines, answers, err, want)
	}
	if !slices.Equal(lines, kept) {
		t.Errorf("Play changes the lines to %q", lines)
	}
}

// spoken plays lines and compares the answers with what is said one by one.
func spoken(t *testing.T, window int, lines ...string) {
	t.Helper()
	var want []string
	for l := made(t, window); len(want) < len(lines); {
		want = append(want, said(l, lines[len(want)]))
	}
	played(t, window, lines, want)
}

func TestExampleScripts(t *testing.T) {
	played(t, 2, []string{"add a", "add b", "add c", "pass 1,0 1,0", "seen", "pass 0,1,-1 -", "north", "seen", "clean", "seen"},
		[]string{"1", "2", "3", "0,1", "1", "2,3,3", "3", "1", "2", "3"})
	played(t, 1, []string{"add 0=10 10=30", "clean", "clock 1 5"}, []string{"1", "1", "20/1"})
	played(t, 1, nil, nil)
}

func TestScriptLines(t *testing.T) {
	played(t, 2, []string{"seen", "sent", "pole", "north", "clean", "fall", "pass - -"}, []string{"0", "0", "0", "0", "0", "ok", "-"})
	played(t, 2, []string{"add  a ", "clean", "entry 1", "fall", "seen", "sent", "pole", "north"}, []string{"1", "1", " a ", "ok", "0", "1", "1", "1"})
	played(t, 2, []string{"add a", "add b", "add c", "pass - -", "pass 0 -", "seen", "pass -1 0", "seen", "sent", "north"},
		[]string{"1", "2", "3", "-", "1", "0", "2", "2", "6", "2"})
	played(t, 1, []string{"add entry 1", "add", "add ", "add\ta", "add \xff", "addb", "pole", "add add x", "pole"},
		[]string{"1", "error 100", "error 102", "error 100", "error 102", "error 100", "1", "2", "2"})
	played(t, 1, []string{"pass 0 -", "pass - 0", "add a", "pass 1 -", "pass 0 1", "pass -1 -", "sent", "pass 0,0 1", "seen"},
		[]string{"error 103", "error 103", "1", "error 103", "error 103", "error 103", "0", "1,1", "1"})
	played(t, 1, []string{"", " ", "clean ", " clean", "Clean", "fall 1", "seen -", "pass", "pass -", "pass -  -", "pass - - -", "pass -- -", "pass -,0 -", "pass 0, -", "pass , -", "pass 00 -", "pass -0 -", "pass +0 -", "pass  -", "pass 1000000 -", "windows", "passes"},
		slices.Repeat([]string{"error 100"}, 22))
	played(t, 1, []string{"entry 1", "entry", "ring 1 0", "ring 5 0", "loss 10 7 3", "loss 0 0 0"}, []string{"error 5", "error 100", "13", "error 2", "21", "error 40"})
	played(t, 1, []string{"add x", "add 2000", "clean", "clean", "clock 1 0", "wave 1", "wave 2", "why 1"}, []string{"1", "2", "1", "1", "error 3", "error 3", "error 30", "error 3"})
}

// TestLongPasses looks at lists as long as a pass has them, and longer.
func TestLongPasses(t *testing.T) {
	zeros := func(n int) string { return strings.Repeat(",0", n)[1:] }
	ones := strings.Repeat(",1", 50)[1:]
	played(t, 1, []string{"add a", "pass " + zeros(50) + " " + zeros(50), "pass -1 " + zeros(51), "pass " + zeros(51) + " -", "pass " + strings.Repeat("-1,", 1<<16) + "x -", "sent"},
		[]string{"1", ones, "error 103", "error 103", "error 100", "1"})
}

func TestFullBookInScript(t *testing.T) {
	var script, want []string
	for n := range 60 {
		script = append(script, "add "+strconv.Itoa(n))
		want = append(want, strconv.Itoa(n+1))
	}
	played(t, 8, append(script, "add x", "add ", "pole"), append(want, "error 4", "error 102", "60"))
}

func TestScriptLimits(t *testing.T) {
	script := slices.Repeat([]string{"add a"}, 100)
	if answers, err := Play(1, script); len(answers) != 100 || err != api.OK {
		t.Errorf("Play of 100 lines: %d answers, %d", len(answers), err)
	}
	for _, n := range []int{101, 1 << 20} {
		if answers, err := Play(8, make([]string, n)); answers != nil || err != api.ErrLimit {
			t.Errorf("Play of %d lines: %v, %d", n, answers, err)
		}
	}
	for _, window := range append([]int{-1, 0, 9, 10}, extremes...) {
		for _, lines := range [][]string{nil, {"add a"}, make([]string, 101)} {
			if answers, err := Play(window, lines); answers != nil || err != api.ErrArg {
				t.Errorf("Play(%d): %v, %d", window, answers, err)
			}
		}
	}
}

// TestTwoScripts tells that a script has a link of its own.
func TestTwoScripts(t *testing.T) {
	for range 2 {
		played(t, 3, []string{"pole", "add a", "clean", "sent"}, []string{"0", "1", "1", "1"})
	}
}

func TestWhichLinesPlay(t *testing.T) {
	script := []string{"add a", "add 1,2", "clean"}
	lines(func(line string) {
		if script = append(script, line); len(script) == 100 {
			spoken(t, 1, script...)
			script = script[:3]
		}
	})
	spoken(t, 1, script...)
}

func TestNearLines(t *testing.T) {
	for _, line := range []string{"add b", "pass 0,-1 0", "pass - -", "clean", "fall", "seen", "sent", "pole", "north"} {
		near(line, func(text string) {
			spoken(t, 2, "add a", "add b", "clean", text, "seen", "sent", "pole", "north")
		})
	}
}

// someLine returns a line, most of the time one that can be done.
func someLine(next func(int) int) string {
	some := func(lines ...string) string { return lines[next(len(lines))] }
	n := strconv.Itoa(next(6))
	switch next(8) {
	case 0, 1:
		return "add " + some("a+b", "0=0 10="+n+"1", n+",2,"+n, "x", "", "2a+ab", "0", "5=5 6=600 7=700")
	case 2:
		return some("clean", "seen", "sent", "pole", "north", "fall")
	case 3:
		return some("clock ", "entry ", "wave ", "why ") + n
	case 4:
		return some("clock "+n+" ", "ring "+n+" ", "loss 2"+n+" 3 ") + strconv.Itoa(next(30))
	}
	lists := func(from, below int) string {
		list := someList(next, 6, from, below)
		if len(list) == 0 {
			return "-"
		}
		return strings.ReplaceAll(text(list), " ", ",")
	}
	return "pass " + lists(-3, 2) + " " + lists(0, 3)
}

func TestSomeScripts(t *testing.T) {
	next := rand.New(rand.NewSource(13)).Intn
	for range 2000 {
		var script []string
		for range next(101) {
			script = append(script, someLine(next))
		}
		spoken(t, 1+next(8), script...)
	}
}
