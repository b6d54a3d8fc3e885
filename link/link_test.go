package link

import (
	"math"
	"slices"
	"strconv"
	"strings"
	"testing"

	"firn/api"
)

// The numbers that no call may stumble over.
var extremes = []int{math.MinInt, math.MinInt + 1, -1 << 32, 1 << 32, math.MaxInt - 1, math.MaxInt}

// text returns what is compared of whatever a call returns.
func text(list []int) string {
	var texts []string
	for _, n := range list {
		texts = append(texts, strconv.Itoa(n))
	}
	return strings.Join(texts, " ")
}

// made returns a link with a window and entries.
func made(t *testing.T, window int, entries ...string) *Link {
	t.Helper()
	l, err := New(window)
	if l == nil || err != api.OK {
		t.Fatalf("New(%d): %d", window, err)
	}
	for _, entry := range entries {
		if err := l.Add(entry); err != api.OK {
			t.Fatalf("Add(%q): %d", entry, err)
		}
	}
	return l
}

// pass does a pass that must be done.
func pass(t *testing.T, l *Link, down, up []int) []int {
	t.Helper()
	receipts, err := l.Pass(down, up)
	if err != api.OK {
		t.Fatalf("Pass(%v, %v): %d", down, up, err)
	}
	return receipts
}

// clean does a clean pass that must be done, and send so many letters.
func clean(t *testing.T, l *Link, letters int) {
	t.Helper()
	if n, err := l.Clean(); n != letters || err != api.OK {
		t.Fatalf("Clean: %d, %d, want %d", n, err, letters)
	}
}

// told returns all that can be seen of a link, with how the books are.
func told(l *Link) string {
	n, err := Passes(l)
	var letters []string
	for _, x := range l.Waits() {
		letters = append(letters, strconv.Itoa(x.Number)+x.Entry)
	}
	counts := text([]int{l.Seen(), l.Sent(), n, int(err)})
	return strings.Join(l.Pole(), "|") + "/" + strings.Join(l.North(), "|") + "/" + strings.Join(letters, "|") + "/" + counts
}

func TestNew(t *testing.T) {
	for window := -20; window <= 30; window++ {
		l, err := New(window)
		if window < 1 || window > 8 {
			if l != nil || err != api.ErrArg {
				t.Errorf("New(%d): %v, %d", window, l, err)
			}
			continue
		}
		if err != api.OK || told(l) != "///0 0 0 0" {
			t.Errorf("New(%d): %q, %d", window, told(l), err)
		}
	}
	for _, window := range extremes {
		if l, err := New(window); l != nil || err != api.ErrArg {
			t.Errorf("New(%d): %v, %d", window, l, err)
		}
	}
}

// TestTwoLinks tells that two links do not share a book.
func TestTwoLinks(t *testing.T) {
	l, m := made(t, 2, "a"), made(t, 2)
	clean(t, l, 1)
	if told(m) != "///0 0 0 0" {
		t.Errorf("another link: %q", told(m))
	}
}

func TestNoLink(t *testing.T) {
	for name, l := range map[string]*Link{"nil": nil, "zero": {}} {
		for _, err := range []api.Errno{l.Add("a"), l.Add(""), l.Fall()} {
			if err != api.ErrLink {
				t.Errorf("%s: %d", name, err)
			}
		}
		for _, list := range [][]int{nil, {0}, make([]int, 51)} {
			if receipts, err := l.Pass(list, list); receipts != nil || err != api.ErrLink {
				t.Errorf("%s: Pass: %v, %d", name, receipts, err)
			}
		}
		if n, err := l.Clean(); n != 0 || err != api.ErrLink {
			t.Errorf("%s: Clean: %d, %d", name, n, err)
		}
		if n, err := Passes(l); n != 0 || err != api.ErrLink {
			t.Errorf("%s: Passes: %d, %d", name, n, err)
		}
		for _, number := range []int{0, 1, -1} {
			if entry, err := l.Entry(number); entry != "" || err != api.ErrLink {
				t.Errorf("%s: Entry: %q, %d", name, entry, err)
			}
		}
		for _, line := range []string{"ring 1 0", "entry 1", "no question", ""} {
			if answer, err := l.Ask(line); answer != "" || err != api.ErrLink {
				t.Errorf("%s: Ask(%q): %q, %d", name, line, answer, err)
			}
		}
		if len(l.Waits())+len(l.Pole())+len(l.North())+l.Seen()+l.Sent() != 0 || l.Copy() != nil {
			t.Errorf("%s: there is something", name)
		}
	}
}

func TestSameOfNoLink(t *testing.T) {
	for _, l := range []*Link{nil, {}} {
		for _, m := range []*Link{nil, {}} {
			if !Same(l, m) {
				t.Errorf("Same(%v, %v) is false", l, m)
			}
		}
		for window := 1; window <= 8; window++ {
			if m := made(t, window); Same(l, m) || Same(m, l) {
				t.Errorf("Same(%v, a link) is true", l)
			}
		}
	}
}

// different returns links no two of which are the same.
func different(t *testing.T) []*Link {
	var all []*Link
	for window := 1; window <= 8; window++ {
		all = append(all, made(t, window))
	}
	all = append(all, made(t, 2, "a"), made(t, 2, "b"), made(t, 2, "a", "b"), made(t, 2, "b", "a"), made(t, 2, "a", "b", "c"))
	// The letters 1 and 2 were sent, and came, and were seen, as far as it is said.
	for _, come := range [][2][]int{{}, {{0}, nil}, {{0, 1}, nil}, {{0}, {0}}, {{0, 1}, {0}}, {{0, 1}, {1}}} {
		l := made(t, 2, "a", "b", "c")
		pass(t, l, come[0], come[1])
		all = append(all, l)
	}
	// The same books, and as much is seen, but other letters were sent.
	early, late := made(t, 1, "a", "b"), made(t, 1, "a", "b")
	pass(t, early, nil, nil)
	clean(t, early, 1)
	pass(t, early, nil, nil)
	clean(t, late, 1)
	pass(t, late, nil, nil)
	pass(t, late, nil, nil)
	if told(early) != told(late) {
		t.Fatalf("%q, %q", told(early), told(late))
	}
	return append(all, early, late)
}

func TestSame(t *testing.T) {
	all, again := different(t), different(t)
	for a, l := range all {
		for b, m := range again {
			if Same(l, m) != (a == b) || Same(l, all[b]) != (a == b) || Same(l, m.Copy()) != (a == b) {
				t.Errorf("Same of %d, %q, and %d, %q", a, told(l), b, told(m))
			}
		}
	}
}

// changes are what can be done to a link.
func changes() map[string]func(l *Link) {
	return map[string]func(l *Link){
		"add":   func(l *Link) { l.Add("new") },
		"pass":  func(l *Link) { l.Pass([]int{0}, []int{0}) },
		"lost":  func(l *Link) { l.Pass(nil, nil) },
		"late":  func(l *Link) { l.Pass([]int{-2, -1}, nil) },
		"clean": func(l *Link) { l.Clean() },
		"fall":  func(l *Link) { l.Fall() },
	}
}

func TestCopy(t *testing.T) {
	for _, l := range different(t) {
		before, kept := told(l), l.Copy()
		for name, change := range changes() {
			c := l.Copy()
			if c == l || !Same(c, l) || told(c) != before {
				t.Fatalf("Copy of %q: %q", before, told(c))
			}
			change(c)
			if !Same(l, kept) || told(l) != before {
				t.Fatalf("%s of a copy changes %q to %q", name, before, told(l))
			}
		}
		for name, change := range changes() {
			c := l.Copy()
			if change(l); !Same(c, kept) || told(c) != before {
				t.Fatalf("%s changes the copy of %q to %q", name, before, told(c))
			}
			l = c
		}
	}
}

// TestCopyGrows looks at two copies that grow side by side.
func TestCopyGrows(t *testing.T) {
	l := made(t, 1, "a", "b", "c")
	for range 5 {
		pass(t, l, nil, nil)
	}
	m, n := l.Copy(), l.Copy()
	m.Add("m")
	n.Add("n")
	clean(t, m, 1)
	pass(t, m, nil, nil)
	pass(t, n, nil, nil)
	if m.Pole()[3] != "m" || n.Pole()[3] != "n" || len(l.Pole()) != 3 {
		t.Errorf("books: %v, %v, %v", l.Pole(), m.Pole(), n.Pole())
	}
	// The letter that was sent last has the number 2 for m, but 1 for n.
	if receipts := pass(t, m, []int{-1}, nil); text(receipts) != "2" {
		t.Errorf("receipts: %v", receipts)
	}
	if receipts := pass(t, n, []int{-1}, nil); text(receipts) != "1" {
		t.Errorf("receipts: %v", receipts)
	}
}

func TestEntryBytes(t *testing.T) {
	for b := range 256 {
		for _, sides := range [][2]string{{"", ""}, {"a", ""}, {"", "a"}, {"a", "b"}, {strings.Repeat("x", 59), ""}} {
			entry, l, want := sides[0]+string([]byte{byte(b)})+sides[1], made(t, 1), api.ErrEntry
			if 0x20 <= b && b <= 0x7e {
				want = api.OK
			}
			if err := l.Add(entry); err != want {
				t.Errorf("Add(%q): %d, want %d", entry, err, want)
			}
			if (len(l.Pole()) == 1) != (want == api.OK) {
				t.Errorf("Add(%q): the book is %q", entry, l.Pole())
			}
		}
	}
}

func TestEntryLengths(t *testing.T) {
	for length := range 200 {
		want := api.OK
		if length < 1 || length > 60 {
			want = api.ErrEntry
		}
		if err := made(t, 1).Add(strings.Repeat("~", length)); err != want {
			t.Errorf("Add of %d bytes: %d, want %d", length, err, want)
		}
	}
	// 30 runes of two bytes, and 20 of three.
	for _, entry := range []string{strings.Repeat("é", 30), strings.Repeat("語", 20), "\ufffd", "\xff", strings.Repeat("a", 1<<20)} {
		if err := made(t, 1).Add(entry); err != api.ErrEntry {
			t.Errorf("Add(%.20q): %d", entry, err)
		}
	}
}

func TestFullBook(t *testing.T) {
	l := made(t, 8)
	for n := range 60 {
		if err := l.Add("same"); err != api.OK || len(l.Pole()) != n+1 {
			t.Fatalf("Add: %d, %d entries", err, len(l.Pole()))
		}
	}
	before := l.Copy()
	if err := l.Add("a"); err != api.ErrLimit || !Same(l, before) {
		t.Errorf("Add to a full book: %d", err)
	}
	if err := l.Add("\n"); err != api.ErrEntry {
		t.Errorf("Add of no entry to a full book: %d", err)
	}
}

func TestBooks(t *testing.T) {
	l := made(t, 2, "a", "b", "c")
	pass(t, l, []int{0, 1}, nil)
	if told(l) != "a|b|c/a|b/1a|2b/0 2 2 0" {
		t.Errorf("told: %q", told(l))
	}
	for number, want := range map[int]string{1: "a", 2: "b"} {
		if entry, err := l.Entry(number); entry != want || err != api.OK {
			t.Errorf("Entry(%d): %q, %d", number, entry, err)
		}
	}
	for _, number := range append([]int{-2, -1, 0, 3, 4}, extremes...) {
		if entry, err := l.Entry(number); entry != "" || err != api.ErrNone {
			t.Errorf("Entry(%d): %q, %d", number, entry, err)
		}
	}
}

// TestNewMemory writes over all that a link returns and takes.
func TestNewMemory(t *testing.T) {
	l := made(t, 2, "a", "b", "c")
	down, up := []int{0, 1}, []int{0}
	receipts := pass(t, l, down, up)
	if text(down) != "0 1" || text(up) != "0" {
		t.Errorf("the arguments: %v, %v", down, up)
	}
	before, kept := told(l), l.Copy()
	for _, list := range [][]int{receipts, down, up} {
		for a := range list {
			list[a] = 77
		}
	}
	for _, book := range [][]string{l.Pole(), l.North()} {
		for a := range book {
			book[a] = "x"
		}
		_ = append(book, "y")
	}
	l.Waits()[0] = api.Letter{}
	_ = append(l.North(), "y")
	if told(l) != before || !Same(l, kept) {
		t.Errorf("told: %q, want %q", told(l), before)
	}
}

func TestFall(t *testing.T) {
	l := made(t, 2, "a", "b", "c")
	clean(t, l, 2)
	pass(t, l, []int{0}, nil)
	if told(l) != "a|b|c/a|b|c/3c/2 3 1 0" {
		t.Fatalf("told: %q", told(l))
	}
	if err := l.Fall(); err != api.OK || told(l) != "a|b|c/a|b|c/1a|2b/0 3 1 0" {
		t.Errorf("Fall: %d, %q", err, told(l))
	}
	// All letters that were sent can still come.
	if receipts := pass(t, l, []int{-3, -2, -1}, nil); !slices.Equal(receipts, []int{3, 3, 3}) {
		t.Errorf("receipts: %v", receipts)
	}
}
