package link

import (
	"math/rand"
	"slices"
	"strconv"
	"strings"
	"testing"

	"firn/api"
)

// plain is a link by the chapter's words: two books, and letters with their entries.
type plain struct {
	window      int
	pole, north []string
	seen        int
	letters     []api.Letter
}

// waits returns the letters that a pass would send.
func (p *plain) waits() []api.Letter {
	var letters []api.Letter
	for a, entry := range p.pole {
		if number := a + 1; number > p.seen && number <= p.seen+p.window {
			letters = append(letters, api.Letter{Number: number, Entry: entry})
		}
	}
	return letters
}

func (p *plain) add(entry string) api.Errno {
	if len(p.pole) == 60 {
		return api.ErrLimit
	}
	p.pole = append(p.pole, entry)
	return api.OK
}

// come returns the letter that comes by a number of down, if there is one.
func (p *plain) come(n int, now []api.Letter) (api.Letter, bool) {
	if n >= 0 && n < len(now) {
		return now[n], true
	}
	if n < 0 && n >= -len(p.letters) {
		return p.letters[len(p.letters)+n], true
	}
	return api.Letter{}, false
}

func (p *plain) pass(down, up []int) ([]int, api.Errno) {
	now := p.waits()
	if len(down) > 50 || len(up) > 50 {
		return nil, api.ErrPass
	}
	var comes []api.Letter
	for _, n := range down {
		x, ok := p.come(n, now)
		if !ok {
			return nil, api.ErrPass
		}
		comes = append(comes, x)
	}
	for _, n := range up {
		if n < 0 || n >= len(comes) {
			return nil, api.ErrPass
		}
	}
	if len(p.letters)+len(now) > 2000 {
		return nil, api.ErrLimit
	}
	p.letters = append(p.letters, now...)
	var receipts []int
	for _, x := range comes {
		if x.Number == len(p.north)+1 {
			p.north = append(p.north, x.Entry)
		}
		receipts = append(receipts, len(p.north))
	}
	for _, n := range up {
		if receipts[n] > p.seen {
			p.seen = receipts[n]
		}
	}
	return receipts, api.OK
}

func (p *plain) clean() (int, api.Errno) {
	n := len(p.waits())
	places := []int{0, 1, 2, 3, 4, 5, 6, 7}[:n]
	if _, err := p.pass(places, places); err != api.OK {
		return 0, err
	}
	return n, api.OK
}

// passes counts the clean passes, as if no letter had been sent so far.
func (p *plain) passes() int {
	q, n := p.copy(), 0
	for q.letters = nil; q.seen < len(q.pole); n++ {
		q.clean()
	}
	return n
}

func (p *plain) copy() *plain {
	q := *p
	q.pole, q.north, q.letters = slices.Clone(p.pole), slices.Clone(p.north), slices.Clone(p.letters)
	return &q
}

// same compares all that can be seen of a link with what must be there.
func same(t *testing.T, l *Link, p *plain) {
	t.Helper()
	n, err := Passes(l)
	if n != p.passes() || err != api.OK {
		t.Fatalf("Passes: %d, %d, want %d of %v", n, err, p.passes(), p)
	}
	if !slices.Equal(l.Pole(), p.pole) || !slices.Equal(l.North(), p.north) || !slices.Equal(l.Waits(), p.waits()) {
		t.Fatalf("books and letters: %v, %v, %v, want %v", l.Pole(), l.North(), l.Waits(), p)
	}
	if l.Seen() != p.seen || l.Sent() != len(p.letters) {
		t.Fatalf("Seen, Sent: %d, %d, want %v", l.Seen(), l.Sent(), p)
	}
	for number := -1; number <= len(p.pole)+1; number++ {
		entry, err := l.Entry(number)
		if number >= 1 && number <= len(p.north) {
			if entry != p.north[number-1] || err != api.OK {
				t.Fatalf("Entry(%d): %q, %d", number, entry, err)
			}
		} else if entry != "" || err != api.ErrNone {
			t.Fatalf("Entry(%d): %q, %d", number, entry, err)
		}
	}
}

// samePass does a pass with both and compares what comes of it.
func samePass(t *testing.T, l *Link, p *plain, down, up []int) {
	t.Helper()
	before := l.Copy()
	receipts, err := l.Pass(down, up)
	want, wantErr := p.pass(down, up)
	if !slices.Equal(receipts, want) || err != wantErr {
		t.Fatalf("Pass(%v, %v): %v, %d, want %v, %d", down, up, receipts, err, want, wantErr)
	}
	if err != api.OK && !Same(l, before) {
		t.Fatalf("Pass(%v, %v) with an error changes the link", down, up)
	}
}

// lists returns all lists of at most so many numbers, from one to another one.
func lists(most, from, to int) [][]int {
	all := [][]int{nil}
	for a := 0; a < len(all); a++ {
		if len(all[a]) < most {
			for n := from; n <= to; n++ {
				all = append(all, append(slices.Clone(all[a]), n))
			}
		}
	}
	return all
}

// both returns a link and the same one by the chapter's words.
func both(t *testing.T, window, entries int) (*Link, *plain) {
	l, p := made(t, window), &plain{window: window}
	for n := range entries {
		entry := "entry" + strconv.Itoa(n)
		l.Add(entry)
		p.add(entry)
	}
	return l, p
}

// TestAllPasses does all short passes, right or not, behind some others.
func TestAllPasses(t *testing.T) {
	histories := [][][2][]int{{}, {{nil, nil}}, {{{0}, nil}}, {{{0}, {0}}}, {{{0, 0}, nil}, {{-1}, {0}}}, {{{-1}, nil}}}
	downs, ups := lists(3, -4, 3), lists(2, -1, 3)
	for window := 1; window <= 3; window++ {
		for entries := range 5 {
			for _, history := range histories {
				l, p := both(t, window, entries)
				for _, x := range history {
					samePass(t, l, p, x[0], x[1])
				}
				for _, down := range downs {
					for _, up := range ups {
						m, q := l.Copy(), p.copy()
						samePass(t, m, q, down, up)
						same(t, m, q)
					}
				}
			}
		}
	}
}

// someList returns up to so many numbers, from one to below another one; most of the
// time they are in order.
func someList(next func(int) int, most, from, below int) []int {
	var list []int
	for range next(most + 1) {
		if from < below {
			list = append(list, from+next(below-from))
		}
	}
	if next(3) == 0 {
		slices.Sort(list)
	}
	return list
}

// somePass returns lists for a pass, now and then with a number that is none.
func somePass(next func(int) int, p *plain) (down, up []int) {
	most := []int{0, 1, 3, 8, 50, 51}[next(6)]
	back := []int{0, 1, len(p.letters) / 2, len(p.letters)}[next(4)]
	down = someList(next, most, -min(back, len(p.letters)), len(p.waits()))
	up = someList(next, most, 0, len(down))
	switch next(12) {
	case 0:
		down = append(down, []int{len(p.waits()), -len(p.letters) - 1}[next(2)])
	case 1:
		up = append(up, []int{len(down), -1}[next(2)])
	}
	return down, up
}

// step does something, the same with both, and compares what comes of it.
func step(t *testing.T, next func(int) int, l *Link, p *plain) {
	switch next(8) {
	case 0, 1:
		entry := strings.Repeat("x", next(3)) + strconv.Itoa(next(1000))
		if err, want := l.Add(entry), p.add(entry); err != want {
			t.Fatalf("Add: %d, want %d", err, want)
		}
	case 2:
		n, err := l.Clean()
		if want, wantErr := p.clean(); n != want || err != wantErr {
			t.Fatalf("Clean: %d, %d, want %d, %d", n, err, want, wantErr)
		}
	case 3:
		if next(4) == 0 {
			p.seen = 0
			if err := l.Fall(); err != api.OK {
				t.Fatalf("Fall: %d", err)
			}
		}
	default:
		down, up := somePass(next, p)
		samePass(t, l, p, down, up)
	}
}

// always tells what holds for all links, and for what comes behind another one.
func always(t *testing.T, l, before *Link) {
	pole, north := l.Pole(), l.North()
	if len(north) > len(pole) || !slices.Equal(pole[:len(north)], north) {
		t.Fatalf("the north says something else: %v, %v", pole, north)
	}
	if l.Seen() > len(north) {
		t.Fatalf("%d are seen of %v", l.Seen(), north)
	}
	if old := before.North(); len(old) > len(north) || !slices.Equal(old, north[:len(old)]) {
		t.Fatalf("the north's book %v becomes %v", old, north)
	}
}

// goesOn looks at what P10.8 says of a link to which many letters can be sent still.
func goesOn(t *testing.T, l *Link) {
	n, err := Passes(l)
	if err != api.OK {
		t.Fatalf("Passes: %d", err)
	}
	left := len(l.Pole()) - l.Seen()
	if window := l.window; l.Seen() == len(l.North()) && n != (left+window-1)/window {
		t.Fatalf("Passes: %d for %d entries and the window %d", n, left, window)
	}
	c := l.Copy()
	for a := range n {
		if c.Seen() == len(c.Pole()) {
			t.Fatalf("%d passes are enough, not %d", a, n)
		}
		fresh := 0
		for _, x := range c.Waits() {
			if x.Number > len(c.North()) {
				fresh++
			}
		}
		there := len(c.North())
		if _, err := c.Clean(); err != api.OK || len(c.North()) != there+fresh {
			t.Fatalf("Clean: %d, brings %d entries, not %d", err, len(c.North())-there, fresh)
		}
	}
	if sent, err := c.Clean(); sent != 0 || err != api.OK || !slices.Equal(c.Pole(), c.North()) || c.Seen() != len(c.Pole()) {
		t.Fatalf("behind %d passes: %d, %d, %q", n, sent, err, told(c))
	}
}

func TestSomePasses(t *testing.T) {
	next := rand.New(rand.NewSource(10)).Intn
	for range 300 {
		l, p := both(t, 1+next(8), next(20))
		for range 60 {
			before := l.Copy()
			step(t, next, l, p)
			same(t, l, p)
			always(t, l, before)
			goesOn(t, l)
		}
	}
}

// TestManyLetters goes on until no more letters can be sent.
func TestManyLetters(t *testing.T) {
	next := rand.New(rand.NewSource(11)).Intn
	for window := 1; window <= 8; window++ {
		l, p := both(t, window, 20)
		for l.Sent() < 1990-window {
			samePass(t, l, p, nil, nil)
		}
		for range 200 {
			step(t, next, l, p)
			same(t, l, p)
		}
	}
}

func TestReceiptsNeverFall(t *testing.T) {
	next := rand.New(rand.NewSource(12)).Intn
	for range 200 {
		l, p := both(t, 1+next(8), 30)
		last := 0
		for range 40 {
			down, up := somePass(next, p)
			receipts, _ := l.Pass(down, up)
			p.pass(down, up)
			for _, receipt := range receipts {
				if receipt < last {
					t.Fatalf("receipts: %v behind %d", receipts, last)
				}
				last = receipt
			}
			if next(10) == 0 {
				l.Fall()
				p.seen = 0
			}
		}
	}
}

func TestExamplePasses(t *testing.T) {
	l := made(t, 2, "a", "b", "c")
	if receipts := pass(t, l, []int{1, 0}, []int{1, 0}); text(receipts) != "0 1" || l.Seen() != 1 {
		t.Errorf("receipts: %v, %d are seen", receipts, l.Seen())
	}
	if receipts := pass(t, l, []int{0, 1, -1}, nil); text(receipts) != "2 3 3" {
		t.Errorf("receipts: %v", receipts)
	}
	if len(l.North()) != 3 || l.Seen() != 1 {
		t.Errorf("%d entries in the north, %d are seen", len(l.North()), l.Seen())
	}
	clean(t, l, 2)
	if l.Seen() != 3 {
		t.Errorf("%d are seen", l.Seen())
	}
}

// TestOrderOfLetters says which letter has which place.
func TestOrderOfLetters(t *testing.T) {
	l := made(t, 3, "a", "b", "c", "d")
	pass(t, l, nil, nil)
	pass(t, l, []int{0}, []int{0})
	// The letters 1, 2, 3, 1, 2, 3 were sent before; in this pass 2, 3, 4 are.
	for _, x := range []struct {
		down []int
		want string
	}{
		{[]int{0, 1, 2}, "2 3 4"}, {[]int{2, 1, 0}, "1 1 2"}, {[]int{-1, -2, -3}, "1 2 2"}, {[]int{-5, -4, -6, 2}, "2 3 3 4"},
		{[]int{-2, -1, 2, -1}, "2 3 4 4"}, {[]int{0, 0, 0}, "2 2 2"}, {[]int{-6}, "1"},
	} {
		if receipts := pass(t, l.Copy(), x.down, nil); text(receipts) != x.want {
			t.Errorf("Pass(%v): %v, want %s", x.down, receipts, x.want)
		}
	}
}

func TestPassLists(t *testing.T) {
	l := made(t, 2, "a", "b", "c")
	clean(t, l, 2)
	zeros := func(n int) []int { return make([]int, n) }
	for _, x := range []struct {
		down, up []int
		want     api.Errno
	}{
		{zeros(50), nil, api.OK}, {zeros(51), nil, api.ErrPass}, {zeros(1), zeros(50), api.OK}, {zeros(1), zeros(51), api.ErrPass},
		{zeros(50), []int{49}, api.OK}, {zeros(50), []int{50}, api.ErrPass}, {nil, []int{0}, api.ErrPass}, {zeros(2), []int{2}, api.ErrPass},
		{zeros(2), []int{1, 0, 1}, api.OK}, {zeros(2), []int{-1}, api.ErrPass}, {[]int{1}, nil, api.ErrPass}, {[]int{-2}, nil, api.OK},
		{[]int{-3}, nil, api.ErrPass}, {[]int{0, 0, -3}, nil, api.ErrPass}, {zeros(1 << 20), zeros(1 << 20), api.ErrPass},
	} {
		c := l.Copy()
		if _, err := c.Pass(x.down, x.up); err != x.want || Same(c, l) != (err != api.OK) {
			t.Errorf("Pass of %d, %d numbers: %d, want %d", len(x.down), len(x.up), err, x.want)
		}
	}
	for _, n := range extremes {
		for _, x := range [][2][]int{{{n}, nil}, {{0, n}, nil}, {{0}, {n}}} {
			c := l.Copy()
			if receipts, err := c.Pass(x[0], x[1]); receipts != nil || err != api.ErrPass || !Same(c, l) {
				t.Errorf("Pass(%v, %v): %v, %d", x[0], x[1], receipts, err)
			}
		}
	}
}

// spent returns a link that has sent so many letters, of which the first alone came.
func spent(t *testing.T, window, letters int) *Link {
	l := made(t, window)
	for range 10 {
		l.Add("x")
	}
	pass(t, l, []int{0}, nil)
	for l.Sent() < letters {
		pass(t, l, nil, nil)
	}
	if l.Sent() != letters {
		t.Fatalf("%d letters are sent", l.Sent())
	}
	return l
}

func TestLetterLimit(t *testing.T) {
	l := spent(t, 8, 1992)
	if _, err := l.Copy().Clean(); err != api.OK {
		t.Errorf("Clean up to 2000 letters: %d", err)
	}
	pass(t, l, nil, nil)
	before := l.Copy()
	if receipts, err := l.Pass([]int{0}, []int{0}); receipts != nil || err != api.ErrLimit || !Same(l, before) {
		t.Errorf("Pass beyond 2000 letters: %v, %d", receipts, err)
	}
	if n, err := l.Clean(); n != 0 || err != api.ErrLimit || !Same(l, before) {
		t.Errorf("Clean beyond 2000 letters: %d, %d", n, err)
	}
	// What is wrong with a pass is told first.
	for _, x := range [][2][]int{{{8}, nil}, {{-2001}, nil}, {{0}, {1}}, {make([]int, 51), nil}} {
		if _, err := l.Pass(x[0], x[1]); err != api.ErrPass {
			t.Errorf("Pass(%v, %v): %d", x[0], x[1], err)
		}
	}
	// The very first letter is still there.
	if receipts, err := l.Copy().Pass([]int{-2000}, nil); receipts != nil || err != api.ErrLimit {
		t.Errorf("Pass of the first letter: %v, %d", receipts, err)
	}
	if n, err := Passes(l); n != 2 || err != api.OK || len(l.Waits()) != 8 {
		t.Errorf("Passes: %d, %d", n, err)
	}
}

// TestLetterLimitBetween reaches the limit by a pass of which a part would be too much.
func TestLetterLimitBetween(t *testing.T) {
	l := spent(t, 7, 1995)
	before := l.Copy()
	if n, err := l.Clean(); n != 0 || err != api.ErrLimit || !Same(l, before) {
		t.Errorf("Clean: %d, %d", n, err)
	}
}

// TestNothingMoreToSend tells that where no letter is sent there is no limit for it.
func TestNothingMoreToSend(t *testing.T) {
	l := made(t, 8, "a", "b", "c", "d", "e", "f", "g", "h")
	for range 249 {
		pass(t, l, nil, nil)
	}
	clean(t, l, 8)
	clean(t, l, 0)
	if receipts := pass(t, l, []int{-2000, -1}, []int{0}); text(receipts) != "8 8" || l.Sent() != 2000 {
		t.Errorf("receipts: %v, %d letters", receipts, l.Sent())
	}
	l.Fall()
	if _, err := l.Clean(); err != api.ErrLimit {
		t.Errorf("Clean behind a fall: %d", err)
	}
}

func TestLostPass(t *testing.T) {
	for _, l := range different(t) {
		n, _ := Passes(l)
		pole, north, seen, sent := l.Pole(), l.North(), l.Seen(), l.Sent()
		letters := l.Waits()
		if receipts := pass(t, l, nil, nil); len(receipts) != 0 {
			t.Errorf("receipts: %v", receipts)
		}
		if m, _ := Passes(l); m != n || l.Seen() != seen || l.Sent() != sent+len(letters) {
			t.Errorf("a lost pass changes %d, %d, %d to %q", seen, sent, n, told(l))
		}
		if !slices.Equal(l.Pole(), pole) || !slices.Equal(l.North(), north) || !slices.Equal(l.Waits(), letters) {
			t.Errorf("a lost pass changes %v, %v, %v to %q", pole, north, letters, told(l))
		}
	}
}

// TestPassesBehindFall looks at links of which the north has more than the pole has seen.
func TestPassesBehindFall(t *testing.T) {
	for window := 1; window <= 8; window++ {
		for entries := range 61 {
			for come := range 9 {
				l, p := both(t, window, entries)
				for range come {
					clean(t, l, min(window, len(l.Pole())-l.Seen()))
					p.clean()
				}
				goesOn(t, l)
				l.Fall()
				p.seen = 0
				same(t, l, p)
				goesOn(t, l)
			}
		}
	}
}
