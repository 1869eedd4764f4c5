package window

import (
	"math"
	"slices"
	"strings"
	"testing"

	"gantlet/api"
	"gantlet/source"
)

// give, end and fail are steps of at most n bytes.
func give(n int) api.Step { return api.Step{N: n, Kind: api.RMore} }
func end(n int) api.Step  { return api.Step{N: n, Kind: api.REnd} }
func fail(n int) api.Step { return api.Step{N: n, Kind: api.RFail} }

// times is a step, so many times.
func times(step api.Step, n int) []api.Step {
	return slices.Repeat([]api.Step{step}, n)
}

// told is what a call of Peek or Next must answer, and what the numbers must be behind it.
type told struct {
	b               byte
	err             api.Errno
	at, held, calls int
}

// pair is a window and its source.
type pair struct {
	w *Window
	s *source.Source
}

// open makes a window on a source with such data and steps.
func open(size, zeros int, data string, steps ...api.Step) pair {
	s := source.New(data, steps...)
	return pair{New(size, zeros, s), s}
}

// hold compares an answer, and the numbers behind it, with what was to be told.
func (p pair) hold(t *testing.T, name string, b byte, err api.Errno, want told) {
	t.Helper()
	got := told{b, err, p.w.At(), p.w.Held(), p.s.Calls()}
	if got != want {
		t.Errorf("%s: byte, error, At, Held and reads are %v, want %v", name, got, want)
	}
}

// next and peek call the window once, and hold what it tells against want.
func (p pair) next(t *testing.T, name string, want told) {
	t.Helper()
	b, err := p.w.Next()
	p.hold(t, name+": Next", b, err, want)
}

func (p pair) peek(t *testing.T, name string, want told) {
	t.Helper()
	b, err := p.w.Peek()
	p.hold(t, name+": Peek", b, err, want)
}

// all takes what a window gives, and answers the bytes and the error.
func (p pair) all() (string, api.Errno) {
	var came strings.Builder
	for {
		b, err := p.w.Next()
		if err != api.OK {
			return came.String(), err
		}
		came.WriteByte(b)
	}
}

// ends holds all that a window gives, and the reads that it took, against what was to be told.
func (p pair) ends(t *testing.T, name, bytes string, err api.Errno, calls int) {
	t.Helper()
	came, got := p.all()
	if came != bytes || got != err || p.s.Calls() != calls || p.w.At() != len(bytes) || p.w.Held() != 0 {
		t.Errorf("%s: %d bytes, error %d, %d reads, At %d, Held %d, want %d bytes, error %d, %d reads",
			name, len(came), got, p.s.Calls(), p.w.At(), p.w.Held(), len(bytes), err, calls)
	}
}

func TestP4_1_ExampleOfTheChapter(t *testing.T) {
	steps := []api.Step{give(0), give(0), give(1)}
	p := open(9, 2, "ab", steps...)
	p.next(t, "bears 2", told{'a', api.OK, 1, 0, 3})
	p.next(t, "bears 2", told{'b', api.OK, 2, 0, 4})
	p.next(t, "bears 2", told{0, api.ErrEnd, 2, 0, 5})
	p = open(9, 1, "ab", steps...)
	p.next(t, "bears 1", told{0, api.ErrStall, 0, 0, 2})
}

func TestP4_1_NewWasNotRead(t *testing.T) {
	for _, data := range []string{"", "abc"} {
		p := open(2, 1, data, fail(1))
		for range 3 {
			if p.w.At() != 0 || p.w.Held() != 0 || p.s.Calls() != 0 || p.s.Given() != 0 {
				t.Errorf("%q: At %d, Held %d, %d reads, %d bytes", data, p.w.At(), p.w.Held(), p.s.Calls(), p.s.Given())
			}
		}
	}
}

func TestP4_1_ReadsWhenNoneIsHeldAlone(t *testing.T) {
	p := open(3, 0, "abcdefg")
	p.next(t, "the first read", told{'a', api.OK, 1, 2, 1})
	p.next(t, "held", told{'b', api.OK, 2, 1, 1})
	p.next(t, "the last one held", told{'c', api.OK, 3, 0, 1})
	p.next(t, "the second read", told{'d', api.OK, 4, 2, 2})
	p.next(t, "held again", told{'e', api.OK, 5, 1, 2})
	p.next(t, "the last one again", told{'f', api.OK, 6, 0, 2})
	p.next(t, "less than it has room for", told{'g', api.OK, 7, 0, 3})
	p.next(t, "over", told{0, api.ErrEnd, 7, 0, 4})
	// A step that gives less than the window asks for ends the read: bytes came.
	p = open(3, 5, "abcdefg", give(2), give(0), give(1), give(9))
	p.next(t, "less came", told{'a', api.OK, 1, 1, 1})
	p.next(t, "less came", told{'b', api.OK, 2, 0, 1})
	p.next(t, "none, then one", told{'c', api.OK, 3, 0, 3})
	p.next(t, "no more than room", told{'d', api.OK, 4, 2, 4})
}

func TestP4_1_Sizes(t *testing.T) {
	data := strings.Repeat("0123456789abcdef", 8193)
	for _, c := range []struct{ size, room int }{
		{math.MinInt, 1}, {-65536, 1}, {-1, 1}, {0, 1}, {1, 1}, {2, 2}, {3, 3}, {1000, 1000},
		{1<<16 - 1, 1<<16 - 1}, {1 << 16, 1 << 16}, {1<<16 + 1, 1 << 16}, {1 << 17, 1 << 16},
		{1 << 32, 1 << 16}, {1<<32 + 5, 1 << 16}, {math.MaxInt, 1 << 16},
	} {
		p := open(c.size, 0, data)
		p.peek(t, "a size", told{'0', api.OK, 0, c.room, 1})
		if p.s.Given() != c.room {
			t.Errorf("size %d: %d bytes were read", c.size, p.s.Given())
		}
		reads := (len(data) + c.room - 1) / c.room
		p.ends(t, "all of it", data, api.ErrEnd, reads+1)
	}
}

func TestP4_1_Zeros(t *testing.T) {
	for _, c := range []struct{ zeros, borne int }{
		{math.MinInt, 0}, {-1000, 0}, {-1, 0}, {0, 0}, {1, 1}, {2, 2}, {7, 7},
		{999, 999}, {1000, 1000}, {1001, 1000}, {1 << 16, 1000}, {1 << 32, 1000}, {math.MaxInt, 1000},
	} {
		just := times(give(0), c.borne)
		p := open(4, c.zeros, "abc", just...)
		p.next(t, "just as many", told{'a', api.OK, 1, 2, c.borne + 1})
		p = open(4, c.zeros, "abc", append(just, give(0))...)
		p.next(t, "one more", told{0, api.ErrStall, 0, 0, c.borne + 1})
		p.next(t, "one more, again", told{0, api.ErrStall, 0, 0, c.borne + 1})
		p = open(4, c.zeros, "abc", append(just, give(-3))...)
		p.peek(t, "one more, below 0", told{0, api.ErrStall, 0, 0, c.borne + 1})
	}
}

func TestP4_1_ZerosAreCountedAnewBehindAByte(t *testing.T) {
	steps := []api.Step{give(0), give(0), give(1), give(0), give(0), give(1), give(0), give(0), give(0)}
	p := open(4, 2, "abc", steps...)
	p.next(t, "two", told{'a', api.OK, 1, 0, 3})
	p.next(t, "two more", told{'b', api.OK, 2, 0, 6})
	p.next(t, "three", told{0, api.ErrStall, 2, 0, 9})
	open(1, 1, "abc", give(0), give(1), give(0), give(1), give(0), give(1), give(0)).ends(t, "one each", "abc", api.ErrEnd, 8)
	open(1, 0, "abc", give(1), give(1), give(0)).ends(t, "none borne", "ab", api.ErrStall, 3)
	// Between the bytes that one read brought there are no reads, so nothing to count.
	open(3, 1, "abcde", give(0), give(3), give(0), give(2), give(0)).ends(t, "some a read", "abcde", api.ErrEnd, 6)
}

func TestP4_1_NoBytesAtTheEndAreNoStall(t *testing.T) {
	// A read without bytes that tells the end, or fails, isn't one of those that a window bears.
	open(4, 0, "").ends(t, "nothing", "", api.ErrEnd, 1)
	open(4, 0, "", end(0)).ends(t, "nothing, by a step", "", api.ErrEnd, 1)
	open(4, 0, "abc", fail(0)).ends(t, "failed", "", api.ErrRead, 1)
	open(4, 1, "", give(1)).ends(t, "the end behind one", "", api.ErrEnd, 2)
	open(4, 0, "", give(1)).ends(t, "none borne", "", api.ErrStall, 1)
	open(4, 2, "", times(give(1), 2)...).ends(t, "the end behind two", "", api.ErrEnd, 3)
	open(4, 2, "", give(1), give(1), fail(1)).ends(t, "failed behind two", "", api.ErrRead, 3)
	// REnd while bytes are left is no end: the source answers RMore.
	open(4, 0, "abc", end(0)).ends(t, "an end too early", "", api.ErrStall, 1)
	open(4, 1, "abc", end(0), end(0)).ends(t, "two ends too early", "", api.ErrStall, 2)
	open(4, 1, "abc", end(0), end(1), end(0), end(9)).ends(t, "ends too early", "abc", api.ErrEnd, 4)
}

func TestP4_1_EveryByte(t *testing.T) {
	every := make([]byte, 256)
	for i := range every {
		every[i] = byte(i)
	}
	for _, size := range []int{1, 7, 256, 300} {
		p := open(size, 0, string(every))
		for i, b := range every {
			p.peek(t, "each byte", told{b, api.OK, i, min(size-i%size, 256-i), i/size + 1})
			p.next(t, "each byte", told{b, api.OK, i + 1, min(size-i%size, 256-i) - 1, i/size + 1})
		}
	}
}

func TestP4_1_WrongInputs(t *testing.T) {
	p := open(math.MinInt, math.MinInt, "")
	p.peek(t, "empty", told{0, api.ErrEnd, 0, 0, 1})
	p.next(t, "empty", told{0, api.ErrEnd, 0, 0, 1})
	p = open(8, 8, "abc", fail(0))
	p.peek(t, "fails at once", told{0, api.ErrRead, 0, 0, 1})
	p.next(t, "fails at once", told{0, api.ErrRead, 0, 0, 1})
	p = open(8, 8, "", fail(5))
	p.next(t, "fails, empty", told{0, api.ErrRead, 0, 0, 1})
	p = open(8, 8, "abc", api.Step{N: math.MinInt, Kind: math.MinInt}, api.Step{N: math.MaxInt, Kind: math.MaxInt})
	p.next(t, "no such kinds", told{'a', api.OK, 1, 2, 2})
}

func TestP4_1_SourceThatIsOver(t *testing.T) {
	for _, c := range []struct {
		step api.Step
		err  api.Errno
	}{{end(9), api.ErrEnd}, {fail(2), api.ErrRead}} {
		s := source.New("abc", c.step)
		s.Read(9)
		w := New(3, 0, s)
		for range 2 {
			if b, err := w.Next(); b != 0 || err != c.err || s.Calls() != 2 || w.At() != 0 {
				t.Errorf("%d, error %d, %d reads, At %d", b, err, s.Calls(), w.At())
			}
		}
	}
}

func TestP4_2_BytesAheadOfTheError(t *testing.T) {
	p := open(9, 0, "abc", end(9))
	p.next(t, "with the end", told{'a', api.OK, 1, 2, 1})
	p.next(t, "with the end", told{'b', api.OK, 2, 1, 1})
	p.next(t, "with the end", told{'c', api.OK, 3, 0, 1})
	p.next(t, "with the end", told{0, api.ErrEnd, 3, 0, 1})
	p = open(9, 0, "abc", fail(2))
	p.next(t, "with the failure", told{'a', api.OK, 1, 1, 1})
	p.peek(t, "with the failure", told{'b', api.OK, 1, 1, 1})
	p.next(t, "with the failure", told{'b', api.OK, 2, 0, 1})
	p.peek(t, "with the failure", told{0, api.ErrRead, 2, 0, 1})
	p.next(t, "with the failure", told{0, api.ErrRead, 2, 0, 1})
	open(1, 0, "a", fail(1)).ends(t, "the last byte with the failure", "a", api.ErrRead, 1)
	open(2, 0, "abcd", give(2), fail(2)).ends(t, "all bytes, and a failure", "abcd", api.ErrRead, 2)
	open(2, 1, "abcd", give(2), give(0), end(2)).ends(t, "all bytes, and the end", "abcd", api.ErrEnd, 3)
	// The failing step would allow more than the window has room for: the rest never comes.
	open(2, 0, "abcd", fail(4)).ends(t, "more than room", "ab", api.ErrRead, 1)
	// The end is told with the last byte alone, which this read has no room for.
	open(2, 0, "abc", end(3)).ends(t, "the end too early", "abc", api.ErrEnd, 3)
}

func TestP4_2_TheErrorStays(t *testing.T) {
	for _, c := range []struct {
		name  string
		zeros int
		steps []api.Step
		want  told
	}{
		{"end", 3, []api.Step{end(9)}, told{0, api.ErrEnd, 3, 0, 1}},
		{"failure", 3, []api.Step{fail(2), give(9)}, told{0, api.ErrRead, 2, 0, 1}},
		{"failure of no bytes", 3, []api.Step{give(2), fail(0), give(9)}, told{0, api.ErrRead, 2, 0, 2}},
		// Behind the stall the source would give the bytes that are left, or fail: it isn't read.
		{"stall", 1, []api.Step{give(2), give(0), give(0), give(9)}, told{0, api.ErrStall, 2, 0, 3}},
		{"stall ahead of a failure", 0, []api.Step{give(1), give(0), fail(9)}, told{0, api.ErrStall, 1, 0, 2}},
		{"stall ahead of the end", 0, []api.Step{give(3), give(0), end(9)}, told{0, api.ErrStall, 3, 0, 2}},
	} {
		p := open(9, c.zeros, "abc", c.steps...)
		p.all()
		for range 1100 {
			p.next(t, c.name, c.want)
			p.peek(t, c.name, c.want)
		}
	}
}

func TestP4_2_TheReaderIsLetGo(t *testing.T) {
	// What is never read again isn't kept, though bytes that came with the end are still held.
	for _, step := range []api.Step{end(9), fail(2), give(0)} {
		p := open(9, 0, "abc", step)
		p.w.Peek()
		if p.w.from != nil {
			t.Errorf("step %v: the window keeps its reader", step)
		}
	}
}

func TestP4_2_PeekChangesNothing(t *testing.T) {
	p := open(2, 1, "abc", give(0), give(9), give(0), give(9), give(0), fail(0))
	for range 50 {
		p.peek(t, "ahead of all", told{'a', api.OK, 0, 2, 2})
	}
	p.next(t, "peeked", told{'a', api.OK, 1, 1, 2})
	p.next(t, "not peeked", told{'b', api.OK, 2, 0, 2})
	for range 50 {
		p.peek(t, "the next read", told{'c', api.OK, 2, 1, 4})
	}
	p.next(t, "peeked again", told{'c', api.OK, 3, 0, 4})
	for range 50 {
		p.peek(t, "the failure", told{0, api.ErrRead, 3, 0, 6})
	}
	p.next(t, "the failure", told{0, api.ErrRead, 3, 0, 6})
	// Peeks don't add up to a stall, nor to more than is borne.
	p = open(2, 2, "a", give(0), give(0), give(0), give(1))
	for range 5 {
		p.peek(t, "a stall", told{0, api.ErrStall, 0, 0, 3})
	}
	p.next(t, "a stall", told{0, api.ErrStall, 0, 0, 3})
}

// moment is what Peek must tell at a place: the byte or the error, how many bytes are held, and how many reads were needed.
type moment struct {
	b           byte
	err         api.Errno
	held, calls int
}

// moments answers what the chapter says of a window, from all that another source of the same kind gives when read so
// many bytes a time: first a moment for each byte, last that of the error.
func moments(size, zeros int, s *source.Source) []moment {
	var list []moment
	for run := 0; ; {
		part, kind := s.Read(size)
		for i := range len(part) {
			list = append(list, moment{part[i], api.OK, len(part) - i, s.Calls()})
		}
		run++
		if part != "" {
			run = 0
		}
		switch {
		case kind == api.RFail:
			return append(list, moment{0, api.ErrRead, 0, s.Calls()})
		case kind == api.REnd:
			return append(list, moment{0, api.ErrEnd, 0, s.Calls()})
		case run > zeros:
			return append(list, moment{0, api.ErrStall, 0, s.Calls()})
		}
	}
}

// scripts is each list of so many steps of few bytes.
func scripts(long int) [][]api.Step {
	lists := [][]api.Step{nil}
	for range long {
		var longer [][]api.Step
		for _, list := range lists {
			for _, n := range []int{0, 1, 2, 9} {
				for _, step := range []api.Step{give(n), end(n), fail(n)} {
					longer = append(longer, append(slices.Clone(list), step))
				}
			}
		}
		lists = longer
	}
	return lists
}

func TestP4_1_P4_2_EveryShortScript(t *testing.T) {
	for long := range 4 {
		for _, steps := range scripts(long) {
			for _, data := range []string{"", "a", "abc"} {
				for size := 1; size <= 3; size++ {
					for zeros := range 3 {
						follow(t, size, zeros, data, steps)
					}
				}
			}
		}
	}
}

// follow holds a window against the moments, once for each way of peeking: never, once, and thrice ahead of each Next.
func follow(t *testing.T, size, zeros int, data string, steps []api.Step) {
	t.Helper()
	list := moments(size, zeros, source.New(data, steps...))
	for _, peeks := range []int{0, 1, 3} {
		p := open(size, zeros, data, steps...)
		for i := range len(list) + 2 {
			m := list[min(i, len(list)-1)]
			at := min(i, len(list)-1)
			for range peeks {
				p.peek(t, "a short script", told{m.b, m.err, at, m.held, m.calls})
			}
			behind := told{m.b, m.err, at + 1, m.held - 1, m.calls}
			if m.err != api.OK {
				behind = told{m.b, m.err, at, 0, m.calls}
			}
			p.next(t, "a short script", behind)
		}
		if t.Failed() {
			t.Fatalf("size %d, zeros %d, data %q, steps %v, %d peeks", size, zeros, data, steps, peeks)
		}
	}
}

// chunks makes steps of every kind of size from a number, with no more empty ones in a row than zeros.
func chunks(seed uint64, zeros, n int) []api.Step {
	var steps []api.Step
	for run := 0; len(steps) < n; {
		seed = seed*6364136223846793005 + 1442695040888963407
		size := int(seed>>40) % 6
		if size == 0 && run == zeros {
			size = 3
		}
		run++
		if size > 0 {
			run = 0
		}
		steps = append(steps, give(size))
	}
	return steps
}

func TestP4_3_HoweverTheBytesCome(t *testing.T) {
	// More bytes than all the steps give, so that none of the steps stands behind the last byte.
	data := strings.Repeat("\x00one list\xff", 160)
	for seed := range uint64(300) {
		size, zeros := 1+int(seed)%9, int(seed)/9%4
		steps := chunks(seed, zeros, int(seed))
		p := open(size, zeros, data, steps...)
		came, err := p.all()
		if came != data || err != api.ErrEnd || p.w.At() != len(data) || p.s.Given() != len(data) {
			t.Errorf("seed %d, size %d, zeros %d: %d bytes, error %d, At %d", seed, size, zeros, len(came), err, p.w.At())
		}
	}
}

func TestP4_3_TheFrontOfWhatCame(t *testing.T) {
	// A reader that fails, or stalls, has given a front of the data: just that is told ahead of the error.
	data := "0123456789"
	for n := range len(data) + 1 {
		ones := times(give(1), n)
		open(4, 0, data, append(ones, fail(0))...).ends(t, "failed", data[:n], api.ErrRead, n+1)
		open(4, 0, data, append(ones, give(0))...).ends(t, "stalled", data[:n], api.ErrStall, n+1)
		open(16, 0, data, fail(n)).ends(t, "failed at once", data[:n], api.ErrRead, 1)
	}
}

func TestP4_3_HowOftenItIsRead(t *testing.T) {
	// The most reads there can be: as many without bytes as are borne, ahead of each byte and of the end.
	for zeros := range 4 {
		for n := range 6 {
			var steps []api.Step
			for range n {
				steps = append(append(steps, times(give(0), zeros)...), give(1))
			}
			steps = append(steps, times(give(0), zeros)...)
			p := open(8, zeros, "abcdef"[:n], steps...)
			p.ends(t, "most reads", "abcdef"[:n], api.ErrEnd, (1+zeros)*(n+1))
			if p.s.Calls() > (1+zeros)*(n+1)+1 {
				t.Errorf("zeros %d: %d reads for %d bytes", zeros, p.s.Calls(), n)
			}
		}
	}
	// Asked ten times as often, it isn't read more often.
	for seed := range uint64(100) {
		zeros := int(seed) % 4
		p := open(1+int(seed)%5, zeros, "abcdefghij", chunks(seed, zeros+1, 60)...)
		for range 100 {
			p.w.Peek()
			p.w.Next()
			if most := (1+zeros)*(p.s.Given()+1) + 1; p.s.Calls() > most {
				t.Fatalf("seed %d: %d reads, at most %d", seed, p.s.Calls(), most)
			}
		}
	}
}

func TestP4_3_TwoWindowsAreTwo(t *testing.T) {
	one, two := open(2, 0, "abc"), open(3, 0, "xyz")
	one.next(t, "one", told{'a', api.OK, 1, 1, 1})
	two.next(t, "two", told{'x', api.OK, 1, 2, 1})
	one.next(t, "one", told{'b', api.OK, 2, 0, 1})
	one.next(t, "one", told{'c', api.OK, 3, 0, 2})
	two.next(t, "two", told{'y', api.OK, 2, 1, 1})
	one.next(t, "one", told{0, api.ErrEnd, 3, 0, 3})
	two.next(t, "two", told{'z', api.OK, 3, 0, 1})
}
