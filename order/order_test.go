package order

import (
	"math"
	"slices"
	"strings"
	"testing"

	"gantlet/api"
)

// edges are the bytes at which numbers with a sign would go other ways.
const edges = "\x00\x01\x7f\x80\xff"

// holdSide compares what Compare tells with what it must, both ways round. It ends the test, because some tests hold
// thousands of elements; Helper is called only then, because it takes far longer than what is compared.
func holdSide(t *testing.T, a, b string, want int) {
	if got := Compare(a, b); got != want {
		t.Helper()
		t.Fatalf("Compare(%x, %x) = %d, want %d", brief(a), brief(b), got, want)
	}
	if got := Compare(b, a); got != -want {
		t.Helper()
		t.Fatalf("Compare(%x, %x) = %d, want %d", brief(b), brief(a), got, -want)
	}
}

// brief is an element's beginning.
func brief(a string) string { return a[:min(len(a), 40)] }

// holdSort compares what Sort answers with what it must, and sees that what was handed in stays as it is.
func holdSort(t *testing.T, l, want []string) {
	before := slices.Clone(l)
	got := Sort(l)
	if !slices.Equal(got, want) {
		t.Helper()
		t.Fatalf("Sort(%q) = %q, want %q", before, got, want)
	}
	if !slices.Equal(l, before) {
		t.Helper()
		t.Fatalf("Sort changed %q: %q", before, l)
	}
}

// holdPush compares what Push tells with what it must, and ends the test likewise.
func holdPush(t *testing.T, s *Sorter, b byte, want api.Errno) {
	if err := s.Push(b); err != want {
		t.Helper()
		t.Fatalf("Push(%02x) = %d, want %d", b, err, want)
	}
}

// holdEnd compares what End tells with what it must, and ends the test likewise.
func holdEnd(t *testing.T, s *Sorter, want api.Errno) {
	if err := s.End(); err != want {
		t.Helper()
		t.Fatalf("End() = %d, want %d", err, want)
	}
}

// come pushes an element's bytes, each of which must be taken; it isn't over then.
func come(t *testing.T, s *Sorter, element string) {
	for i := range len(element) {
		if err := s.Push(element[i]); err != api.OK {
			t.Helper()
			t.Fatalf("Push(%02x) = %d behind %d bytes, want 0", element[i], err, i)
		}
	}
}

// holdElement pushes an element's bytes, and compares what its end tells with what it must.
func holdElement(t *testing.T, s *Sorter, element string, want api.Errno) {
	come(t, s, element)
	if err := s.End(); err != want {
		t.Helper()
		t.Fatalf("End() = %d behind %x, want %d", err, brief(element), want)
	}
}

// holdElements pushes elements, each of which must stand in order, but the last one if there is to be an error.
func holdElements(t *testing.T, want api.Errno, elements ...string) {
	t.Helper()
	s := New(api.MaxCap)
	for i, x := range elements {
		if i < len(elements)-1 {
			holdElement(t, s, x, api.OK)
		} else {
			holdElement(t, s, x, want)
		}
	}
	if want != api.OK {
		holdForEver(t, s, want)
	}
}

// holdForEver sees that an error is told, whatever comes.
func holdForEver(t *testing.T, s *Sorter, want api.Errno) {
	t.Helper()
	for range 3 {
		holdPush(t, s, 0xff, want)
		holdEnd(t, s, want)
		holdPush(t, s, 0, want)
		holdPush(t, s, 0xff, want)
		holdEnd(t, s, want)
		holdEnd(t, s, want)
	}
}

// orderOf is what a second element's end tells by what Compare must tell of the two.
func orderOf(side int) api.Errno {
	if side > 0 {
		return api.ErrOrder
	}
	return api.OK
}

// pair is two elements, and what Compare must tell of them.
type pair struct {
	a, b string
	side int
}

// pairs are those at the edges.
func pairs() []pair {
	long := strings.Repeat("ab", 100)
	return []pair{
		// The examples.
		{"\x01", "\x01\x00", 0}, {"\x01\x01", "\x01", 1},
		// No bytes.
		{"", "", 0}, {"", "\x00", 0}, {"", zeros(2), 0}, {"", zeros(300), 0}, {"", "\x01", -1}, {"", "\xff", -1},
		{"", "\x00\x01", -1}, {"", zeros(300) + "\x01", -1}, {"", zeros(300) + "\x80", -1},
		// Bytes 0 behind alone.
		{"\x00", "\x00\x00", 0}, {"a", "a\x00", 0}, {"a\x00", "a\x00\x00", 0}, {"a", "a" + zeros(300), 0},
		{long + "\x00", long, 0}, {long + zeros(400), long + zeros(17), 0}, {"\xff\x00", "\xff", 0}, {"\x80\x00\x00", "\x80", 0},
		// Behind those, another one.
		{"a", "a\x00\x01", -1}, {"a\x00", "a\x00\x01", -1}, {"a\x00\x00", "a\x00\x01", -1}, {"a\x00\x00\x00", "a\x00\x01", -1},
		{"a\x00\x01", "a\x01", -1}, {"a" + zeros(300), "a" + zeros(299) + "\xff", -1}, {"a" + zeros(300), "a" + zeros(300) + "\x01", -1},
		{"a" + zeros(300), "a\x01", -1}, {"\x00\x00\x02", "\x00\x01", -1}, {"\x00\x02", "\x01", -1},
		// The first, a middle and the last byte.
		{"abc", "bbc", -1}, {"abc", "acc", -1}, {"abc", "abd", -1}, {"bab", "abb", 1}, {"abb", "aba", 1},
		{"a" + long, "b" + long, -1}, {long + "c" + long, long + "b" + long, 1}, {long + "x", long + "y", -1},
		// The first one of several tells, however long they are, and whatever is behind.
		{"az", "ba", -1}, {"b", "ab", 1}, {"b", "a\xff\xff\xff", 1}, {"a\xff", "b", -1}, {"aza", "baz", -1}, {"\x01", "\x00\xff", 1},
		{"b", strings.Repeat("a", 300), 1}, {strings.Repeat("a", 300), "aab", -1},
		// Numbers with a sign would go the other way.
		{"\x7f", "\x80", -1}, {"\x7f", "\xff", -1}, {"\x80", "\xff", -1}, {"\x00", "\x80", -1}, {"\x00", "\xff", -1},
		{"\x01", "\xff", -1},
		{"\xff\x00", "\x7f\xff", 1}, {"a\x7f", "a\x80", -1}, {"a\xff", "a\x7f", 1}, {"a\x80a", "a\xffa", -1}, {"\xfe", "\xff", -1},
		{"", "\x80", -1}, {"a", "a\x80", -1}, {"a", "a\xff", -1},
		// One is the beginning of the other.
		{"a", "ab", -1}, {"ab", "abc", -1}, {"ab", "ab\x01", -1}, {"ab", "ab\x00", 0}, {long, long + "\x01", -1}, {long, long + "a", -1},
		{"\xff", "\xff\xff", -1}, {"\x80", "\x80\x7f", -1},
		// Runes aren't what is held against each other.
		{"\u00e9", "z", 1}, {"\U00010000", "\uffff", 1}, {"\xc3", "\u00e9", -1},
	}
}

func TestP16_1_CompareAtTheEdges(t *testing.T) {
	for _, p := range pairs() {
		if got := sideOf(p.a, p.b); got != p.side {
			t.Fatalf("the model tells %d of %x, %x, want %d", got, p.a, p.b, p.side)
		}
		holdSide(t, p.a, p.b, p.side)
	}
}

func TestP16_1_CompareEachTwoBytes(t *testing.T) {
	for x := range 256 {
		for y := range 256 {
			want := 0
			if x < y {
				want = -1
			} else if x > y {
				want = 1
			}
			a, b := string([]byte{byte(x)}), string([]byte{byte(y)})
			holdSide(t, a, b, want)
			holdSide(t, "ab"+a+"c", "ab"+b+"c", want)
			// Behind them what would tell otherwise.
			if x < y {
				holdSide(t, a+"\xff\xff", b, -1)
				holdSide(t, a+"\xff", b+"\x00", -1)
			}
		}
	}
}

func TestP16_1_CompareAllShortOnes(t *testing.T) {
	list := all(3, edges)
	for _, a := range list {
		for _, b := range list {
			holdSide(t, a, b, sideOf(a, b))
		}
	}
}

func TestP16_1_CompareAtEachPlace(t *testing.T) {
	const size = 300
	for _, fill := range []string{"\x00", "\x7f", "\x80", "a"} {
		base := strings.Repeat(fill, size)
		for at := range size {
			greater := base[:at] + "\xff" + base[at+1:]
			holdSide(t, base, greater, -1)
			holdSide(t, base[:at], greater, -1)
			holdSide(t, base, greater[:at+1], -1)
			holdSide(t, greater, greater, 0)
			side := -1
			if fill == "\x00" {
				side = 0
			}
			holdSide(t, base[:at], base, side)
			holdSide(t, base, base+zeros(at), 0)
		}
	}
}

func TestP16_1_CompareLongOnes(t *testing.T) {
	for _, size := range []int{1<<16 - 1, 1 << 16, 1<<16 + 1, 1 << 20} {
		long := strings.Repeat("\x80", size)
		holdSide(t, long, long, 0)
		holdSide(t, long, long+"\x00", 0)
		holdSide(t, long, long+zeros(size), 0)
		holdSide(t, long, long+zeros(size)+"\x01", -1)
		holdSide(t, long, long+"\x01", -1)
		holdSide(t, long+"\x7f", long+"\x80", -1)
		holdSide(t, long, "\x80", 1)
		holdSide(t, long, "\x81", -1)
		holdSide(t, zeros(size), "", 0)
		holdSide(t, zeros(size)+"\x01", "", 1)
		holdSide(t, zeros(size)+"\x01", "\x01", -1)
	}
}

func TestP16_1_CompareThrownOnes(t *testing.T) {
	d := dice(161)
	for range 100000 {
		a := d.element(12, edges)
		b := d.element(12, edges)
		// One goes on as the other does, as far as it likes.
		c := a[:d.below(len(a)+1)] + d.element(3, edges)
		holdSide(t, a, b, sideOf(a, b))
		holdSide(t, a, c, sideOf(a, c))
	}
}

func TestP16_1_SortOfFew(t *testing.T) {
	for _, none := range [][]string{nil, {}, make([]string, 0, 5)} {
		if got := Sort(none); len(got) != 0 {
			t.Errorf("Sort(%q) = %q", none, got)
		}
	}
	for _, one := range []string{"", "\x00", "a", "\xff\x00", zeros(300)} {
		holdSort(t, []string{one}, []string{one})
		for n := 2; n < 40; n++ {
			like := slices.Repeat([]string{one}, n)
			holdSort(t, like, like)
		}
	}
	for _, p := range pairs() {
		first, last := p.a, p.b
		if p.side > 0 {
			first, last = p.b, p.a
		}
		holdSort(t, []string{first, last}, []string{first, last})
		if p.side == 0 {
			// In the order in which they stood.
			holdSort(t, []string{last, first}, []string{last, first})
		} else {
			holdSort(t, []string{last, first}, []string{first, last})
		}
	}
}

func TestP16_1_SortOfNeithers(t *testing.T) {
	// More than few, because those could be sorted in another way.
	for n := 2; n < 70; n++ {
		up, down := make([]string, n), make([]string, n)
		for i := range n {
			up[i], down[i] = "a"+zeros(i), "a"+zeros(n-i)
		}
		holdSort(t, up, up)
		holdSort(t, down, down)
		// Ahead of all of them, and behind.
		holdSort(t, slices.Concat(up, []string{"a\x01", ""}), slices.Concat([]string{""}, up, []string{"a\x01"}))
		holdSort(t, slices.Concat([]string{"a\x01", ""}, down), slices.Concat([]string{""}, down, []string{"a\x01"}))
		// Among others that are neither's either.
		among := slices.Concat([]string{"b"}, up, []string{"b\x00"}, down, []string{"b"})
		holdSort(t, among, slices.Concat(up, down, []string{"b", "b\x00", "b"}))
	}
}

func TestP16_1_SortOfOrders(t *testing.T) {
	in := []string{"", "\x00\x01", "\x01", "\x01\x00\x01", "\x01\x01", "a", "ab", "b", "\x7f\xff", "\x80", "\xff", "\xff\xff"}
	for n := range len(in) + 1 {
		opposite := slices.Clone(in[:n])
		slices.Reverse(opposite)
		holdSort(t, in[:n], in[:n])
		holdSort(t, opposite, in[:n])
	}
	long := all(3, edges)
	want := inOrder(long)
	holdSort(t, long, want)
	holdSort(t, want, want)
	slices.Reverse(long)
	holdSort(t, long, inOrder(long))
}

// lists hands on all lists of so many elements, each one of those.
func lists(n int, elements []string, hand func(l []string)) {
	l := make([]string, n)
	var fill func(at int)
	fill = func(at int) {
		if at == n {
			hand(l)
			return
		}
		for _, x := range elements {
			l[at] = x
			fill(at + 1)
		}
	}
	fill(0)
}

func TestP16_1_SortOfAllShortLists(t *testing.T) {
	for n := range 6 {
		lists(n, []string{"", "\x00", "\x01", "\x01\x00", "\x01\x01", "\x80"}, func(l []string) {
			holdSort(t, l, inOrder(l))
		})
	}
}

func TestP16_1_SortOfThrownLists(t *testing.T) {
	d := dice(162)
	for range 400 {
		l := make([]string, d.below(300))
		for i := range l {
			l[i] = d.element(5, edges[:1+d.below(5)])
		}
		holdSort(t, l, inOrder(l))
	}
	// Long lists of few elements, most of which are neither's.
	for range 5 {
		l := make([]string, 5000)
		for i := range l {
			l[i] = d.element(1, "\x00\x01") + zeros(d.below(40))
		}
		holdSort(t, l, inOrder(l))
	}
}

func TestP16_1_WhatIsHandedInStaysAndWhatIsAnsweredIsNew(t *testing.T) {
	given := []string{"c", "b", "a", "spare", "room"}
	l := given[:3]
	got := Sort(l)
	again := Sort(l)
	if want := []string{"c", "b", "a", "spare", "room"}; !slices.Equal(given, want) {
		t.Fatalf("it is %q, want %q", given, want)
	}
	// Nor does either change with the other.
	_ = append(got, "more", "and more")
	got[0], got[1], got[2] = "x", "y", "z"
	if want := []string{"c", "b", "a", "spare", "room"}; !slices.Equal(given, want) {
		t.Fatalf("it is %q, want %q", given, want)
	}
	if want := []string{"a", "b", "c"}; !slices.Equal(again, want) {
		t.Fatalf("the other answer is %q, want %q", again, want)
	}
	given[0], given[1], given[2] = "3", "2", "1"
	if want := []string{"a", "b", "c"}; !slices.Equal(again, want) {
		t.Fatalf("the other answer is %q, want %q", again, want)
	}
	// Also when nothing is to be moved.
	in := []string{"a", "b"}
	same := Sort(in)
	same[0] = "x"
	if in[0] != "a" {
		t.Fatal("what is answered shares memory with what was handed in")
	}
}

// mosts are those that New may be handed, each with how many bytes an element can have.
func mosts() [][2]int {
	return [][2]int{
		{math.MinInt, 0}, {-1 << 32, 0}, {-1<<32 + 5, 0}, {-1 << 16, 0}, {-65535, 0}, {-2, 0}, {-1, 0},
		{0, 0}, {1, 1}, {2, 2}, {3, 3}, {127, 127}, {128, 128}, {255, 255}, {256, 256}, {257, 257},
		{65534, 65534}, {65535, 65535}, {65536, 65536}, {65537, 65536}, {65538, 65536}, {1 << 17, 65536}, {1<<17 + 3, 65536},
		{1 << 31, 65536}, {1 << 32, 65536}, {1<<32 + 3, 65536}, {math.MaxInt, 65536},
	}
}

func TestP16_2_ExamplesOfTheChapter(t *testing.T) {
	holdElements(t, api.OK, "\x01", "\x01\x00")
	holdElements(t, api.OK, "\x01\x00", "\x01")
	holdElements(t, api.OK, "\x01", "\x01\x01")
	holdElements(t, api.ErrOrder, "\x01\x01", "\x01")
}

func TestP16_2_TwoElementsAtTheEdges(t *testing.T) {
	for _, p := range pairs() {
		holdElements(t, orderOf(p.side), p.a, p.b)
		holdElements(t, orderOf(-p.side), p.b, p.a)
	}
}

func TestP16_2_AllShortOnes(t *testing.T) {
	list := all(3, edges)
	for _, a := range list {
		for _, b := range list {
			s := New(3)
			holdElement(t, s, a, api.OK)
			holdElement(t, s, b, orderOf(sideOf(a, b)))
		}
	}
	list = all(2, "\x00\x01\x80")
	for n := 3; n < 5; n++ {
		lists(n, list, func(l []string) { holdList(t, 2, l) })
	}
}

// holdList pushes elements, and holds what is told against the model.
func holdList(t *testing.T, most int, l []string) {
	s, m := New(most), newModel(most)
	for _, x := range l {
		for i := range len(x) {
			if got, want := s.Push(x[i]), m.push(x[i]); got != want {
				t.Helper()
				t.Fatalf("Push = %d at %d of %x in %q, most %d, want %d", got, i, x, l, most, want)
			}
		}
		if got, want := s.End(), m.end(); got != want {
			t.Helper()
			t.Fatalf("End = %d behind %x in %q, most %d, want %d", got, x, l, most, want)
		}
	}
}

func TestP16_2_EachPlaceAtWhichTheyDiffer(t *testing.T) {
	const size = 100
	for _, fill := range []string{"\x00", "\x7f", "\x80", "a"} {
		base := strings.Repeat(fill, size)
		for at := range size {
			greater := base[:at] + "\xff" + base[at+1:]
			holdElements(t, api.OK, base, greater, greater[:at+1]+"\xff", greater[:at+1]+"\xff"+zeros(at), greater[:at+1]+"\xff\x01")
			holdElements(t, api.ErrOrder, greater, base)
			holdElements(t, api.ErrOrder, greater, base[:at])
			holdElements(t, api.OK, base, base+zeros(at), base)
		}
	}
}

func TestP16_2_ElementsOfNoBytes(t *testing.T) {
	for _, m := range mosts() {
		s := New(m[0])
		for range 100 {
			holdEnd(t, s, api.OK)
		}
	}
	holdElements(t, api.OK, "", zeros(1), "", zeros(5), zeros(2), "", "")
	holdElements(t, api.OK, "", "", "\x01")
	holdElements(t, api.ErrOrder, "\x01", "")
	holdElements(t, api.ErrOrder, "", zeros(9)+"\x01", "")
	holdElements(t, api.ErrOrder, "\xff", zeros(3))
}

func TestP16_2_TheOneAheadIsTheLastOne(t *testing.T) {
	// Not the greatest one that came, nor the first; and none of its bytes is lost, nor any of another one left.
	holdElements(t, api.ErrOrder, "a", "c", "b")
	holdElements(t, api.ErrOrder, "a", "b", "c", "d", "e", "d")
	holdElements(t, api.ErrOrder, "abc", "b", "ab")
	holdElements(t, api.OK, "a\xff\xff", "b", "b\x01")
	holdElements(t, api.OK, "a\xff\xff", "b", "b")
	holdElements(t, api.OK, "a\xff\xff", "b", "b\x00\x00\x00")
	holdElements(t, api.OK, "a\xff\xff", "b\x00", "b\x00\x01", "b\x01")
	holdElements(t, api.ErrOrder, "a\xff\xff", "b\x00\x01", "b\x00\x00\xff")
	holdElements(t, api.ErrOrder, "a", "a\x00\x00\x01", "a")
	holdElements(t, api.ErrOrder, "a", "a\x00\x00\x01", "a\x00\x00")
	holdElements(t, api.OK, "ab", "ab\x00\x00", "ab", "ab\x00\x01", "ab\x00\x01\x00", "ab\x00\x01")
	holdElements(t, api.ErrOrder, "ab\x00\x00", "ab", "aa\xff\xff\xff")
	holdElements(t, api.ErrOrder, "ab", "abcd", "abc")
	holdElements(t, api.ErrOrder, "b", "b", "a")
	// The first byte that differs tells: whatever comes behind it doesn't.
	holdElements(t, api.ErrOrder, "ba", "ab")
	holdElements(t, api.ErrOrder, "bb", "ac")
	holdElements(t, api.ErrOrder, "bb", "ba\xff\xff\xff")
	holdElements(t, api.OK, "ab", "b\x00")
}

func TestP16_2_AnOrderIsToldAtTheEndAlone(t *testing.T) {
	s := New(10)
	holdElement(t, s, "b", api.OK)
	come(t, s, "aaaaaaaaaa")
	holdEnd(t, s, api.ErrOrder)
	holdForEver(t, s, api.ErrOrder)
	s = New(10)
	holdElement(t, s, "ab", api.OK)
	// It could yet be like the one ahead.
	come(t, s, "a")
	come(t, s, "b")
	holdEnd(t, s, api.OK)
	come(t, s, "a")
	holdEnd(t, s, api.ErrOrder)
	holdForEver(t, s, api.ErrOrder)
}

func TestP16_2_AsManyBytesAndOneMore(t *testing.T) {
	for _, m := range mosts() {
		for _, fill := range []string{"\x00", "a", "\xff"} {
			full := strings.Repeat(fill, m[1])
			for _, more := range []byte{0, 'a', 0xff} {
				// In the first, and in later ones.
				for later := range 3 {
					s := New(m[0])
					for range later {
						holdElement(t, s, full, api.OK)
					}
					come(t, s, full)
					holdPush(t, s, more, api.ErrCap)
					holdForEver(t, s, api.ErrCap)
				}
			}
		}
	}
}

func TestP16_2_TooLongWhicheverComesFirst(t *testing.T) {
	for _, ahead := range []string{"", "\x00", "a", "aaa", "b", "bbb", "aab", "c"} {
		for _, long := range []string{"aaa", "bbb", "b\x00\x00", "\x00\x00\x00", "aab", "aba"} {
			for _, more := range []byte{0, 'a', 0xff} {
				s := New(3)
				holdElement(t, s, ahead, api.OK)
				come(t, s, long)
				holdPush(t, s, more, api.ErrCap)
				holdForEver(t, s, api.ErrCap)
			}
		}
	}
}

func TestP16_2_GreatestElements(t *testing.T) {
	long := strings.Repeat("ab", 1<<15)
	holdElements(t, api.OK, long, long, long[:len(long)-1]+"c")
	holdElements(t, api.ErrOrder, long, long[:len(long)-1]+"a")
	holdElements(t, api.ErrOrder, long, long[:len(long)-1])
	holdElements(t, api.ErrOrder, long, "a")
	holdElements(t, api.OK, long, "b", "b"+zeros(1<<16-1), "b"+zeros(1<<16-2)+"\x01")
	holdElements(t, api.ErrOrder, "b"+zeros(1<<16-2)+"\x01", "b"+zeros(1<<16-1))
	holdElements(t, api.OK, zeros(1<<16), "", zeros(1<<16-1)+"\x01")
}

func TestP16_2_BehindErrors(t *testing.T) {
	s := New(2)
	holdElement(t, s, "ab", api.OK)
	come(t, s, "ab")
	holdPush(t, s, 'c', api.ErrCap)
	holdForEver(t, s, api.ErrCap)
	s.Reset()
	// One that comes first behind two that are in order.
	holdElement(t, s, "b", api.OK)
	holdElement(t, s, "c", api.OK)
	holdElement(t, s, "a", api.ErrOrder)
	holdForEver(t, s, api.ErrOrder)
	// Not even more bytes than an element can have.
	for range 10 {
		holdPush(t, s, 'z', api.ErrOrder)
	}
	s.Reset()
	holdPush(t, s, 'z', api.OK)
	holdEnd(t, s, api.OK)
	holdEnd(t, s, api.ErrOrder)
	holdForEver(t, s, api.ErrOrder)
}

// holdNew sees that a sorter is as if it were new: it bears so many bytes, and no element is ahead.
func holdNew(t *testing.T, s *Sorter, most int) {
	t.Helper()
	full := strings.Repeat("c", most)
	// None is ahead of one of no bytes, of one that would come ahead of most, and of one that has as many as can be.
	holdElement(t, s, "", api.OK)
	s.Reset()
	if most > 0 {
		holdElement(t, s, "\x00", api.OK)
		holdElement(t, s, "\x01", api.OK)
		holdElement(t, s, "\x00", api.ErrOrder)
		s.Reset()
	}
	holdElement(t, s, full, api.OK)
	come(t, s, full)
	holdPush(t, s, 'c', api.ErrCap)
	s.Reset()
}

func TestP16_2_Reset(t *testing.T) {
	for _, m := range mosts() {
		s := New(m[0])
		s.Reset()
		holdNew(t, s, m[1])
		if m[1] < 2 {
			continue
		}
		// Behind an element, and within the first one, at several places.
		holdElement(t, s, "\xff\xff", api.OK)
		s.Reset()
		holdNew(t, s, m[1])
		for _, part := range []string{"\x00", "a", "\xff", "\xff\xff"} {
			come(t, s, part)
			s.Reset()
			holdNew(t, s, m[1])
			// Within a later one, which is like the one ahead so far, comes ahead of it, or doesn't.
			for _, ahead := range []string{"", "\x00", "\x80", "\xff", "\xff\xff"} {
				holdElement(t, s, ahead, api.OK)
				come(t, s, part)
				s.Reset()
				holdNew(t, s, m[1])
				come(t, s, part)
				s.Reset()
				// Neither bytes of what came, nor their number, stay.
				come(t, s, strings.Repeat("\x01", m[1]))
				holdEnd(t, s, api.OK)
				s.Reset()
			}
		}
		// Twice, and behind either error.
		s.Reset()
		s.Reset()
		holdElement(t, s, "b", api.OK)
		holdElement(t, s, "a", api.ErrOrder)
		s.Reset()
		holdNew(t, s, m[1])
		come(t, s, strings.Repeat("\xff", m[1]))
		holdPush(t, s, 0, api.ErrCap)
		s.Reset()
		holdNew(t, s, m[1])
	}
}

func TestP16_2_SortersKnowNothingOfEachOther(t *testing.T) {
	a, b := New(2), New(3)
	holdElement(t, a, "zz", api.OK)
	come(t, b, "ab")
	come(t, a, "z")
	holdPush(t, b, 'c', api.OK)
	holdEnd(t, b, api.OK)
	holdPush(t, a, 'z', api.OK)
	holdPush(t, a, 'z', api.ErrCap)
	holdElement(t, b, "abd", api.OK)
	a.Reset()
	holdElement(t, b, "abc", api.ErrOrder)
	holdElement(t, a, "", api.OK)
	holdElement(t, New(1), "", api.OK)
}

func TestP16_2_OrdersOfCalls(t *testing.T) {
	d := dice(163)
	for range 3000 {
		most := d.below(9) - 2
		bytes := edges[:1+d.below(5)]
		s, m := New(most), newModel(most)
		// The rarer ends are, the longer elements become.
		rare := 2 + d.below(8)
		for i := range 300 {
			switch {
			case d.below(60) == 0:
				s.Reset()
				m.reset()
			case d.below(rare) == 0:
				if got, want := s.End(), m.end(); got != want {
					t.Fatalf("End = %d as call %d, behind %q, most %d, want %d", got, i, m.elements, most, want)
				}
			default:
				b := bytes[d.below(len(bytes))]
				if got, want := s.Push(b), m.push(b); got != want {
					t.Fatalf("Push(%02x) = %d as call %d, behind %q, most %d, want %d", b, got, i, m.elements, most, want)
				}
			}
		}
	}
}

func TestP16_2_LongListsNearlyInOrder(t *testing.T) {
	d := dice(164)
	for range 500 {
		l := make([]string, 1+d.below(100))
		for i := range l {
			l[i] = d.element(8, edges)
		}
		l = inOrder(l)
		holdList(t, 8, l)
		// One of them stands elsewhere, or is a little other.
		at, to := d.below(len(l)), d.below(len(l))
		l[at], l[to] = l[to], l[at]
		holdList(t, 8, l)
		l[at] += d.element(2, edges)
		holdList(t, 8, l)
	}
}

// holdSorted sees that elements that are sorted are in order, for a sorter and for each two of them.
func holdSorted(t *testing.T, l []string) {
	sorted := Sort(l)
	if len(sorted) != len(l) {
		t.Helper()
		t.Fatalf("Sort(%q) = %q: others", l, sorted)
	}
	s := New(api.MaxCap)
	for i, x := range sorted {
		holdElement(t, s, x, api.OK)
		if i > 0 && Compare(sorted[i-1], x) > 0 {
			t.Helper()
			t.Fatalf("Sort(%q) = %q: no order at %d", l, sorted, i)
		}
	}
}

func TestP16_3_WhatIsSortedIsInOrder(t *testing.T) {
	for _, p := range pairs() {
		holdSorted(t, []string{p.a, p.b})
		holdSorted(t, []string{p.b, p.a})
		holdSorted(t, []string{p.b, "", p.a, p.b, p.a})
	}
	for n := range 5 {
		lists(n, []string{"", "\x00", "\x01", "\x01\x00", "\x01\x01", "\x80", "\xff\xff"}, func(l []string) { holdSorted(t, l) })
	}
	d := dice(165)
	for range 500 {
		l := make([]string, d.below(200))
		for i := range l {
			l[i] = d.element(9, edges)
		}
		holdSorted(t, l)
	}
}

func TestP16_3_WhatIsInOrderStaysAsItIs(t *testing.T) {
	d := dice(166)
	for range 20000 {
		l := make([]string, 1+d.below(4))
		for i := range l {
			l[i] = d.element(3, edges)
		}
		in := true
		s := New(3)
		for _, x := range l {
			come(t, s, x)
			if s.End() != api.OK {
				in = false
				break
			}
		}
		if stays := slices.Equal(Sort(l), l); stays != in {
			t.Fatalf("%q: in order for the sorter %t, for Sort %t", l, in, stays)
		}
	}
}
