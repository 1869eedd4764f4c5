package query

import (
	"slices"
	"strings"
	"testing"

	"gantlet/api"
)

// edges are the bytes at which a sign changes, or an integer's first byte could be one too many.
const edges = "\x00\x7f\x80\xff"

// newQueries makes queries, which must come.
func newQueries(t *testing.T, l ...string) *Queries {
	q, err := New(l...)
	if q == nil || err != api.OK {
		t.Helper()
		t.Fatalf("New(%x) = %v, %d", l, q, err)
	}
	return q
}

// hold compares the answers with what they must be, and ends the test. Helper is called only then, because it takes far
// longer than what is compared, and some tests hold thousands of calls.
func hold(t *testing.T, q *Queries, want ...api.Answer) {
	if got := q.Answers(); !slices.Equal(got, want) {
		t.Helper()
		t.Fatalf("Answers() = %+v, want %+v", got, want)
	}
}

// holdRefused sees that these are no queries.
func holdRefused(t *testing.T, l ...string) {
	if q, err := New(l...); q != nil || err != api.ErrRange {
		t.Helper()
		t.Fatalf("New(%x) of %d = %v, %d, want nil, %d", l, len(l), q, err, api.ErrRange)
	}
}

// holdRight sees that each of these can be asked for, and is answered.
func holdRight(t *testing.T, serial string) {
	t.Helper()
	q := newQueries(t, serial)
	hold(t, q, none)
	entryComes(q, serial, "d")
	hold(t, q, since("d"))
}

// none is the answer of a query that isn't answered.
var none api.Answer

// since is the answer of one that is.
func since(date string) api.Answer { return api.Answer{Revoked: true, Date: date} }

// pushAll lets bytes come.
func pushAll(q *Queries, b string) {
	for i := range len(b) {
		q.Push(b[i])
	}
}

// entryComes lets a whole entry come.
func entryComes(q *Queries, serial, date string) {
	q.Begin()
	pushAll(q, serial)
	q.Date(date)
}

// nones are so many answers of queries that aren't answered.
func nones(n int) []api.Answer { return make([]api.Answer, n) }

// one is a text of one byte.
func one(b int) string { return string([]byte{byte(b)}) }

// many are so many serial numbers, each another one.
func many(n int) []string {
	l := make([]string, n)
	for i := range l {
		l[i] = one(i + 1)
	}
	return l
}

// wrong are texts that are no serial numbers.
func wrong() []string {
	l := []string{
		"", "\x00\x00", "\x00\x01", "\x00\x7f", "\xff\xff", "\xff\xfe", "\xff\x80",
		"\x00\x7f\xff", "\x00\x00\x80", "\xff\x80\x00", "\xff\xff\x7f",
	}
	for _, n := range []int{20, 21, 22, 40, 255, 256, 257, 276, 277, 65536, 65537, 65556} {
		l = append(l, "\x00\x05"+strings.Repeat("a", n-2), "\xff\xaa"+strings.Repeat("a", n-2))
	}
	for _, n := range []int{21, 22, 40, 255, 256, 257, 276, 277, 65536, 65537, 65556} {
		l = append(l, strings.Repeat("a", n), "\x00\x80"+strings.Repeat("a", n-2), "\xff\x7f"+strings.Repeat("a", n-2))
	}
	return l
}

func TestP18_1_TheChaptersExample(t *testing.T) {
	q := newQueries(t, "\x05")
	q.Begin()
	q.Push(0x05)
	q.Date("d")
	hold(t, q, since("d"))
	q = newQueries(t, "\x05")
	q.Begin()
	q.Push(0x05)
	q.Push(0x00)
	q.Date("d")
	hold(t, q, none)
}

func TestP18_1_HowManyQueries(t *testing.T) {
	for n := range api.MaxQuery + 1 {
		q := newQueries(t, many(n)...)
		hold(t, q, nones(n)...)
		want := nones(n)
		for i, s := range many(n) {
			entryComes(q, s, s+"x")
			want[i] = since(s + "x")
			hold(t, q, want...)
		}
	}
	for _, n := range []int{65, 66, 127, 128, 129, 255} {
		holdRefused(t, many(n)...)
	}
	for _, n := range []int{256, 257, 320, 321, 65536, 65537, 65600} {
		holdRefused(t, slices.Repeat([]string{"\x05"}, n)...)
	}
	// However many of them are wrong too.
	holdRefused(t, slices.Repeat([]string{""}, 65)...)
	holdRefused(t, append(many(64), "")...)
}

func TestP18_1_NoQuery(t *testing.T) {
	for _, l := range [][]string{nil, {}, make([]string, 0, 3)} {
		q := newQueries(t, l...)
		hold(t, q)
		q.Date("a")
		q.Push(0x05)
		q.Date("b")
		entryComes(q, "\x05", "c")
		entryComes(q, "", "d")
		hold(t, q)
	}
	hold(t, newQueries(t))
}

func TestP18_1_FirstBytes(t *testing.T) {
	for x := range 256 {
		holdRight(t, one(x))
		for y := range 256 {
			b := one(x) + one(y)
			for _, behind := range []string{"", "\x00", "\xff", strings.Repeat("\x7f", 18)} {
				if rightSerial(b) {
					holdRight(t, b+behind)
				} else {
					holdRefused(t, b+behind)
				}
			}
		}
	}
	// As the model says it, so that this one is held too.
	for _, b := range []string{"\x00", "\x7f", "\x80", "\xff", "\x00\x80", "\xff\x7f", "\x01\x00", "\xfe\xff", "\x7f\xff", "\x80\x00"} {
		holdRight(t, b)
	}
	for _, b := range []string{"\x00\x7f", "\xff\x80", "\x00\x00", "\xff\xff", "\x00\x01", "\xff\xfe"} {
		holdRefused(t, b)
	}
}

func TestP18_1_Lengths(t *testing.T) {
	for n := 1; n <= 40; n++ {
		for first := range len(edges) {
			for second := range len(edges) {
				for behind := range len(edges) {
					b := (edges[first:first+1] + edges[second:second+1] + strings.Repeat(edges[behind:behind+1], 40))[:n]
					if rightSerial(b) {
						holdRight(t, b)
					} else {
						holdRefused(t, b)
					}
				}
			}
		}
	}
	holdRight(t, "\x01"+strings.Repeat("a", 19))
	holdRefused(t, "\x01"+strings.Repeat("a", 20))
	holdRight(t, "\x00\xff"+strings.Repeat("\x00", 18))
	holdRefused(t, "\x00\xff"+strings.Repeat("\x00", 19))
}

func TestP18_1_WrongOnesAloneAndAmongRightOnes(t *testing.T) {
	for _, w := range wrong() {
		holdRefused(t, w)
		holdRefused(t, w, w)
		for _, n := range []int{1, 2, 5, 63} {
			for at := range n + 1 {
				holdRefused(t, slices.Insert(many(n), at, w)...)
			}
		}
	}
}

func TestP18_1_TheSameOneSeveralTimes(t *testing.T) {
	for _, s := range []string{"\x05", "\x00\x80", "\xff" + strings.Repeat("\x00", 19)} {
		for _, n := range []int{2, 3, 63, 64} {
			q := newQueries(t, slices.Repeat([]string{s}, n)...)
			hold(t, q, nones(n)...)
			entryComes(q, "\x06", "other")
			hold(t, q, nones(n)...)
			entryComes(q, s, "first")
			hold(t, q, slices.Repeat([]api.Answer{since("first")}, n)...)
			entryComes(q, s, "second")
			hold(t, q, slices.Repeat([]api.Answer{since("first")}, n)...)
		}
	}
	// Among others, and not side by side.
	q := newQueries(t, "\x05", "\x06", "\x05", "\x07", "\x06", "\x05")
	entryComes(q, "\x06", "six")
	hold(t, q, none, since("six"), none, none, since("six"), none)
	entryComes(q, "\x05", "five")
	hold(t, q, since("five"), since("six"), since("five"), none, since("six"), since("five"))
}

func TestP18_1_WhatIsHandedInIsLeftAloneAndNotKept(t *testing.T) {
	whole := []string{"\x01", "\x02", "\x03", "\x04", "\x05"}
	l := whole[1:3]
	q := newQueries(t, l...)
	if want := []string{"\x01", "\x02", "\x03", "\x04", "\x05"}; !slices.Equal(whole, want) {
		t.Fatalf("the list is %x now", whole)
	}
	l[0], l[1] = "\x06", ""
	entryComes(q, "\x06", "six")
	entryComes(q, "", "none")
	hold(t, q, none, none)
	entryComes(q, "\x03", "three")
	entryComes(q, "\x02", "two")
	hold(t, q, since("two"), since("three"))
	if want := []string{"\x01", "\x06", "", "\x04", "\x05"}; !slices.Equal(whole, want) {
		t.Fatalf("the list is %x now", whole)
	}
	// So it is where they are refused.
	for _, w := range wrong() {
		l := []string{"\x01", w, "\x02", "\x03"}
		holdRefused(t, l[:3]...)
		if !slices.Equal(l, []string{"\x01", w, "\x02", "\x03"}) {
			t.Fatalf("the list is %x now", l)
		}
	}
}

func TestP18_2_InAnyOrder(t *testing.T) {
	serials := []string{"\x05", "\x00\x80", "\xff\x7f\x01", "\x7f", "\x80" + strings.Repeat("\xff", 19)}
	for _, asked := range orders(serials) {
		for _, comes := range orders(serials) {
			q := newQueries(t, asked...)
			want := nones(len(asked))
			for at, s := range comes {
				date := "at " + one('0'+at)
				entryComes(q, s, date)
				want[slices.Index(asked, s)] = since(date)
				hold(t, q, want...)
			}
		}
	}
}

// orders are all in which these can stand.
func orders(l []string) [][]string {
	if len(l) == 0 {
		return [][]string{nil}
	}
	var all [][]string
	for at, first := range l {
		for _, rest := range orders(slices.Delete(slices.Clone(l), at, at+1)) {
			all = append(all, append([]string{first}, rest...))
		}
	}
	return all
}

func TestP18_2_Dates(t *testing.T) {
	dates := []string{
		"", " ", "\x00", "0", "20260102030405", "99991231235959", "260102030405Z", "no date", "\xff\xfe", "\u00e9",
		strings.Repeat("7", 1<<16),
	}
	for _, first := range dates {
		for _, second := range dates {
			q := newQueries(t, "\x05", "\x06")
			entryComes(q, "\x05", first)
			hold(t, q, since(first), none)
			entryComes(q, "\x05", second)
			hold(t, q, since(first), none)
			entryComes(q, "\x06", second)
			hold(t, q, since(first), since(second))
		}
	}
}

func TestP18_2_BytesThatAreJustThose(t *testing.T) {
	for n := 1; n <= 20; n++ {
		for first := range len(edges) {
			s := edges[first:first+1] + strings.Repeat("\x80", 19)
			if first == 3 {
				s = edges[first:first+1] + strings.Repeat("\x7f", 19)
			}
			s = s[:n]
			q := newQueries(t, s)
			for _, other := range beside(s) {
				entryComes(q, other, "other")
				hold(t, q, none)
			}
			entryComes(q, s, "just")
			hold(t, q, since("just"))
		}
	}
}

// beside are bytes that aren't just those: fewer, more, others.
func beside(s string) []string {
	var l []string
	for n := range len(s) {
		l = append(l, s[:n], s[n+1:], s[:n]+s[n+1:])
		for bit := range 8 {
			l = append(l, s[:n]+one(int(s[n])^1<<bit)+s[n+1:])
		}
	}
	for i := range len(edges) {
		b := edges[i : i+1]
		l = append(l, s+b, b+s, s+b+b, s+strings.Repeat(b, 20), s+strings.Repeat(b, 21-len(s)))
	}
	l = append(l, s+s, s+strings.Repeat("\x00", 256-len(s))+s, s+strings.Repeat("\x00", 256))
	// Some of these may be the same bytes again: one of 1 byte has no other in it.
	return slices.DeleteFunc(l, func(b string) bool { return b == s })
}

func TestP18_2_BytesZeroAtTheEnd(t *testing.T) {
	// 0 at the end is a byte, and one of none isn't one of 0.
	serials := []string{"\x05", "\x05\x00", "\x05\x00\x00", "\x05" + strings.Repeat("\x00", 19), "\x00"}
	for at, s := range serials {
		q := newQueries(t, serials...)
		entryComes(q, s, "d")
		want := nones(len(serials))
		want[at] = since("d")
		hold(t, q, want...)
	}
	q := newQueries(t, serials...)
	entryComes(q, "", "d")
	entryComes(q, "\x05"+strings.Repeat("\x00", 20), "d")
	entryComes(q, "\x00\x00", "d")
	hold(t, q, nones(len(serials))...)
}

func TestP18_2_MoreBytesThanASerialNumberHas(t *testing.T) {
	for n := 1; n <= 20; n++ {
		// All its bytes are alike, so that it would stand there again wherever the count of them wraps round.
		s := strings.Repeat("a", n)
		q := newQueries(t, s)
		q.Begin()
		pushAll(q, strings.Repeat("a", 20))
		for came := 21; came < 1<<18; came++ {
			q.Push('a')
			q.Date("too many")
		}
		hold(t, q, none)
		// They stand behind none of the next one's.
		entryComes(q, s, "d")
		hold(t, q, since("d"))
	}
}

func TestP18_2_DatesAtEachByte(t *testing.T) {
	full := "\x01" + strings.Repeat("a", 30)
	for n := 1; n <= 20; n++ {
		q := newQueries(t, full[:n])
		q.Begin()
		q.Date("at none")
		for i := range len(full) {
			q.Push(full[i])
			q.Date("at " + one(i))
			if i+1 < n {
				hold(t, q, none)
			} else {
				hold(t, q, since("at "+one(n-1)))
			}
		}
	}
	// All of them at once: each is answered at its own last byte.
	var asked []string
	for n := 1; n <= 20; n++ {
		asked = append(asked, full[:n])
	}
	q := newQueries(t, asked...)
	want := nones(20)
	q.Begin()
	q.Date("at none")
	for i := range len(full) {
		hold(t, q, want...)
		q.Push(full[i])
		hold(t, q, want...)
		q.Date("at " + one(i))
		if i < 20 {
			want[i] = since("at " + one(i))
		}
	}
	hold(t, q, want...)
}

func TestP18_2_DateAheadOfAnyBeginning(t *testing.T) {
	for x := range 256 {
		q := newQueries(t, "\x05", "\x00", one(x))
		q.Date("ahead")
		hold(t, q, nones(3)...)
		// Bytes ahead of any beginning, too: there was none.
		q.Push(byte(x))
		q.Date("ahead")
		hold(t, q, nones(3)...)
		// They are gone with it.
		q.Begin()
		q.Date("behind none")
		hold(t, q, nones(3)...)
		q.Push(byte(x))
		q.Date("behind")
		hold(t, q, behindIf(x == 5), behindIf(x == 0), since("behind"))
	}
	for n := 1; n <= 300; n++ {
		s := ("\x01" + strings.Repeat("a", 19))[:min(n, 20)]
		q := newQueries(t, s)
		for i := range n {
			q.Push(("\x01" + strings.Repeat("a", 300))[i])
			q.Date("ahead")
		}
		hold(t, q, none)
		entryComes(q, s, "behind")
		hold(t, q, since("behind"))
	}
}

// behindIf is the answer of a query that is answered behind a beginning, if so.
func behindIf(so bool) api.Answer {
	if so {
		return since("behind")
	}
	return none
}

func TestP18_2_DateAheadOfAnyPush(t *testing.T) {
	q := newQueries(t, "\x00", "\x05")
	q.Begin()
	q.Date("a")
	q.Date("b")
	hold(t, q, none, none)
	q.Push(0x05)
	q.Date("c")
	hold(t, q, none, since("c"))
	q.Begin()
	q.Date("d")
	hold(t, q, none, since("c"))
}

func TestP18_2_DateTwiceBehindTheSameBytes(t *testing.T) {
	q := newQueries(t, "\x05", "\x05\x06")
	entryComes(q, "\x05", "first")
	q.Date("second")
	hold(t, q, since("first"), none)
	// And between two bytes: what came stays.
	q.Push(0x06)
	q.Date("third")
	q.Date("fourth")
	hold(t, q, since("first"), since("third"))
	q.Push(0x07)
	q.Date("fifth")
	hold(t, q, since("first"), since("third"))
}

func TestP18_2_AnotherBeginning(t *testing.T) {
	bytes := "\x01" + strings.Repeat("a", 30)
	for first := range 31 {
		for n := 1; n <= 20; n++ {
			for _, dated := range []bool{false, true} {
				s := strings.Repeat("b", n)
				q := newQueries(t, s, "\x01")
				q.Begin()
				pushAll(q, bytes[:first])
				if dated {
					q.Date("of the first")
				}
				q.Begin()
				q.Date("of none")
				q.Begin()
				pushAll(q, s[:n-1])
				q.Date("early")
				q.Push('b')
				q.Date("behind")
				if dated && first == 1 {
					hold(t, q, since("behind"), since("of the first"))
				} else {
					hold(t, q, since("behind"), none)
				}
			}
		}
	}
	// What came ahead of it is gone, and not put together with what comes.
	q := newQueries(t, "\x05\x06", "\x06")
	q.Begin()
	q.Push(0x05)
	q.Begin()
	q.Push(0x06)
	q.Date("d")
	hold(t, q, none, since("d"))
}

func TestP18_2_AnswersAtEveryPlace(t *testing.T) {
	asked := []string{"\x05", "\x06\x07", "\x05"}
	q := newQueries(t, asked...)
	want := nones(3)
	// What it answered is the caller's: whatever becomes of it changes nothing, and it changes no more itself.
	spoil := func() {
		t.Helper()
		hold(t, q, want...)
		got := q.Answers()
		for i := range got {
			got[i] = since("spoilt")
		}
		got = append(got, since("more"))
		hold(t, q, want...)
		again := q.Answers()
		clear(got)
		if !slices.Equal(again, want) {
			t.Fatalf("Answers() = %+v, want %+v", again, want)
		}
	}
	spoil()
	q.Begin()
	spoil()
	q.Push(0x06)
	spoil()
	q.Push(0x07)
	spoil()
	ahead := q.Answers()
	q.Date("first")
	want[1] = since("first")
	spoil()
	if !slices.Equal(ahead, nones(3)) {
		t.Fatalf("they are %+v now", ahead)
	}
	q.Date("second")
	spoil()
	entryComes(q, "\x05", "third")
	want[0], want[2] = since("third"), since("third")
	spoil()
	if !slices.Equal(ahead, nones(3)) {
		t.Fatalf("they are %+v now", ahead)
	}
	// One that is spoilt as if it weren't answered is answered all the same.
	clear(q.Answers())
	entryComes(q, "\x05", "fourth")
	spoil()
}

func TestP18_2_QueriesKnowNothingOfEachOther(t *testing.T) {
	l := []string{"\x05", "\x06"}
	a, b := newQueries(t, l...), newQueries(t, l...)
	a.Begin()
	a.Push(0x05)
	b.Push(0x05)
	b.Date("b has no beginning")
	hold(t, b, none, none)
	b.Begin()
	b.Push(0x06)
	a.Date("a")
	hold(t, b, none, none)
	b.Date("b")
	hold(t, a, since("a"), none)
	hold(t, b, none, since("b"))
	b.Begin()
	a.Date("a again")
	a.Push(0x06)
	a.Date("a of 05 06")
	hold(t, a, since("a"), none)
	hold(t, newQueries(t, l...), none, none)
}

func TestP18_3_TheFirstDateStays(t *testing.T) {
	q := newQueries(t, "\x05", "\x00\x80")
	entryComes(q, "\x05", "")
	hold(t, q, since(""), none)
	entryComes(q, "\x05", "later")
	hold(t, q, since(""), none)
	entryComes(q, "\x00\x80", "z")
	entryComes(q, "\x00\x80", "a")
	hold(t, q, since(""), since("z"))
	for i := range 300 {
		entryComes(q, "\x05", one(i))
		entryComes(q, "\x00\x80", one(i))
	}
	hold(t, q, since(""), since("z"))
}

func TestP18_3_WhatIsNotAskedForChangesNothing(t *testing.T) {
	asked := []string{"\x05", "\x00\x80", "\xff\x7f", strings.Repeat("\x11", 20)}
	for answered := range 1 << len(asked) {
		q := newQueries(t, asked...)
		want := nones(len(asked))
		for i, s := range asked {
			if answered>>i&1 == 1 {
				entryComes(q, s, "d"+s)
				want[i] = since("d" + s)
			}
		}
		for _, s := range asked {
			for _, other := range beside(s) {
				if slices.Contains(asked, other) {
					t.Fatalf("%x is asked for", other)
				}
				entryComes(q, other, "other")
			}
		}
		for _, other := range wrong() {
			entryComes(q, other, "wrong")
		}
		hold(t, q, want...)
	}
}

// held is queries and their model, to which the same calls come.
type held struct {
	q *Queries
	m *model
}

func newHeld(t *testing.T, asked ...string) *held {
	return &held{newQueries(t, asked...), &model{asked: asked}}
}

func (h *held) hold(t *testing.T) { hold(t, h.q, h.m.answers()...) }

func (h *held) begin() {
	h.q.Begin()
	h.m.begin()
}

func (h *held) push(b byte) {
	h.q.Push(b)
	h.m.push(b)
}

func (h *held) pushAll(b string) {
	for i := range len(b) {
		h.push(b[i])
	}
}

func (h *held) date(date string) {
	h.q.Date(date)
	h.m.date(date)
}

// call makes one of four calls; no two dates are alike, and the first one is empty.
func (h *held) call(kind, at int) {
	switch kind {
	case 0:
		h.begin()
	case 1:
		h.push(0x01)
	case 2:
		h.push(0x02)
	case 3:
		h.date(strings.Repeat("d", at))
	}
}

func TestP18_2_AllShortOrdersOfCalls(t *testing.T) {
	const kinds, calls = 4, 8
	count := 1
	for range calls {
		count *= kinds
	}
	for number := range count {
		h := newHeld(t, "\x01", "\x02", "\x01\x02", "\x02\x02", "\x01", "\x02\x01\x01")
		for at, left := 0, number; at < calls; at, left = at+1, left/kinds {
			h.call(left%kinds, at)
			h.hold(t)
		}
	}
}

func TestP18_2_ThrownOrdersOfCalls(t *testing.T) {
	d := dice(181)
	for range 5000 {
		var asked []string
		for range d.below(9) {
			asked = append(asked, d.serial(1+d.below(3), edges))
		}
		h := newHeld(t, asked...)
		for at := range 60 {
			switch d.below(6) {
			case 0:
				h.begin()
			case 1:
				h.date(one(at))
			default:
				h.push(edges[d.below(len(edges))])
			}
			h.hold(t)
		}
	}
}

// throwEntry lets one come whose bytes are often just what is asked for, or nearly.
func (h *held) throwEntry(d *dice, date string) {
	s := d.bytes(d.below(24), edges)
	if len(h.m.asked) > 0 && d.below(4) != 0 {
		s = h.m.asked[d.below(len(h.m.asked))]
	}
	switch d.below(8) {
	case 0:
		s = s[:d.below(len(s)+1)]
	case 1:
		s += d.bytes(d.below(25), edges)
	case 2:
		s = d.bytes(1, edges) + s
	}
	// Now and then something of the entry is missing, or comes twice.
	if d.below(12) != 0 {
		h.begin()
	}
	h.pushAll(s)
	for range d.below(3) {
		h.date(date)
		date += "'"
	}
}

func TestP18_2_LongOrdersOfCalls(t *testing.T) {
	d := dice(182)
	for _, n := range []int{0, 1, 2, 5, 20, 63, 64} {
		for range 40 {
			var asked []string
			for range n {
				asked = append(asked, d.serial(1+d.below(20), edges))
			}
			h := newHeld(t, asked...)
			for at := range 200 {
				h.throwEntry(&d, strings.Repeat("d", at))
				if d.below(10) == 0 {
					h.hold(t)
				}
			}
			h.hold(t)
		}
	}
}

func TestP18_1_ThrownTexts(t *testing.T) {
	d := dice(183)
	for range 50000 {
		var l []string
		right := true
		for range d.below(4) {
			s := d.bytes(d.below(24), edges)
			if d.below(3) != 0 {
				s = d.serial(1+d.below(20), edges)
			}
			right = right && rightSerial(s)
			l = append(l, s)
		}
		if right {
			hold(t, newQueries(t, l...), nones(len(l))...)
		} else {
			holdRefused(t, l...)
		}
	}
}

// What came stands in an array: however many bytes come, there is no other room they could be kept in.
func TestWays_WhatComesTakesNoRoom(t *testing.T) {
	q := newQueries(t, many(64)...)
	took := testing.AllocsPerRun(100, func() {
		q.Begin()
		for i := range 1000 {
			q.Push(byte(i))
		}
		q.Date("d")
		q.Begin()
		q.Push(0x05)
		q.Date("d")
	})
	if took != 0 {
		t.Fatalf("room was taken %v times", took)
	}
}

// A list and one by one are the same to a variadic function.
func TestWays_OneByOneOrAsAList(t *testing.T) {
	l := []string{"\x05", "\x00\x80"}
	a, b := newQueries(t, "\x05", "\x00\x80"), newQueries(t, l...)
	for _, q := range []*Queries{a, b} {
		entryComes(q, "\x00\x80", "d")
		hold(t, q, none, since("d"))
	}
}
