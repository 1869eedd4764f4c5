package event

import (
	"math"
	"slices"
	"strings"
	"testing"

	"gantlet/api"
	"gantlet/head"
)

// told is what comes of a text: its events, the error, and the place at which that is told.
type told struct {
	events []api.Event
	err    api.Errno
	at     int
}

// done tells whether the whole element is there when so many bytes came.
func (w told) done(came int) bool {
	return (w.err == api.OK || w.err == api.ErrMore) && came >= w.at
}

// from is the place of the first event of the byte at a place, or of one behind it.
func (w told) from(at int) int {
	i, _ := slices.BinarySearchFunc(w.events, at, func(e api.Event, at int) int { return e.At - at })
	return i
}

// of is the events of the byte at a place.
func (w told) of(at int) []api.Event { return w.events[w.from(at):w.from(at+1)] }

// holdState compares what Done and At tell with what they must. It ends the test, because most tests hold thousands of
// bytes; Helper is called only then, because it takes far longer than what is compared.
func holdState(t *testing.T, m *Machine, done bool, at int) {
	if m.Done() != done || m.At() != at {
		t.Helper()
		t.Fatalf("Done() = %t, At() = %d, want %t, %d", m.Done(), m.At(), done, at)
	}
}

// holdPush compares what Push tells of a byte with what it must, and ends the test likewise.
func holdPush(t *testing.T, m *Machine, b byte, want []api.Event, wantErr api.Errno) {
	at := m.At()
	if events, err := m.Push(b); !slices.Equal(events, want) || err != wantErr {
		t.Helper()
		t.Fatalf("Push(%x) = %v, error %d, behind %d bytes, want %v, error %d", b, events, err, at, want, wantErr)
	}
}

// holdError sees that each of the bytes tells the error and nothing else, and that none of them changes Done, or At.
func holdError(t *testing.T, m *Machine, bytes string, want api.Errno) {
	done, at := m.Done(), m.At()
	for i := range len(bytes) {
		holdPush(t, m, bytes[i], nil, want)
		holdState(t, m, done, at)
	}
}

// holdPushes compares what a machine tells of a text, of which so many bytes came already, with what it must.
func holdPushes(t *testing.T, m *Machine, came int, b string, want told) {
	t.Helper()
	holdState(t, m, want.done(came), came)
	for at := came; at < want.at; at++ {
		holdPush(t, m, b[at], want.of(at), api.OK)
		holdState(t, m, want.done(at+1), at+1)
	}
	if want.at < len(b) {
		holdError(t, m, b[want.at:], want.err)
		holdError(t, m, "\x05\x00\x30\x80", want.err)
	}
}

// hold compares what is told of a text, at once and byte by byte, with what must be.
func hold(t *testing.T, b string, depth int, want told) {
	t.Helper()
	if events, err, at := Whole(b, depth); !slices.Equal(events, want.events) || err != want.err || at != want.at {
		t.Fatalf("Whole(%x, %d) = %v, error %d, %d, want %v, error %d, %d", b, depth, events, err, at, want.events, want.err, want.at)
	}
	holdPushes(t, New(depth), 0, b, want)
}

// holdModel compares what is told of a text with the model, in which the error and its place must be those written out.
func holdModel(t *testing.T, b string, depth int, wantErr api.Errno, wantAt int) {
	t.Helper()
	want := tell(b, depth)
	if want.err != wantErr || want.at != wantAt {
		t.Fatalf("the model tells error %d at %d of %x, depth %d, want %d, %d", want.err, want.at, b, depth, wantErr, wantAt)
	}
	hold(t, b, depth, want)
}

// model goes along a text as the chapter says it, from element to element, each with the place at which it must end.
type model struct {
	b      string
	most   int
	events []api.Event
}

// tell is what the chapter says of a text.
func tell(b string, depth int) told {
	m := model{b: b, most: min(64, max(0, depth))}
	at, err := m.element(0, math.MaxInt, 0)
	if err == api.OK && at < len(b) {
		err = api.ErrMore
	}
	return told{m.events, err, at}
}

// add is an event without a head.
func (m *model) add(kind, at int) { m.events = append(m.events, api.Event{Kind: kind, At: at}) }

// element goes along one that begins at a place, within as many others as are open, the innermost of which ends at
// limit; it answers the place behind it, or the one at which it is wrong.
func (m *model) element(at, limit, open int) (int, api.Errno) {
	h, last, err := m.head(at, limit)
	if err != api.OK {
		return last, err
	}
	end := last + 1 + h.Len
	if end > limit {
		return last, api.ErrFit
	}
	if !h.Cons {
		m.events = append(m.events, api.Event{Kind: api.ELeaf, At: last, Head: h})
		return m.content(last+1, end)
	}
	if open == m.most {
		return last, api.ErrDepth
	}
	m.events = append(m.events, api.Event{Kind: api.EEnter, At: last, Head: h})
	for at = last + 1; at < end; {
		if at, err = m.element(at, end, open+1); err != api.OK {
			return at, err
		}
	}
	m.add(api.EExit, end-1)
	return end, api.OK
}

// head is the one at a place, and the place of its last byte, or of the one that is wrong.
func (m *model) head(at, limit int) (api.Head, int, api.Errno) {
	for i := at; i < len(m.b); i++ {
		if i == limit {
			return api.Head{}, i, api.ErrFit
		}
		if h, _, err := head.Get(m.b[:i+1], at); err != api.ErrCut {
			return h, i, err
		}
	}
	return api.Head{}, len(m.b), api.ErrCut
}

// content is that of a primitive element, from a place to the one behind it.
func (m *model) content(at, end int) (int, api.Errno) {
	for i := at; i < end; i++ {
		if i == len(m.b) {
			return i, api.ErrCut
		}
		m.events = append(m.events, api.Event{Kind: api.EByte, At: i, B: m.b[i]})
	}
	m.add(api.EEnd, end-1)
	return end, api.OK
}

// sequence is the head of a constructed element.
func sequence(n int) api.Head { return api.Head{Tag: api.TSequence, Cons: true, Len: n} }

// octets is the head of a primitive one.
func octets(n int) api.Head { return api.Head{Tag: api.TOctets, Len: n} }

// null is the head of a primitive one that never has bytes.
func null() api.Head { return api.Head{Tag: api.TNull} }

// enter, leaf, content, end and exit are the events of each kind.
func enter(at int, h api.Head) api.Event { return api.Event{Kind: api.EEnter, At: at, Head: h} }
func leaf(at int, h api.Head) api.Event  { return api.Event{Kind: api.ELeaf, At: at, Head: h} }
func content(at int, b byte) api.Event   { return api.Event{Kind: api.EByte, At: at, B: b} }
func end(at int) api.Event               { return api.Event{Kind: api.EEnd, At: at} }
func exit(at int) api.Event              { return api.Event{Kind: api.EExit, At: at} }

// exits is so many elements that are over with one byte.
func exits(at, n int) []api.Event { return slices.Repeat([]api.Event{exit(at)}, n) }

// put is a head's bytes.
func put(h api.Head) string {
	b, err := head.Put(h)
	if err != api.OK {
		panic("the test's own head is wrong")
	}
	return b
}

// around is a constructed element with these in it, one behind the other.
func around(in ...string) string {
	all := strings.Join(in, "")
	return put(sequence(len(all))) + all
}

// nest is as many constructed elements, one within the other, the innermost one around a text; and their beginnings.
func nest(levels int, in string) (string, []api.Event) {
	b := in
	var heads []api.Head
	for range levels {
		heads = append(heads, sequence(len(b)))
		b = around(b)
	}
	var events []api.Event
	at := 0
	for _, h := range slices.Backward(heads) {
		at += len(put(h))
		events = append(events, enter(at-1, h))
	}
	return b, events
}

// depths are those that New may be handed, each with how many elements can be open.
func depths() [][2]int {
	return [][2]int{
		{math.MinInt, 0}, {-1 << 32, 0}, {-1<<32 + 5, 0}, {-64, 0}, {-2, 0}, {-1, 0},
		{0, 0}, {1, 1}, {2, 2}, {3, 3}, {31, 31}, {62, 62}, {63, 63}, {64, 64},
		{65, 64}, {66, 64}, {128, 64}, {256, 64}, {1 << 32, 64}, {1<<32 + 3, 64}, {math.MaxInt, 64},
	}
}

// everyByte is all bytes, one behind the other.
func everyByte() string {
	b := make([]byte, 256)
	for i := range b {
		b[i] = byte(i)
	}
	return string(b)
}

// longHeads are heads of each number of bytes, of each class, primitive and constructed.
func longHeads() []api.Head {
	return []api.Head{
		{}, octets(1), octets(127), octets(128), octets(255), octets(256), octets(65535), octets(65536),
		sequence(0), sequence(1), sequence(127), sequence(128), sequence(256),
		{Class: api.CApp, Tag: 30, Len: 5}, {Class: api.CContext, Tag: 31, Len: 5}, {Class: api.CPrivate, Tag: 128, Len: 300},
		{Class: api.CContext, Cons: true}, {Class: api.CContext, Cons: true, Tag: 31, Len: 2},
		{Class: api.CApp, Cons: true, Tag: 1 << 21, Len: 200}, {Class: api.CPrivate, Cons: true, Tag: api.MaxTag, Len: 1 << 24},
		{Class: api.CPrivate, Tag: api.MaxTag, Len: api.MaxLen}, {Tag: api.TSet, Cons: true, Len: api.MaxLen},
	}
}

// wrong is bytes, the last one of which can't belong to a head.
type wrong struct {
	b   string
	err api.Errno
}

// wrongHeads are some for each reason that ident and length name.
func wrongHeads() []wrong {
	return []wrong{
		{"\x1f\x80", api.ErrTag}, {"\x3f\x1e", api.ErrTag}, {"\x9f\x00", api.ErrTag},
		{"\xff\x81\x80\x80\x80\x00", api.ErrTag}, {"\x5f\xff\xff\xff\xff\xff", api.ErrTag},
		{"\x30\x80", api.ErrLength}, {"\x02\x89", api.ErrLength}, {"\x02\xff", api.ErrLength},
		{"\x04\x81\x7f", api.ErrLength}, {"\x04\x82\x00", api.ErrLength}, {"\xbf\x1f\x81\x00", api.ErrLength},
		{"\x04\x88\x20\x00\x00\x00\x00\x00\x00\x00", api.ErrLength}, {"\x30\x88\xff\xff\xff\xff\xff\xff\xff\xff", api.ErrLength},
	}
}

func TestP9_1_ExamplesOfTheChapter(t *testing.T) {
	hold(t, "\x30\x03\x02\x01\x07", 64, told{[]api.Event{
		enter(1, sequence(3)), leaf(3, api.Head{Tag: api.TInteger, Len: 1}), content(4, 7), end(4), exit(4),
	}, api.OK, 5})
	hold(t, "\x30\x02\x02\x01", 64, told{[]api.Event{enter(1, sequence(2))}, api.ErrFit, 3})
	hold(t, "\x30\x00", 64, told{[]api.Event{enter(1, sequence(0)), exit(1)}, api.OK, 2})
	// The first example of the whole.
	hold(t, "\x30\x80\x02\x01", 64, told{nil, api.ErrLength, 1})
}

func TestP9_1_NumbersOfTheKinds(t *testing.T) {
	events, _, _ := Whole("\x30\x03\x02\x01\x07", 1)
	var kinds []int
	for _, e := range events {
		kinds = append(kinds, e.Kind)
	}
	if !slices.Equal(kinds, []int{1, 2, 3, 4, 5}) {
		t.Errorf("the kinds are %v", kinds)
	}
}

func TestP9_1_PrimitiveElements(t *testing.T) {
	for _, depth := range []int{-1, 0, 1, 64, 65} {
		hold(t, "\x05\x00", depth, told{[]api.Event{leaf(1, null()), end(1)}, api.OK, 2})
		hold(t, "\x04\x01\x00", depth, told{[]api.Event{leaf(1, octets(1)), content(2, 0), end(2)}, api.OK, 3})
		hold(t, "\x04\x02ab", depth, told{[]api.Event{leaf(1, octets(2)), content(2, 'a'), content(3, 'b'), end(3)}, api.OK, 4})
		// What would be a head, were it not content.
		hold(t, "\x04\x03\x30\x80\xff", depth, told{[]api.Event{
			leaf(1, octets(3)), content(2, 0x30), content(3, 0x80), content(4, 0xff), end(4),
		}, api.OK, 5})
		h := api.Head{Class: api.CContext, Tag: 31, Len: 1}
		hold(t, "\x9f\x1f\x01\xff", depth, told{[]api.Event{leaf(2, h), content(3, 0xff), end(3)}, api.OK, 4})
	}
}

func TestP9_1_LongContents(t *testing.T) {
	for _, n := range []int{126, 127, 128, 129, 255, 256, 257, 70000} {
		b := put(octets(n)) + strings.Repeat(everyByte(), n/256+1)[:n]
		ahead := len(b) - n
		events := []api.Event{leaf(ahead-1, octets(n))}
		for i := range n {
			events = append(events, content(ahead+i, byte(i)))
		}
		hold(t, b, 0, told{append(events, end(len(b)-1)), api.OK, len(b)})
	}
}

func TestP9_1_TheHeadIsToldWithItsLastByte(t *testing.T) {
	for _, h := range longHeads() {
		b := put(h)
		for n := range len(b) {
			hold(t, b[:n], 1, told{nil, api.ErrCut, n})
		}
		last := len(b) - 1
		switch {
		case h.Cons && h.Len == 0:
			hold(t, b, 1, told{[]api.Event{enter(last, h), exit(last)}, api.OK, len(b)})
		case h.Cons:
			hold(t, b, 1, told{[]api.Event{enter(last, h)}, api.ErrCut, len(b)})
		case h.Len == 0:
			hold(t, b, 1, told{[]api.Event{leaf(last, h), end(last)}, api.OK, len(b)})
		default:
			hold(t, b, 1, told{[]api.Event{leaf(last, h)}, api.ErrCut, len(b)})
		}
	}
}

func TestP9_1_ElementsWithinEachOther(t *testing.T) {
	hold(t, "\x30\x04\x30\x02\x05\x00", 2, told{[]api.Event{
		enter(1, sequence(4)), enter(3, sequence(2)), leaf(5, null()), end(5), exit(5), exit(5),
	}, api.OK, 6})
	// Some bytes of the outer ones behind the inner ones.
	hold(t, "\x30\x0b\x31\x07\xa0\x03\x04\x01\x09\x05\x00\x05\x00", 3, told{[]api.Event{
		enter(1, sequence(11)),
		enter(3, api.Head{Tag: api.TSet, Cons: true, Len: 7}),
		enter(5, api.Head{Class: api.CContext, Cons: true, Len: 3}),
		leaf(7, octets(1)), content(8, 9), end(8),
		exit(8),
		leaf(10, null()), end(10),
		exit(10),
		leaf(12, null()), end(12),
		exit(12),
	}, api.OK, 13})
}

func TestP9_1_ElementsSideBySide(t *testing.T) {
	hold(t, "\x30\x0d\x02\x01\x07\x31\x00\x30\x04\x04\x02\x01\x02\x05\x00", 2, told{[]api.Event{
		enter(1, sequence(13)),
		leaf(3, api.Head{Tag: api.TInteger, Len: 1}), content(4, 7), end(4),
		enter(6, api.Head{Tag: api.TSet, Cons: true}), exit(6),
		enter(8, sequence(4)), leaf(10, octets(2)), content(11, 1), content(12, 2), end(12), exit(12),
		leaf(14, null()), end(14),
		exit(14),
	}, api.OK, 15})
	// Many, of which none is open any more when the next one begins.
	for n := range 80 {
		b := around(strings.Repeat("\x30\x00", n))
		ahead := len(b) - 2*n
		events := []api.Event{enter(ahead-1, sequence(2*n))}
		for i := range n {
			events = append(events, enter(ahead+2*i+1, sequence(0)), exit(ahead+2*i+1))
		}
		hold(t, b, 2, told{append(events, exit(len(b)-1)), api.OK, len(b)})
	}
}

func TestP9_1_SeveralAreOverWithOneByte(t *testing.T) {
	for levels := 1; levels <= 64; levels++ {
		for _, depth := range []int{levels, levels + 1, 64, 65} {
			b, events := nest(levels, "")
			hold(t, b, depth, told{append(events, exits(len(b)-1, levels)...), api.OK, len(b)})

			b, events = nest(levels, "\x05\x00")
			last := len(b) - 1
			events = append(events, leaf(last, null()), end(last))
			hold(t, b, depth, told{append(events, exits(last, levels)...), api.OK, len(b)})

			b, events = nest(levels, "\x04\x01a")
			last = len(b) - 1
			events = append(events, leaf(last-1, octets(1)), content(last, 'a'), end(last))
			hold(t, b, depth, told{append(events, exits(last, levels)...), api.OK, len(b)})
		}
	}
}

func TestP9_1_SomeAreOverAndOneIsNot(t *testing.T) {
	// The two inner ones, of 5 and 3 bytes, with the last content; the outer one has an element more.
	b := "\x30\x09\x30\x05\x30\x03\x04\x01a\x05\x00"
	hold(t, b, 3, told{[]api.Event{
		enter(1, sequence(9)), enter(3, sequence(5)), enter(5, sequence(3)),
		leaf(7, octets(1)), content(8, 'a'), end(8), exit(8), exit(8),
		leaf(10, null()), end(10), exit(10),
	}, api.OK, 11})
	hold(t, b[:9], 3, told{tell(b, 3).events[:8], api.ErrCut, 9})
}

func TestP9_1_AsDeepAsCanBeAndOneMore(t *testing.T) {
	for _, d := range depths() {
		for _, in := range []string{"\x05\x00", "\x04\x02ab", "\x9f\x1f\x01\xff"} {
			b, _ := nest(d[1], in)
			holdModel(t, b, d[0], api.OK, len(b))
		}
		for _, in := range []string{"", "\x05\x00", "\x04\x02ab", "\x30\x00"} {
			b, events := nest(d[1]+1, in)
			// It is told with its head's last byte, of which no event comes; the ones ahead are open.
			last := events[d[1]].At
			hold(t, b, d[0], told{events[:d[1]], api.ErrDepth, last})
			hold(t, b[:last], d[0], told{events[:d[1]], api.ErrCut, last})
		}
		// Of a longer head too, and whatever class and tag.
		for _, h := range longHeads() {
			if h.Cons && h.Len < 999 {
				b, events := nest(d[1], put(h)+strings.Repeat("\x00", h.Len))
				hold(t, b, d[0], told{events, api.ErrDepth, len(b) - h.Len - 1})
			}
		}
	}
}

func TestP9_1_WhatIsOverMakesRoom(t *testing.T) {
	for _, d := range depths() {
		if d[1] == 0 {
			continue
		}
		// As deep as can be, again and again, within one and side by side.
		deep, _ := nest(d[1]-1, "")
		b := around(strings.Repeat(deep, 70), "\x05\x00")
		if d[1] == 1 {
			b = around(strings.Repeat("\x05\x00", 70))
		}
		holdModel(t, b, d[0], api.OK, len(b))
		deeper, _ := nest(d[1], "")
		ahead := around(strings.Repeat(deep, 70) + deeper)
		holdModel(t, ahead, d[0], api.ErrDepth, len(ahead)-1)
	}
}

func TestP9_1_AHeadThatJustFitsAndOneTooLong(t *testing.T) {
	for _, ahead := range []string{"", "\x05\x00", "\x30\x00\x04\x01a", "\x04\x81\x80" + strings.Repeat("a", 128)} {
		for _, n := range []int{0, 1, 2, 3, 126, 127, 128, 129, 255, 256, 257, 65535, 65536} {
			for _, h := range []api.Head{octets(n), {Class: api.CPrivate, Tag: api.MaxTag, Len: n}} {
				b := put(h)
				rest := strings.Repeat("\x05", n)
				whole := put(sequence(len(ahead)+len(b)+n)) + ahead + b + rest
				holdModel(t, whole, 2, api.OK, len(whole))
				tooLong := put(sequence(len(ahead)+len(b)+n-1)) + ahead + b
				holdModel(t, tooLong, 2, api.ErrFit, len(tooLong)-1)
				holdModel(t, tooLong+rest, 2, api.ErrFit, len(tooLong)-1)
			}
			// A constructed one, its content cut off.
			b := put(sequence(n))
			fits := put(sequence(len(ahead)+len(b)+n)) + ahead + b
			if n > 0 {
				holdModel(t, fits, 2, api.ErrCut, len(fits))
			} else {
				holdModel(t, fits, 2, api.OK, len(fits))
			}
			tooLong := put(sequence(len(ahead)+len(b)+n-1)) + ahead + b
			holdModel(t, tooLong, 2, api.ErrFit, len(tooLong)-1)
		}
	}
}

func TestP9_1_FitsTheOuterOneButNotTheInnermost(t *testing.T) {
	hold(t, "\x30\x10\x30\x03\x04\x02ab\x05\x00", 9, told{[]api.Event{
		enter(1, sequence(16)), enter(3, sequence(3)),
	}, api.ErrFit, 5})
	hold(t, "\x30\x10\x30\x03\x30\x02\x05\x00", 9, told{[]api.Event{
		enter(1, sequence(16)), enter(3, sequence(3)),
	}, api.ErrFit, 5})
	// Nor one that is as long as the outer one itself.
	hold(t, "\x30\x10\x30\x10", 9, told{[]api.Event{enter(1, sequence(16))}, api.ErrFit, 3})
}

func TestP9_1_HeadsThatGoBeyondWhatIsLeft(t *testing.T) {
	for _, ahead := range []string{"", "\x05\x00", "\x30\x00\x04\x01a"} {
		for _, h := range longHeads() {
			b := put(h)
			// The element around them has as many bytes of the head, and then none.
			for n := 1; n < len(b); n++ {
				whole := put(sequence(len(ahead)+n)) + ahead + b
				at := len(whole) - len(b) + n
				holdModel(t, whole, 2, api.ErrFit, at)
				// Within the head nothing is over, though no bytes are left.
				holdModel(t, whole[:at], 2, api.ErrCut, at)
				// The outer one has bytes left, the innermost one none.
				outer := put(sequence(len(whole)+50)) + whole
				holdModel(t, outer, 3, api.ErrFit, len(outer)-len(b)+n)
				holdModel(t, outer[:len(outer)-len(b)+n], 3, api.ErrCut, len(outer)-len(b)+n)
			}
		}
	}
	hold(t, "\x30\x01\x02", 1, told{[]api.Event{enter(1, sequence(1))}, api.ErrCut, 3})
	hold(t, "\x30\x01\x02\x00", 1, told{[]api.Event{enter(1, sequence(1))}, api.ErrFit, 3})
	hold(t, "\x30\x06\x30\x01\x02\x00\x05\x00", 2, told{[]api.Event{
		enter(1, sequence(6)), enter(3, sequence(1)),
	}, api.ErrFit, 5})
}

func TestP9_1_WrongHeads(t *testing.T) {
	for _, c := range wrongHeads() {
		last := len(c.b) - 1
		for _, behind := range []string{"", "\x00", "\x05\x00", "\x30\x80\xff"} {
			hold(t, c.b+behind, 1, told{nil, c.err, last})
			for levels := 1; levels <= 4; levels++ {
				b, events := nest(levels, c.b+behind)
				hold(t, b, 9, told{events, c.err, len(b) - len(behind) - 1})
			}
			b := around("\x05\x00", "\x30\x00", c.b+behind)
			holdModel(t, b, 9, c.err, len(b)-len(behind)-1)
		}
	}
}

func TestP9_1_ErrorsInTheirOrder(t *testing.T) {
	for _, c := range wrongHeads() {
		last := len(c.b) - 1
		// No bytes are left: that goes ahead of the head's error.
		b := put(sequence(last)) + c.b
		hold(t, b, 9, told{[]api.Event{enter(1, sequence(last))}, api.ErrFit, len(b) - 1})
		// Just its bytes are left, and none can be open within: the head's error goes ahead of these.
		b = put(sequence(last+1)) + c.b
		hold(t, b, 1, told{[]api.Event{enter(1, sequence(last+1))}, c.err, len(b) - 1})
		// The whole element is there: that goes ahead of all.
		for n := range len(c.b) {
			hold(t, "\x05\x00"+c.b[n:], 1, told{[]api.Event{leaf(1, null()), end(1)}, api.ErrMore, 2})
		}
	}
	// Too long, and too deep.
	hold(t, "\x30\x03\x30\x02\x05\x00", 1, told{[]api.Event{enter(1, sequence(3))}, api.ErrFit, 3})
	hold(t, "\x30\x04\x30\x02\x05\x00", 1, told{[]api.Event{enter(1, sequence(4))}, api.ErrDepth, 3})
	hold(t, "\x30\x02\x30\x00", 1, told{[]api.Event{enter(1, sequence(2))}, api.ErrDepth, 3})
	// If none is open nothing is too long.
	hold(t, "\x30\x88\x1f\xff\xff\xff\xff\xff\xff\xff", 0, told{nil, api.ErrDepth, 9})
	hold(t, "\x30\x00", 0, told{nil, api.ErrDepth, 1})
}

func TestP9_1_GreatLengths(t *testing.T) {
	h := octets(api.MaxLen)
	b := put(h)
	hold(t, b+"ab", 0, told{[]api.Event{leaf(9, h), content(10, 'a'), content(11, 'b')}, api.ErrCut, 12})
	outer := sequence(api.MaxLen)
	// The inner ones' heads have ten bytes each, too.
	for _, n := range []int{1 << 31, 1 << 32, 1 << 40, api.MaxLen - 11, api.MaxLen - 10} {
		in := octets(n)
		b := put(outer) + put(in)
		last := len(b) - 1
		hold(t, b+"a", 1, told{[]api.Event{enter(9, outer), leaf(last, in), content(last+1, 'a')}, api.ErrCut, last + 2})
		in = sequence(n)
		b = put(outer) + put(in)
		hold(t, b+"\x05\x00", 2, told{[]api.Event{
			enter(9, outer), enter(last, in), leaf(last+2, null()), end(last + 2),
		}, api.ErrCut, last + 3})
	}
	for _, n := range []int{api.MaxLen - 9, api.MaxLen - 1, api.MaxLen} {
		for _, in := range []api.Head{octets(n), sequence(n)} {
			b := put(outer) + put(in)
			hold(t, b, 2, told{[]api.Event{enter(9, outer)}, api.ErrFit, 19})
			hold(t, b+"a", 2, told{[]api.Event{enter(9, outer)}, api.ErrFit, 19})
		}
	}
}

// wrongTexts are some for each error that the chapter names, with the bytes ahead of the wrong one.
func wrongTexts() []struct {
	ahead string
	b     byte
	err   api.Errno
} {
	return []struct {
		ahead string
		b     byte
		err   api.Errno
	}{
		{"\x1f", 0x80, api.ErrTag},
		{"\x30\x05\x05\x00\x1f", 0x1e, api.ErrTag},
		{"\x30", 0x80, api.ErrLength},
		{"\x30\x07\x04\x01a\x04\x81", 0x7f, api.ErrLength},
		{"\x30\x02\x02", 0x01, api.ErrFit},
		{"\x30\x01\x02", 0x00, api.ErrFit},
		{"\x30\x04\x05\x00\x30", 0x01, api.ErrFit},
		{"\x30\x06\x30\x04\x30\x02\x30", 0x00, api.ErrDepth},
		{"\x05\x00", 0x05, api.ErrMore},
		{"\x30\x00", 0x00, api.ErrMore},
		{"\x30\x03\x04\x01a", 0xff, api.ErrMore},
	}
}

func TestP9_1_AnErrorIsToldForEver(t *testing.T) {
	for _, c := range wrongTexts() {
		m := New(3)
		want := tell(c.ahead, 3)
		holdPushes(t, m, 0, c.ahead, want)
		done := want.err == api.OK
		holdPush(t, m, c.b, nil, c.err)
		holdState(t, m, done, len(c.ahead))
		// Neither what would be right, nor what would be another error, is looked at.
		holdError(t, m, everyByte(), c.err)
		holdError(t, m, "\x05\x00\x05\x00\x30\x03\x04\x01a\x30\x80\x1f\x80", c.err)
		holdError(t, m, strings.Repeat(c.ahead, 100), c.err)
		holdState(t, m, done, len(c.ahead))
	}
}

func TestP9_1_MachinesKnowNothingOfEachOther(t *testing.T) {
	first, second, third := New(2), New(0), New(64)
	holdPush(t, first, 0x30, nil, api.OK)
	holdPush(t, second, 0x30, nil, api.OK)
	holdPush(t, third, 0x04, nil, api.OK)
	holdPush(t, second, 0x00, nil, api.ErrDepth)
	holdPush(t, first, 0x02, []api.Event{enter(1, sequence(2))}, api.OK)
	holdPush(t, third, 0x01, []api.Event{leaf(1, octets(1))}, api.OK)
	holdPush(t, first, 0x05, nil, api.OK)
	holdPush(t, third, 0x00, []api.Event{content(2, 0), end(2)}, api.OK)
	holdPush(t, first, 0x00, []api.Event{leaf(3, null()), end(3), exit(3)}, api.OK)
	holdState(t, first, true, 4)
	holdState(t, second, false, 1)
	holdState(t, third, true, 3)
	holdState(t, New(2), false, 0)
}

func TestP9_1_KeepsNoMoreThanOneHead(t *testing.T) {
	// The longest bytes that aren't a whole head yet: five of the identifier, eight of the length.
	m := New(2)
	for _, b := range []byte("\xff\xff\xff\xff\x7f\x88\x1f\xff\xff\xff\xff\xff\xff\xff") {
		if len(m.came) > 13 {
			t.Fatalf("%d bytes are kept", len(m.came))
		}
		m.Push(b)
	}
	for range 1000 {
		if m.came != "" {
			t.Fatalf("%x is kept of a whole head", m.came)
		}
		m.Push(0x05)
		m.Push(0x00)
	}
	holdState(t, m, false, 2014)
}

// spoil changes all that a list holds, and writes into its spare room.
func spoil(list []api.Event) {
	all := list[:cap(list)]
	for i := range all {
		all[i] = api.Event{Kind: -1, At: -1, B: 0x55}
	}
}

func TestP9_1_WhatIsAnsweredIsNew(t *testing.T) {
	b := "\x30\x09\x30\x05\x30\x03\x04\x01a\x05\x00"
	want := tell(b, 3)
	m, c := New(3), New(3)
	var lists [][]api.Event
	for i := range len(b) {
		events, _ := m.Push(b[i])
		again, _ := c.Push(b[i])
		// The one list is spoilt, the other one stays, and so do all those ahead of it.
		spoil(events)
		lists = append(lists, again)
	}
	for i, list := range lists {
		if !slices.Equal(list, want.of(i)) {
			t.Errorf("byte %d: %v", i, list)
		}
	}
	first, _, _ := Whole(b, 3)
	second, _, _ := Whole(b, 3)
	spoil(first)
	if !slices.Equal(second, want.events) {
		t.Errorf("Whole's events became %v", second)
	}
}

func TestP9_2_DoneAndAt(t *testing.T) {
	for _, b := range []string{"\x05\x00", "\x04\x02ab", "\x30\x00", "\x30\x04\x30\x02\x05\x00", "\x9f\x1f\x81\x80" + strings.Repeat("a", 128)} {
		m := New(2)
		holdState(t, m, false, 0)
		for i := range len(b) {
			m.Push(b[i])
			holdState(t, m, i == len(b)-1, i+1)
		}
		// A byte that brings an error isn't counted, and the element is there still.
		for range 3 {
			holdPush(t, m, 0x05, nil, api.ErrMore)
			holdState(t, m, true, len(b))
		}
	}
}

func TestP9_2_NotDoneBehindAnError(t *testing.T) {
	for _, depth := range []int{-1, 0} {
		m := New(depth)
		holdPush(t, m, 0x30, nil, api.OK)
		holdPush(t, m, 0x00, nil, api.ErrDepth)
		holdState(t, m, false, 1)
	}
	for _, c := range wrongHeads() {
		m := New(2)
		last := len(c.b) - 1
		for i := range last {
			holdPush(t, m, c.b[i], nil, api.OK)
		}
		holdPush(t, m, c.b[last], nil, c.err)
		holdState(t, m, false, last)
	}
}

// pushed is a machine to which a text came.
func pushed(t *testing.T, b string, depth int) *Machine {
	t.Helper()
	m := New(depth)
	holdPushes(t, m, 0, b, tell(b, depth))
	return m
}

// copied is texts that are long enough to be copied at many places: within heads, contents and elements.
func copied() []string {
	return []string{
		"\x04\x05abcde",
		"\x9f\x81\x00\x81\x80" + strings.Repeat("a", 128),
		"\x30\x0b\x31\x07\xa0\x03\x04\x01\x09\x05\x00\x05\x00",
		"\x30\x0d\x02\x01\x07\x31\x00\x30\x04\x04\x02\x01\x02\x05\x00",
		"\x30\x82\x01\x04\x04\x82\x01\x00" + everyByte(),
	}
}

func TestP9_2_EitherOneGoesOn(t *testing.T) {
	for _, whole := range copied() {
		for n := range len(whole) + 1 {
			for _, behind := range []string{whole[n:], "\x05\x00", "\x00\x00\x00", "\x30\x80", "\x1f\x80", "\xff\xff\xff\xff\xff\xff"} {
				b, other := whole[:n]+behind, whole+"\x05"
				// The copy goes on first, then the one that was copied; and the other way round.
				m := pushed(t, whole[:n], 3)
				c := m.Copy()
				holdPushes(t, c, n, b, tell(b, 3))
				holdPushes(t, m, n, other, tell(other, 3))
				m = pushed(t, whole[:n], 3)
				c = m.Copy()
				holdPushes(t, m, n, b, tell(b, 3))
				holdPushes(t, c, n, other, tell(other, 3))
			}
		}
	}
}

func TestP9_2_BothGoOnByTurns(t *testing.T) {
	// Behind 30 82, within the head: 01 00 and 02 00; then, within the contents.
	m := pushed(t, "\x30\x82", 2)
	c := m.Copy()
	holdPush(t, m, 0x01, nil, api.OK)
	holdPush(t, c, 0x02, nil, api.OK)
	holdPush(t, c, 0x00, []api.Event{enter(3, sequence(512))}, api.OK)
	holdPush(t, m, 0x00, []api.Event{enter(3, sequence(256))}, api.OK)
	m = pushed(t, "\x30\x04\x04\x02a", 2)
	c = m.Copy()
	holdPush(t, c, 'b', []api.Event{content(5, 'b'), end(5), exit(5)}, api.OK)
	holdState(t, m, false, 5)
	holdPush(t, c, 'c', nil, api.ErrMore)
	holdPush(t, m, 'd', []api.Event{content(5, 'd'), end(5), exit(5)}, api.OK)
	holdState(t, m, true, 6)
	holdState(t, c, true, 6)
}

func TestP9_2_ACopyOfOneThatIsWrong(t *testing.T) {
	for _, w := range wrongTexts() {
		m := pushed(t, w.ahead, 3)
		c := m.Copy()
		holdPush(t, m, w.b, nil, w.err)
		// The copy knows nothing of that; a copy made now does.
		again := m.Copy()
		holdState(t, again, m.Done(), m.At())
		holdError(t, again, "\x05\x00"+everyByte(), w.err)
		holdState(t, c, m.Done(), len(w.ahead))
		holdPush(t, c, w.b, nil, w.err)
	}
}

func TestP9_2_ACopyHasTheSameDepth(t *testing.T) {
	for _, d := range depths() {
		b, events := nest(d[1]+1, "")
		last := events[d[1]].At
		m := New(d[0])
		for i := range last {
			m.Push(b[i])
			m = m.Copy()
		}
		holdPush(t, m.Copy(), b[last], nil, api.ErrDepth)
		holdPush(t, m, b[last], nil, api.ErrDepth)
	}
}

// holdWays goes on with a copy by each of the bytes, and so on; none of the copies may touch what it was copied from.
func holdWays(t *testing.T, m *Machine, came string, depth, more int) {
	want := tell(came, depth)
	holdState(t, m, want.done(len(came)), min(len(came), want.at))
	if more > 0 {
		for _, b := range []byte("\x00\x02\x04\x1f\x30\x81") {
			next := came + string([]byte{b})
			c := m.Copy()
			holdLast(t, c, next, depth)
			holdWays(t, c, next, depth, more-1)
		}
	}
	// All those copies went on: the one they come of is as it was.
	holdState(t, m, want.done(len(came)), min(len(came), want.at))
	holdLast(t, m, came+"\x01", depth)
}

// holdLast compares what Push tells of a text's last byte with what it must.
func holdLast(t *testing.T, m *Machine, b string, depth int) {
	want := tell(b, depth)
	last := len(b) - 1
	if want.at <= last {
		holdPush(t, m, b[last], nil, want.err)
		return
	}
	holdPush(t, m, b[last], want.of(last), api.OK)
}

func TestP9_2_EveryShortTextByCopies(t *testing.T) {
	for _, depth := range []int{0, 1, 2, 64} {
		holdWays(t, New(depth), "", depth, 6)
	}
}

func TestP9_3_EachResult(t *testing.T) {
	for _, c := range []struct {
		b      string
		depth  int
		events int
		err    api.Errno
		at     int
	}{
		{"", 9, 0, api.ErrCut, 0},
		{"\x30", 9, 0, api.ErrCut, 1},
		{"\x30\x00", 9, 2, api.OK, 2},
		{"\x30\x00\x00", 9, 2, api.ErrMore, 2},
		{"\x30\x00\x30\x80", 9, 2, api.ErrMore, 2},
		{"\x30\x02\x05\x00", 1, 4, api.OK, 4},
		{"\x30\x02\x05", 1, 1, api.ErrCut, 3},
		{"\x30\x02\x05\x01", 1, 1, api.ErrFit, 3},
		{"\x30\x02\x05\x80", 1, 1, api.ErrLength, 3},
		{"\x30\x02\x1f\x80", 1, 1, api.ErrTag, 3},
		{"\x30\x02\x30\x00", 1, 1, api.ErrDepth, 3},
		{"\x30\x04\x04\x02a", 1, 3, api.ErrCut, 5},
		{"\x30\x04\x04\x02ab", 1, 6, api.OK, 6},
		{"\x30\x04\x04\x02abc", 1, 6, api.ErrMore, 6},
	} {
		events, err, at := Whole(c.b, c.depth)
		if len(events) != c.events || err != c.err || at != c.at {
			t.Errorf("Whole(%x, %d) = %v, error %d, %d, want %d events, error %d, %d", c.b, c.depth, events, err, at, c.events, c.err, c.at)
		}
	}
}

// rights are whole elements, each with the least depth that it takes.
func rights() map[string]int {
	list := map[string]int{"\x05\x00": 0, "\x04\x05abcde": 0, "\x04\x81\x80" + strings.Repeat("\x30", 128): 0, "\x30\x00": 1}
	for _, b := range copied()[2:] {
		list[b] = 3
	}
	for levels := range 65 {
		b, _ := nest(levels, "\x9f\x1f\x01\xff")
		list[b] = levels
	}
	return list
}

func TestP9_3_CutOffAtEachPlace(t *testing.T) {
	for b, depth := range rights() {
		all := tell(b, depth)
		hold(t, b, depth, told{all.events, api.OK, len(b)})
		for n := range len(b) {
			hold(t, b[:n], depth, told{all.events[:all.from(n)], api.ErrCut, n})
		}
	}
}

func TestP9_3_BytesBehindAWholeElement(t *testing.T) {
	for b, depth := range rights() {
		events := tell(b, depth).events
		for _, behind := range []string{"\x00", "\x05\x00", "\x1f\x80", "\x30\x80", "\x30", b} {
			hold(t, b+behind, depth, told{events, api.ErrMore, len(b)})
		}
	}
}

// everyText goes to each text of at most so many bytes, all of them of those given.
func everyText(bytes string, most int, visit func(b string)) {
	var from func(b string)
	from = func(b string) {
		visit(b)
		if len(b) == most {
			return
		}
		for i := range len(bytes) {
			from(b + bytes[i:i+1])
		}
	}
	from("")
}

func TestP9_1_P9_3_EveryShortText(t *testing.T) {
	for _, depth := range []int{0, 1, 2, 64} {
		visit := func(b string) { hold(t, b, depth, tell(b, depth)) }
		everyText(everyByte(), 2, visit)
		everyText("\x00\x01\x02\x03\x04\x1f\x30\x80\x81", 5, visit)
		everyText("\x00\x02\x04\x30", 7, visit)
		everyText("\x01\x02\x30", 9, visit)
	}
}

// dice gives numbers that go here and there, the same in every run.
type dice uint64

// below is a number from 0 to n - 1.
func (d *dice) below(n int) int {
	*d = *d*6364136223846793005 + 1442695040888963407
	return int(uint64(*d) >> 33 % uint64(n))
}

// bytes is so many of them.
func (d *dice) bytes(n int) string {
	b := make([]byte, n)
	for i := range b {
		b[i] = byte(d.below(256))
	}
	return string(b)
}

// head is some head of so many bytes of content.
func (d *dice) head(cons bool, n int) api.Head {
	tags := []int{0, 2, 4, 16, 17, 30, 31, 127, 128, 1 << 14, api.MaxTag}
	return api.Head{Class: d.below(4), Tag: tags[d.below(len(tags))], Cons: cons, Len: n}
}

// element is some element, within which at most so many are one within the other.
func (d *dice) element(levels int) string {
	if levels == 0 || d.below(4) == 0 {
		// Few long ones: a change ought to hit heads, too.
		n := d.below(5)
		if d.below(40) == 0 {
			n = []int{127, 128, 255, 256}[d.below(4)]
		}
		return put(d.head(false, n)) + d.bytes(n)
	}
	in := ""
	for range d.below(5) {
		in += d.element(levels - 1 - d.below(min(levels, 2)))
	}
	return put(d.head(true, len(in))) + in
}

// long is some element that has many within it, side by side and in each other.
func (d *dice) long(levels int) string {
	in := ""
	for range 3 + d.below(8) {
		in += d.element(levels - 1)
	}
	return put(d.head(true, len(in))) + in
}

// change is a text in which a byte is another one, lacks, or is one too many; or the end lacks.
func (d *dice) change(b string) string {
	at := d.below(len(b))
	edge := "\x00\x01\x02\x1f\x30\x7f\x80\x81\x82\xff"
	other := edge[d.below(len(edge)):][:1]
	switch d.below(6) {
	case 0:
		return b[:at]
	case 1:
		return b[:at] + b[at+1:]
	case 2:
		return b[:at] + other + b[at:]
	case 3:
		return b[:at] + other + b[at+1:]
	}
	// One more or one less: most often a length that is no longer right.
	return b[:at] + string([]byte{b[at] + byte(2*d.below(2)) - 1}) + b[at+1:]
}

func TestP9_1_P9_3_LongTexts(t *testing.T) {
	came := map[api.Errno]int{}
	d := dice(1)
	for i := range 400 {
		levels := 1 + i%9
		b := d.long(levels)
		for _, depth := range []int{levels, 64} {
			holdModel(t, b, depth, api.OK, len(b))
		}
		for range 20 {
			changed := d.change(b)
			for _, depth := range []int{levels / 2, levels, 64} {
				want := tell(changed, depth)
				hold(t, changed, depth, want)
				came[want.err]++
			}
		}
	}
	// The texts must have come to all that there is.
	for _, err := range []api.Errno{api.OK, api.ErrCut, api.ErrTag, api.ErrLength, api.ErrFit, api.ErrMore, api.ErrDepth} {
		if came[err] == 0 {
			t.Errorf("error %d never came", err)
		}
	}
}

func TestP9_2_LongTextsWithCopies(t *testing.T) {
	d := dice(2)
	for i := range 200 {
		levels := 1 + i%9
		b := d.long(levels)
		for range 10 {
			n := d.below(len(b) + 1)
			changed, more := b[:n]+d.change(b[n:]+"\x05"), b+"\x05"
			m := pushed(t, b[:n], levels)
			c := m.Copy()
			if d.below(2) == 0 {
				m, c = c, m
			}
			holdPushes(t, c, n, changed, tell(changed, levels))
			holdPushes(t, m, n, more, tell(more, levels))
		}
	}
}

func TestP9_4_WhatStandsBehindPlaysNoPart(t *testing.T) {
	d := dice(3)
	for i := range 100 {
		levels := 1 + i%9
		b := d.long(levels)
		whole, _, _ := Whole(b, levels)
		for range 20 {
			n := d.below(len(b))
			ahead, _, _ := Whole(b[:n], levels)
			for _, behind := range []string{d.bytes(1), d.bytes(5), "\x30\x80", "\xff\xff\xff\xff\xff\xff"} {
				events, _, at := Whole(b[:n]+behind, levels)
				// The same came of the bytes ahead, and they are right, as they are in the whole text.
				if at < n || len(events) < len(ahead) || !slices.Equal(events[:len(ahead)], ahead) || !slices.Equal(whole[:len(ahead)], ahead) {
					t.Fatalf("%x, and behind it %x: %v, at %d", b[:n], behind, events, at)
				}
				if len(events) > len(ahead) && events[len(ahead)].At < n {
					t.Fatalf("%x, and behind it %x: %v is told too late", b[:n], behind, events[len(ahead)])
				}
			}
		}
	}
}

func TestP9_4_AnErrorHangsOnNothingBehindIt(t *testing.T) {
	d := dice(4)
	for i := range 300 {
		levels := 1 + i%5
		b := d.change(d.long(levels))
		events, err, at := Whole(b, levels)
		if err == api.OK || err == api.ErrCut {
			continue
		}
		for _, behind := range []string{"", d.bytes(1), d.bytes(9), b} {
			hold(t, b[:at+1]+behind, levels, told{events, err, at})
		}
	}
}

// holdOver sees that each element that begins is over once, the inner ones ahead of the outer ones, and that the bytes
// are all within primitive ones.
func holdOver(t *testing.T, b string, events []api.Event) {
	t.Helper()
	var open []api.Event
	at := 0
	for i, e := range events {
		if e.At < at || e.At >= len(b) {
			t.Fatalf("%x: %v behind %d", b, e, at)
		}
		at = e.At
		switch e.Kind {
		case api.EEnter, api.ELeaf:
			if len(open) > 0 && open[len(open)-1].Kind != api.EEnter || len(open) == 0 && i > 0 {
				t.Fatalf("%x: %v begins within %v", b, e, open)
			}
			open = append(open, e)
			continue
		case api.EByte:
			if len(open) == 0 || open[len(open)-1].Kind != api.ELeaf || b[e.At] != e.B {
				t.Fatalf("%x: %v within %v", b, e, open)
			}
			continue
		}
		begun := api.ELeaf
		if e.Kind == api.EExit {
			begun = api.EEnter
		}
		if len(open) == 0 || open[len(open)-1].Kind != begun || open[len(open)-1].At+open[len(open)-1].Head.Len != e.At {
			t.Fatalf("%x: %v ends %v", b, e, open)
		}
		open = open[:len(open)-1]
	}
	if len(open) > 0 || at != len(b)-1 {
		t.Fatalf("%x: %v aren't over", b, open)
	}
}

func TestP9_4_EachElementIsOverOnce(t *testing.T) {
	d := dice(5)
	for i := range 500 {
		b := d.long(1 + i%9)
		events, err, _ := Whole(b, 9)
		if err != api.OK {
			t.Fatalf("%x: error %d", b, err)
		}
		holdOver(t, b, events)
	}
	for b, depth := range rights() {
		events, _, _ := Whole(b, depth)
		holdOver(t, b, events)
	}
}

// again is the text that events tell: the heads and the contents, one behind the other.
func again(events []api.Event) string {
	var b strings.Builder
	for _, e := range events {
		switch e.Kind {
		case api.EEnter, api.ELeaf:
			b.WriteString(put(e.Head))
		case api.EByte:
			b.WriteByte(e.B)
		}
	}
	return b.String()
}

// isElement tells whether a text is just one element, as DOC.md's words say: a head, and a content as long as that says,
// which is elements again if it is a constructed one.
func isElement(b string) bool {
	h, next, err := head.Get(b, 0)
	if err != api.OK || len(b)-next != h.Len {
		return false
	}
	return !h.Cons || areElements(b[next:])
}

// areElements tells whether a text is elements, one behind the other, or nothing.
func areElements(b string) bool {
	for b != "" {
		h, next, err := head.Get(b, 0)
		if err != api.OK || len(b)-next < h.Len || !isElement(b[:next+h.Len]) {
			return false
		}
		b = b[next+h.Len:]
	}
	return true
}

// holdElement sees that Whole tells OK of a text just if it is one element; it answers whether it is.
func holdElement(t *testing.T, b string) bool {
	t.Helper()
	events, err, _ := Whole(b, 64)
	is := isElement(b)
	if is != (err == api.OK) {
		t.Fatalf("Whole(%x, 64): error %d; is it an element: %t", b, err, is)
	}
	if is && again(events) != b {
		t.Fatalf("%x is told as %x", b, again(events))
	}
	return is
}

func TestP9_4_JustOneElement(t *testing.T) {
	count := 0
	visit := func(b string) {
		if holdElement(t, b) {
			count++
		}
	}
	everyText(everyByte(), 2, visit)
	everyText("\x00\x01\x02\x03\x04\x1f\x30\x81", 6, visit)
	if count < 1000 {
		t.Errorf("only %d of the short texts are elements", count)
	}
	d := dice(6)
	for i := range 200 {
		b := d.long(1 + i%9)
		if !holdElement(t, b) {
			t.Fatalf("%x isn't an element", b)
		}
		for _, other := range []string{b[:len(b)-1], b[1:], b + "\x00", b + b, "\x30" + b, d.change(b), d.change(b), d.change(b)} {
			holdElement(t, other)
		}
	}
}
