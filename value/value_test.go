package value

import (
	"math"
	"strings"
	"testing"

	"gantlet/api"
	"gantlet/event"
)

// holdPush compares what Push tells of an event with what it must. It ends the test, because most tests hold thousands
// of events; Helper is called only then, because it takes far longer than what is compared.
func holdPush(t *testing.T, c *Checker, e api.Event, wrong bool) {
	want := api.OK
	if wrong {
		want = api.ErrValue
	}
	if err := c.Push(e); err != want {
		t.Helper()
		t.Fatalf("Push(%v): error %d, want %d", e, err, want)
	}
}

// holdEvents sees that each of the events is right, but those from the first one of the wrong place on, if there is one.
func holdEvents(t *testing.T, c *Checker, events []api.Event, want told) {
	wrong := false
	for _, e := range events {
		wrong = wrong || want.err == api.ErrValue && e.At >= want.at
		holdPush(t, c, e, wrong)
	}
	if wrong != (want.err == api.ErrValue) {
		t.Helper()
		t.Fatalf("no event at %d in %v", want.at, events)
	}
}

// rightEvents are those of an element that has something of each kind.
func rightEvents() []api.Event {
	events, _, _ := event.Whole("\x30\x07\x02\x01\x07\x31\x00\x80\x00", 9)
	return events
}

// byEvents is what P15.2 says, with its own words, of a text of which event.Whole told these.
func byEvents(events []api.Event, err api.Errno, at int) told {
	c := New()
	for _, e := range events {
		if err := c.Push(e); err != api.OK {
			return told{err, e.At}
		}
	}
	return told{err, at}
}

// hold compares what is told of a text, at once and event by event, with what must be.
func hold(t *testing.T, b string, depth int, want told) {
	if err, at := Whole(b, depth); err != want.err || at != want.at {
		t.Helper()
		t.Fatalf("Whole(%x, %d) = error %d, %d, want %d, %d", b, depth, err, at, want.err, want.at)
	}
	events, err, at := event.Whole(b, depth)
	if got := byEvents(events, err, at); got != want {
		t.Helper()
		t.Fatalf("the events of %x, depth %d, tell error %d at %d, want %d, %d", b, depth, got.err, got.at, want.err, want.at)
	}
	c := New()
	holdEvents(t, c, events, want)
	if want.err == api.ErrValue {
		// For ever, whatever comes.
		holdEvents(t, c, append(rightEvents(), api.Event{}), told{api.ErrValue, 0})
	}
}

// holdModel compares what is told of a text with the model, which must tell what is written out.
func holdModel(t *testing.T, b string, depth int, err api.Errno, at int) {
	t.Helper()
	want := tell(b, depth)
	if want != (told{err, at}) {
		t.Fatalf("the model tells error %d at %d of %x, depth %d, want %d, %d", want.err, want.at, b, depth, err, at)
	}
	hold(t, b, depth, want)
}

func TestP15_1_ExamplesOfTheChapter(t *testing.T) {
	holdModel(t, "\x01\x01\x05", 64, api.ErrValue, 2)
	holdModel(t, "\x24\x00", 64, api.ErrValue, 1)
	holdModel(t, "\x10\x00", 64, api.ErrValue, 1)
	// Those of the whole.
	holdModel(t, "\x30\x80", 64, api.ErrLength, 1)
	holdModel(t, "\x30\x03\x02\x01\x07", 64, api.OK, 5)
	holdModel(t, "\x02\x02\x00\x05", 64, api.ErrValue, 3)
	holdModel(t, leaf(api.TUtc, "230229000000Z"), 64, api.ErrValue, 2+5)
}

func TestP15_1_NothingCame(t *testing.T) {
	// Each kind of first event, right and wrong.
	holdPush(t, New(), api.Event{Kind: api.EEnter, At: 1, Head: api.Head{Tag: api.TSequence, Cons: true}}, false)
	holdPush(t, New(), api.Event{Kind: api.ELeaf, At: 1, Head: api.Head{Tag: api.TNull}}, false)
	holdPush(t, New(), api.Event{Kind: api.EEnter, At: 1, Head: api.Head{Tag: api.TOctets, Cons: true}}, true)
	holdPush(t, New(), api.Event{Kind: api.ELeaf, At: 1, Head: api.Head{Tag: api.TSequence}}, true)
}

// begins compares what is told of an element's beginning, with a head like that, with what must be.
func begins(t *testing.T, h api.Head, wrong bool) {
	t.Helper()
	kind := api.ELeaf
	if h.Cons {
		kind = api.EEnter
	}
	// Where it stands plays no part.
	for _, at := range []int{1, 0, 1 << 28} {
		holdPush(t, New(), api.Event{Kind: kind, At: at, Head: h}, wrong)
	}
	b := put(h)
	want := told{api.ErrCut, len(b)}
	if wrong {
		want = told{api.ErrValue, len(b) - 1}
	} else if h.Len == 0 {
		want.err = api.OK
	}
	hold(t, b, 1, want)
}

func TestP15_1_ConstructedElements(t *testing.T) {
	for _, tag := range universalTags() {
		for _, n := range []int{0, 1, 2, 13, 127, 128, 1 << 16, api.MaxLen} {
			begins(t, api.Head{Tag: tag, Cons: true, Len: n}, tag != 16 && tag != 17)
		}
	}
}

// lengths are the least and the greatest number of bytes that a primitive element's content can have; of a universal tag
// that has none, none.
func lengths(tag int) (int, int) {
	switch tag {
	case 0, 16, 17:
		return 1, 0
	case 1:
		return 1, 1
	case 2, 3, 6, 10:
		return 1, api.MaxLen
	case 5:
		return 0, 0
	case 23:
		return 13, 13
	case 24:
		return 15, 15
	}
	return 0, api.MaxLen
}

func TestP15_1_PrimitiveElements(t *testing.T) {
	for _, tag := range universalTags() {
		least, most := lengths(tag)
		for n := range 40 {
			begins(t, api.Head{Tag: tag, Len: n}, n < least || n > most)
		}
		for _, n := range []int{127, 128, 1 << 28, api.MaxLen - 1, api.MaxLen} {
			begins(t, api.Head{Tag: tag, Len: n}, n > most)
		}
		// Numbers whose lowest bits are those of a length that can be.
		for _, n := range []int{256, 256 + 1, 256 + 13, 256 + 15, 1 << 16, 1<<16 + 1, 1 << 32, 1<<32 + 1, 1<<32 + 13, 1<<32 + 15} {
			begins(t, api.Head{Tag: tag, Len: n}, n > most)
		}
	}
}

func TestP15_1_ShortestAndLongestContents(t *testing.T) {
	d := dice(1)
	for _, tag := range append(layerTags(), api.TOctets, 31) {
		least, most := lengths(tag)
		for _, n := range []int{least - 1, least, least + 1, most, most + 1} {
			if n < 0 || n > 99 {
				continue
			}
			b := put(api.Head{Tag: tag, Len: n})
			if n < least || n > most {
				holdModel(t, b+d.bytes(n), 0, api.ErrValue, len(b)-1)
				continue
			}
			for range 40 {
				holdModel(t, b+d.fill(tag, n), 0, api.OK, len(b)+n)
			}
		}
	}
}

func TestP15_1_LeavesWithoutATag(t *testing.T) {
	for _, tag := range []int{0, api.TSequence, api.TSet} {
		for _, content := range []string{"", "\x00", "ab", "\x05\x00", "\x30\x00"} {
			b := leaf(tag, content)
			holdModel(t, b, 64, api.ErrValue, 1)
			holdModel(t, sequence("\x05\x00", b), 64, api.ErrValue, 5)
			holdModel(t, around(api.CUniversal, api.TSet, b), 64, api.ErrValue, 3)
		}
	}
	holdModel(t, "\x20\x00", 64, api.ErrValue, 1)
}

func TestP15_1_ConstructedStrings(t *testing.T) {
	for _, tag := range append(layerTags(), api.TOctets, 18, 20, 30) {
		b := oneByte(0x20 + tag)
		holdModel(t, b+"\x00", 64, api.ErrValue, 1)
		holdModel(t, b+"\x02\x05\x00", 64, api.ErrValue, 1)
		// Parts of the same tag, as other encodings have them.
		part := leaf(tag, "")
		holdModel(t, around(api.CUniversal, tag, part, part), 64, api.ErrValue, 1)
		holdModel(t, sequence(around(api.CUniversal, tag, part)), 64, api.ErrValue, 3)
	}
}

// holdTexts holds a spelling's element by itself, and within others, with elements ahead of it and behind it.
func holdTexts(t *testing.T, s spelling) {
	t.Helper()
	b, want := s.element(0)
	holdModel(t, b, 0, want.err, want.at)
	for _, in := range []struct {
		class, tag    int
		ahead, behind string
	}{
		{api.CUniversal, api.TSequence, "", ""},
		{api.CUniversal, api.TSet, "", ""},
		{api.CContext, 0, "", "\x05\x00"},
		{api.CUniversal, api.TSequence, "\x05\x00", "\x02\x01\x07"},
		{api.CUniversal, api.TSet, "\x0c\x03abc", "\x01\x01\x05"},
		{api.CPrivate, 99, "\x81\x02\x30\x80", "\x24\x00"},
		{api.CUniversal, api.TSequence, "\x30\x00\x31\x02\x05\x00", "\x30\x00"},
	} {
		all := around(in.class, in.tag, in.ahead, b, in.behind)
		ahead := len(all) - len(in.behind) - len(b)
		_, want := s.element(ahead)
		if want.err == api.OK {
			// What stands behind may be wrong itself.
			want = tell(all, 2)
			if want.at < ahead+len(b) {
				t.Fatalf("the model tells error %d at %d of %x", want.err, want.at, all)
			}
		}
		holdModel(t, all, 2, want.err, want.at)
		within := sequence("\x02\x01\x00", all)
		holdModel(t, within, 64, want.err, want.at+len(within)-len(all))
	}
}

func TestP15_1_P15_2_Spellings(t *testing.T) {
	for _, s := range spellings() {
		holdTexts(t, s)
	}
}

func TestP15_1_SpellingsCutOff(t *testing.T) {
	for _, s := range spellings() {
		b, want := s.element(0)
		for n := range b {
			if want.err == api.ErrValue && n > want.at {
				holdModel(t, b[:n], 9, api.ErrValue, want.at)
				continue
			}
			holdModel(t, b[:n], 9, api.ErrCut, n)
		}
		all := sequence(b, "\x05\x00")
		ahead := len(all) - 2 - len(b)
		for n := range b {
			if want.err == api.ErrValue && n > want.at {
				holdModel(t, all[:ahead+n], 9, api.ErrValue, ahead+want.at)
				continue
			}
			holdModel(t, all[:ahead+n], 9, api.ErrCut, ahead+n)
		}
	}
}

func TestP15_1_OtherClassesHaveAnyContents(t *testing.T) {
	for class := api.CApp; class <= api.CPrivate; class++ {
		for _, tag := range universalTags() {
			for _, n := range []int{0, 1, 2, 13, 15, 300, api.MaxLen} {
				begins(t, api.Head{Class: class, Tag: tag, Len: n}, false)
				begins(t, api.Head{Class: class, Tag: tag, Cons: true, Len: n}, false)
			}
			b := put(api.Head{Class: class, Tag: tag, Len: 256}) + everyByte()
			holdModel(t, b, 0, api.OK, len(b))
		}
		for _, s := range spellings() {
			b := put(api.Head{Class: class, Tag: s.tag, Len: len(s.b)}) + s.b
			holdModel(t, b, 0, api.OK, len(b))
			// What is in a constructed one is looked at again.
			inner, want := s.element(0)
			all := around(class, s.tag, inner)
			holdModel(t, all, 1, want.err, want.at+len(all)-len(inner))
		}
	}
}

func TestP15_1_AContentIsOfItsOwnElement(t *testing.T) {
	// The one ahead, and how far it came, plays no part for the one behind: of each two tags.
	d := dice(2)
	for _, s := range spellings() {
		b, _ := s.element(0)
		for _, tag := range append(layerTags(), api.TOctets) {
			for _, ahead := range []string{leaf(tag, d.content(tag)), put(api.Head{Class: api.CContext, Tag: tag, Len: 1}) + "\xff"} {
				all := sequence(ahead, b)
				_, want := s.element(len(all) - len(b))
				holdModel(t, all, 1, want.err, want.at)
			}
		}
	}
}

func TestP15_1_EveryByteBehindEach(t *testing.T) {
	edges := "\x00\x01\x05\x07\x08\x7f\x80\x90\x9f\xa0\xbf\xc0\xc2\xe0\xed\xf0\xf4\xf5\xff0129Za@*"
	for _, tag := range append(layerTags(), api.TOctets, 0, 16, 17, 20) {
		for n := 1; n <= 3; n++ {
			h := put(api.Head{Tag: tag, Len: n})
			for first := range 256 {
				b := h + oneByte(first)
				hold(t, b, 0, tell(b, 0))
				for i := range len(edges) {
					b := h + oneByte(first) + edges[i:i+1]
					hold(t, b, 0, tell(b, 0))
					hold(t, b+"\x80", 0, tell(b+"\x80", 0))
				}
			}
		}
	}
}

func TestP15_1_EachByteOfATime(t *testing.T) {
	for _, b := range []string{
		leaf(api.TUtc, "240229235959Z"), leaf(api.TUtc, "501130100000Z"),
		leaf(api.TGeneralized, "20500101000000Z"), leaf(api.TGeneralized, "99991231235959Z"),
	} {
		for at := 2; at < len(b); at++ {
			for c := range 256 {
				changed := b[:at] + oneByte(c) + b[at+1:]
				hold(t, changed, 0, tell(changed, 0))
			}
		}
	}
}

func TestP15_1_ErrValueIsForEver(t *testing.T) {
	right := rightEvents()
	for _, s := range spellings() {
		b, want := s.element(0)
		if want.err == api.OK {
			continue
		}
		events, _, _ := event.Whole(b, 9)
		c := New()
		holdEvents(t, c, events, want)
		for range 3 {
			holdEvents(t, c, right, told{api.ErrValue, 0})
			holdEvents(t, c, events, told{api.ErrValue, 0})
		}
		// So it is of a copy, but not of another one.
		holdEvents(t, c.Copy(), right, told{api.ErrValue, 0})
		holdEvents(t, New(), right, told{})
	}
}

func TestP15_1_ACopyGoesOnByItself(t *testing.T) {
	// Within a content, and behind its head: one of them goes on rightly, and the other one doesn't.
	for _, c := range []struct{ ahead, right, wrong string }{
		{"\x01\x01", "\xff", "\xfe"},
		{"\x02\x02\x00", "\x80", "\x7f"},
		{"\x0a\x02\xff", "\x7f", "\x80"},
		{"\x03\x02\x05", "\xa0", "\xb0"},
		{"\x03\x02", "\x05\xa0", "\x08\xa0"},
		{"\x06\x03\x2a", "\x86\x48", "\x80\x48"},
		{"\x0c\x03\xe0", "\xa0\x80", "\x80\x80"},
		{"\x0c\x02\xc3", "\xa9", "\x28"},
		{"\x13\x02a", "b", "@"},
		{"\x16\x02a", "@", "\x80"},
		{"\x17\x0d24022", "9235959Z", "x235959Z"},
		{"\x17\x0d23022", "8235959Z", "9235959Z"},
		{"\x18\x0f20", "500101000000Z", "490101000000Z"},
	} {
		one, two := pushed(t, c.ahead), pushed(t, c.ahead)
		other, another := one.Copy(), two.Copy()
		right, _, _ := event.Whole(c.ahead+c.right, 9)
		wrong, _, _ := event.Whole(c.ahead+c.wrong, 9)
		came, _, _ := event.Whole(c.ahead, 9)
		at := tell(c.ahead+c.wrong, 9)
		// The copy goes on first, and then the one that it was made of; and the other way round.
		holdEvents(t, other, wrong[len(came):], at)
		holdEvents(t, one, right[len(came):], told{})
		holdEvents(t, two, wrong[len(came):], at)
		holdEvents(t, another, right[len(came):], told{})
		// Behind those too: what is wrong of one isn't of the other.
		holdEvents(t, one, rightEvents(), told{})
		holdEvents(t, another, rightEvents(), told{})
		holdEvents(t, two.Copy(), rightEvents(), told{api.ErrValue, 0})
		holdEvents(t, other, rightEvents(), told{api.ErrValue, 0})
	}
}

// pushed is a checker to which a text's events came, none of which is wrong.
func pushed(t *testing.T, b string) *Checker {
	t.Helper()
	events, _, _ := event.Whole(b, 64)
	c := New()
	holdEvents(t, c, events, told{})
	return c
}

func TestP15_1_ACopyTakesOtherContents(t *testing.T) {
	// The copy begins another element, while the one that it was made of is within its own.
	c := pushed(t, "\x30\x20\x0c\x02")
	other := c.Copy()
	holdPush(t, other, api.Event{Kind: api.EByte, At: 4, B: 'a'}, false)
	holdPush(t, other, api.Event{Kind: api.EByte, At: 5, B: 'b'}, false)
	holdPush(t, other, api.Event{Kind: api.EEnd, At: 5}, false)
	holdPush(t, other, api.Event{Kind: api.ELeaf, At: 7, Head: api.Head{Tag: api.TBool, Len: 1}}, false)
	holdPush(t, c, api.Event{Kind: api.EByte, At: 4, B: 0xc3}, false)
	holdPush(t, c, api.Event{Kind: api.EByte, At: 5, B: 0xa9}, false)
	holdPush(t, c, api.Event{Kind: api.EEnd, At: 5}, false)
	holdPush(t, other, api.Event{Kind: api.EByte, At: 8, B: 0xa9}, true)
	holdPush(t, c, api.Event{Kind: api.ELeaf, At: 7, Head: api.Head{Class: api.CContext, Tag: api.TBool, Len: 1}}, false)
	holdPush(t, c, api.Event{Kind: api.EByte, At: 8, B: 0xa9}, false)
}

// holdWays goes on with a copy by each of the bytes, and so on; none of the copies may touch what it was copied from.
func holdWays(t *testing.T, m *event.Machine, c *Checker, came string, more int) {
	if more == 0 {
		return
	}
	for _, b := range []byte("\x00\x01\x02\x05\x0c\x24\x30\x80\xa9\xc3") {
		next := came + string([]byte{b})
		want := tell(next, 2)
		mayBe := m.Copy()
		events, err := mayBe.Push(b)
		if err != api.OK {
			continue
		}
		copied := c.Copy()
		wrong := want.err == api.ErrValue
		for _, e := range events {
			holdPush(t, copied, e, wrong)
		}
		holdWays(t, mayBe, copied, next, more-1)
		// Another copy, behind all that came of the first one.
		again := c.Copy()
		for _, e := range events {
			holdPush(t, again, e, wrong)
		}
	}
}

func TestP15_1_EveryShortTextByCopies(t *testing.T) {
	holdWays(t, event.New(2), New(), "", 6)
}

func TestP15_1_SeveralAtOnce(t *testing.T) {
	// Checkers that take turns, each with the events of its own text.
	list := spellings()
	checkers := make([]*Checker, len(list))
	events := make([][]api.Event, len(list))
	wants := make([]told, len(list))
	most := 0
	for i, s := range list {
		b, want := s.element(0)
		checkers[i], wants[i] = New(), want
		events[i], _, _ = event.Whole(b, 9)
		most = max(most, len(events[i]))
	}
	for n := range most {
		for i, c := range checkers {
			if n < len(events[i]) {
				e := events[i][n]
				holdPush(t, c, e, wants[i].err == api.ErrValue && e.At >= wants[i].at)
			}
		}
	}
}

func TestP15_1_NoEventPanics(t *testing.T) {
	// Of other orders nothing is promised, but that each call ends and tells one of two numbers.
	d := dice(3)
	numbers := []int{
		0, 1, 2, 3, 5, 6, 10, 12, 13, 15, 16, 17, 19, 22, 23, 24, 31, 256,
		math.MinInt, -1 << 32, -1, api.MaxTag, api.MaxLen, math.MaxInt,
	}
	some := func() int { return numbers[d.below(len(numbers))] }
	for range 20000 {
		c := New()
		for range 12 {
			e := api.Event{Kind: d.below(8), At: some(), B: byte(d.below(256))}
			e.Head = api.Head{Class: d.below(2), Tag: some(), Cons: d.below(2) == 0, Len: some()}
			if d.below(20) == 0 {
				e.Kind, e.Head.Class = some(), some()
			}
			if err := c.Push(e); err != api.OK && err != api.ErrValue {
				t.Fatalf("Push(%v): error %d", e, err)
			}
			if d.below(4) == 0 {
				c = c.Copy()
			}
		}
	}
}

func TestP15_2_EachResult(t *testing.T) {
	for _, c := range []struct {
		b     string
		depth int
		err   api.Errno
		at    int
	}{
		{"", 9, api.ErrCut, 0},
		{"\x30", 9, api.ErrCut, 1},
		{"\x30\x00", 9, api.OK, 2},
		{"\x30\x00\x00", 9, api.ErrMore, 2},
		{"\x05\x00", 0, api.OK, 2},
		{"\x05\x01", 0, api.ErrValue, 1},
		{"\x1f\x80", 9, api.ErrTag, 1},
		{"\x30\x80", 9, api.ErrLength, 1},
		{"\x30\x02\x04\x01", 9, api.ErrFit, 3},
		{"\x30\x02\x30\x00", 1, api.ErrDepth, 3},
		{"\x30\x03\x01\x01\x00", 1, api.OK, 5},
		{"\x30\x03\x01\x01\x05", 1, api.ErrValue, 4},
		{"\x30\x03\x01\x01", 1, api.ErrCut, 4},
		{"\x31\x03\x02\x01\x07", 1, api.OK, 5},
		{"\xa0\x03\x01\x01\x05", 1, api.ErrValue, 4},
		{"\x80\x03\x01\x01\x05", 0, api.OK, 5},
		{"\x04\x03\x01\x01\x05", 0, api.OK, 5},
	} {
		holdModel(t, c.b, c.depth, c.err, c.at)
	}
}

// brings is bytes that bring an error of event's with one of them, if they stand within an element that has less than
// 127 bytes left, and one more can be open.
type brings struct {
	b   string
	err api.Errno
	at  int
}

// errors are some for each reason that the chapters of heads and events name.
func errors() []brings {
	return []brings{
		{"\x1f\x80", api.ErrTag, 1},
		{"\x9f\x1e\x00", api.ErrTag, 1},
		{"\x30\x80", api.ErrLength, 1},
		{"\x04\x81\x7f\x05", api.ErrLength, 2},
		{"\x04\x7f", api.ErrFit, 1},
		{"\x30\x7f\x24\x00", api.ErrFit, 1},
		{"\x30\x02\x30\x00", api.ErrDepth, 3},
		{"\x30\x01\x04\x00", api.ErrFit, 3},
		{"\x30\x03\x30\x80\x00", api.ErrLength, 3},
		{"\x80\x01\x00\x04\x81\x05", api.ErrLength, 5},
	}
}

func TestP15_2_TheFirstErrorIsTold(t *testing.T) {
	const outer = "\x30\x7e"
	for _, other := range errors() {
		for _, s := range spellings() {
			b, want := s.element(len(outer))
			if len(b) > 100 {
				continue
			}
			// A content that is wrong is told, whatever stands behind it.
			if want.err == api.OK {
				want = told{other.err, len(outer) + len(b) + other.at}
			}
			holdModel(t, outer+b+other.b, 2, want.err, want.at)
			// The other way round.
			holdModel(t, outer+other.b+b, 2, other.err, len(outer)+other.at)
		}
	}
}

func TestP15_2_MoreBehindAnElement(t *testing.T) {
	for _, s := range spellings() {
		b, want := s.element(0)
		for _, behind := range []string{"\x00", "\x05\x00", "\x01\x01\x05", "\x24\x00", "\x30\x80", "\xff", b} {
			// The first byte behind a right one is wrong already; one that is wrong is so ahead of it.
			more := told{api.ErrMore, len(b)}
			if want.err != api.OK {
				more = want
			}
			holdModel(t, b+behind, 0, more.err, more.at)
			all := sequence(b)
			if want.err != api.OK {
				holdModel(t, all+behind, 1, want.err, want.at+len(all)-len(b))
				continue
			}
			holdModel(t, all+behind, 1, api.ErrMore, len(all))
		}
	}
}

// nest is as many constructed elements, one within the other, the innermost one around a text.
func nest(levels int, in string) string {
	for i := range levels {
		switch i % 3 {
		case 0:
			in = sequence(in)
		case 1:
			in = around(api.CUniversal, api.TSet, in)
		default:
			in = around(api.CContext, 3, in)
		}
	}
	return in
}

func TestP15_2_Depths(t *testing.T) {
	for _, levels := range []int{0, 1, 2, 3, 5, 62, 63, 64, 65, 66, 70} {
		for _, in := range []string{"\x05\x00", "\x01\x01\x05", "\x02\x02\x00\x05", "\x10\x00"} {
			b := nest(levels, in)
			for _, depth := range []int{math.MinInt, -1, 0, 1, levels - 1, levels, levels + 1, 63, 64, 65, 1 << 32, math.MaxInt} {
				most := min(64, max(0, depth))
				if levels > most {
					// The last byte of the head that is too deep: behind it stands what is in that one.
					holdModel(t, b, depth, api.ErrDepth, len(b)-len(nest(levels-most-1, in))-1)
					continue
				}
				want := tell(in, 0)
				holdModel(t, b, depth, want.err, len(b)-len(in)+want.at)
			}
		}
	}
}

func TestP15_2_LongContents(t *testing.T) {
	const n = 70000
	for _, c := range []struct {
		tag                       int
		first, many, right, wrong string
	}{
		{api.TInteger, "\x7f", "\x00", "\x00", ""},
		{api.TEnum, "\x80", "\xff", "\x00", ""},
		{api.TOid, "\x2a", "\x86", "\x48", "\x88"},
		{api.TBits, "\x03", "\xff", "\xf8", "\xfc"},
		{api.TOctets, "\x30", "\x80", "\xff", ""},
		{api.TUtf8, "a", "\xc3\xa9", "z", "\xc3"},
		{api.TPrintable, "a", "b", "c", "@"},
		{api.TIa5, "a", "@", "\x7f", "\x80"},
	} {
		content := c.first + strings.Repeat(c.many, n/len(c.many))
		b := leaf(c.tag, content+c.right)
		holdLong(t, b, told{api.OK, len(b)})
		last := len(b) - 1
		holdLong(t, b[:last], told{api.ErrCut, last})
		if c.wrong != "" {
			holdLong(t, b[:last]+c.wrong, told{api.ErrValue, last})
		}
	}
	// In the middle of one.
	b := leaf(api.TPrintable, strings.Repeat("a", n)+"@"+strings.Repeat("b", n))
	holdLong(t, b, told{api.ErrValue, strings.IndexByte(b, '@')})
}

// holdLong does so of a text for which the model takes too long.
func holdLong(t *testing.T, b string, want told) {
	t.Helper()
	if err, at := Whole(b, 1); err != want.err || at != want.at {
		t.Fatalf("error %d, %d, want %d, %d", err, at, want.err, want.at)
	}
	if got := byEvents(event.Whole(b, 1)); got != want {
		t.Fatalf("by events: error %d, %d, want %d, %d", got.err, got.at, want.err, want.at)
	}
}

func TestP15_3_WrongInBothWays(t *testing.T) {
	for _, c := range []struct {
		b     string
		depth int
		err   api.Errno
		at    int
	}{
		// A head that can't be, of an element that can't be either.
		{"\x00\x80", 9, api.ErrLength, 1},
		{"\x24\x80", 9, api.ErrLength, 1},
		{"\x10\x81\x00", 9, api.ErrLength, 2},
		{"\x05\x81\x05", 9, api.ErrLength, 2},
		{"\x1f\x10", 9, api.ErrTag, 1},
		{"\x3f\x04", 9, api.ErrTag, 1},
		// One that has too few bytes left around it, and that can't be.
		{"\x30\x02\x05\x01", 9, api.ErrFit, 3},
		{"\x30\x02\x01\x02", 9, api.ErrFit, 3},
		{"\x30\x02\x24\x02", 9, api.ErrFit, 3},
		{"\x30\x02\x00\x01", 9, api.ErrFit, 3},
		{"\x30\x02\x17\x0c", 9, api.ErrFit, 3},
		{"\x31\x05\x02\x01\x07\x10\x05", 9, api.ErrFit, 6},
		// With as many bytes as it takes it is wrong in one way alone.
		{"\x30\x03\x05\x01\x00", 9, api.ErrValue, 3},
		{"\x30\x04\x01\x02\x00\x00", 9, api.ErrValue, 3},
		// One too deep, and that can't be.
		{"\x24\x00", 0, api.ErrDepth, 1},
		{"\x20\x00", 0, api.ErrDepth, 1},
		{"\x24\x00", 1, api.ErrValue, 1},
		{"\x30\x02\x2c\x00", 1, api.ErrDepth, 3},
		{"\x30\x02\x2c\x00", 2, api.ErrValue, 3},
		{"\x30\x04\x23\x02\x03\x00", 1, api.ErrDepth, 3},
		// A primitive one has no depth.
		{"\x10\x00", 0, api.ErrValue, 1},
		// One behind the whole element.
		{"\x05\x00\x24\x00", 9, api.ErrMore, 2},
		{"\x01\x01\x00\x05", 9, api.ErrMore, 3},
	} {
		holdModel(t, c.b, c.depth, c.err, c.at)
		// No event comes of the byte, and none of those ahead is wrong.
		events, _, _ := event.Whole(c.b, c.depth)
		if c.err != api.ErrValue {
			holdEvents(t, New(), events, told{})
		}
	}
}

func TestP15_3_EachElementThatCannotBe(t *testing.T) {
	// Of each head that is wrong by itself: with too few bytes left around it, and too deep.
	for _, tag := range universalTags() {
		least, most := lengths(tag)
		for _, n := range []int{0, 1, 2, 12, 13, 14, 15, 16} {
			b := put(api.Head{Tag: tag, Len: n})
			if n > 0 && (n < least || n > most) {
				outer := put(api.Head{Tag: api.TSequence, Cons: true, Len: len(b) + n - 1})
				holdModel(t, outer+b+strings.Repeat("\x00", n), 1, api.ErrFit, len(outer)+len(b)-1)
			}
			b = put(api.Head{Tag: tag, Cons: true, Len: n})
			outer := put(api.Head{Tag: api.TSequence, Cons: true, Len: len(b) + n})
			holdModel(t, b, 0, api.ErrDepth, len(b)-1)
			holdModel(t, outer+b, 1, api.ErrDepth, len(outer)+len(b)-1)
			if tag != api.TSequence && tag != api.TSet {
				holdModel(t, outer+b, 2, api.ErrValue, len(outer)+len(b)-1)
			}
		}
	}
}

// everyText goes to each text of at most so many bytes, all of them of those given.
func everyText(bytes string, most int, visit func(b string)) {
	var from func(b string)
	from = func(b string) {
		visit(b)
		if len(b) == most {
			return
		}
		for i := range len(bytes) {
			from(b + bytes[i:i+1])
		}
	}
	from("")
}

func TestP15_2_P15_3_EveryShortText(t *testing.T) {
	for _, depth := range []int{0, 1, 64} {
		visit := func(b string) { hold(t, b, depth, tell(b, depth)) }
		everyText(everyByte(), 2, visit)
		everyText("\x00\x01\x02\x03\x05\x06\x0c\x24\x30\x80\xc3", 4, visit)
		everyText("\x01\x02\x05\x30\xff", 6, visit)
	}
}

func TestP15_1_P15_2_LongTexts(t *testing.T) {
	came := map[api.Errno]int{}
	kinds := map[int]int{}
	d := dice(4)
	for i := range 300 {
		levels := 1 + i%7
		b := d.long(levels)
		for _, depth := range []int{levels, 64} {
			holdModel(t, b, depth, api.OK, len(b))
		}
		for range 30 {
			changed := d.change(b)
			for _, depth := range []int{levels / 2, levels, 64} {
				want := tell(changed, depth)
				hold(t, changed, depth, want)
				came[want.err]++
				if want.err == api.ErrValue {
					kinds[kindAt(changed, depth, want.at)]++
				}
			}
		}
	}
	// The texts must have come to all that there is.
	for _, err := range []api.Errno{api.OK, api.ErrCut, api.ErrTag, api.ErrLength, api.ErrFit, api.ErrMore, api.ErrDepth, api.ErrValue} {
		if came[err] < 10 {
			t.Errorf("error %d came %d times", err, came[err])
		}
	}
	for _, kind := range []int{api.EEnter, api.ELeaf, api.EByte} {
		if kinds[kind] < 10 {
			t.Errorf("a wrong event of kind %d came %d times", kind, kinds[kind])
		}
	}
}

// kindAt is the kind of the first event at a place.
func kindAt(b string, depth, at int) int {
	events, _, _ := event.Whole(b, depth)
	for _, e := range events {
		if e.At == at {
			return e.Kind
		}
	}
	return 0
}

func TestP15_1_LongTextsWithCopies(t *testing.T) {
	d := dice(5)
	for i := range 200 {
		b := d.long(1 + i%7)
		for range 10 {
			n := d.below(len(b))
			changed := b[:n] + d.change(b[n:])
			came, _, _ := event.Whole(b[:n], 64)
			right, _, _ := event.Whole(b, 64)
			other, _, _ := event.Whole(changed, 64)
			one := pushed(t, b[:n])
			two := one.Copy()
			if d.below(2) == 0 {
				one, two = two, one
			}
			// They take turns.
			want := tell(changed, 64)
			right, other = right[len(came):], other[len(came):]
			for k := range max(len(right), len(other)) {
				if k < len(other) {
					holdPush(t, two, other[k], want.err == api.ErrValue && other[k].At >= want.at)
				}
				if k < len(right) {
					holdPush(t, one, right[k], false)
				}
			}
		}
	}
}

func TestP15_4_WhatStandsBehindPlaysNoPart(t *testing.T) {
	d := dice(6)
	for i := range 200 {
		levels := 1 + i%7
		b := d.long(levels)
		if i%2 == 1 {
			b = d.change(b) + "\x00"
		}
		want := tell(b, levels)
		for range 20 {
			n := 1 + d.below(len(b))
			for _, behind := range []string{"", d.bytes(1), d.bytes(5), "\x30\x80", "\x24\x00", "\xff\xff\xff\xff\xff\xff", b} {
				err, at := Whole(b[:n]+behind, levels)
				// What is wrong ahead is so still, and nothing else is.
				if want.at < n && want != (told{err, at}) || want.at >= n && at < n {
					t.Fatalf("%x, and behind it %x: error %d at %d, but %d at %d of %x", b[:n], behind, err, at, want.err, want.at, b)
				}
			}
		}
	}
}

func TestP15_4_EachBeginningOfARightElement(t *testing.T) {
	d := dice(7)
	list := []string{"\x05\x00", "\x30\x00", nest(9, "\x01\x01\xff"), leaf(api.TUtf8, "\xf0\x9f\x98\x80")}
	for i := range 100 {
		list = append(list, d.long(1+i%7))
	}
	for _, tag := range layerTags() {
		for range 20 {
			list = append(list, leaf(tag, d.content(tag)))
		}
	}
	for _, b := range list {
		hold(t, b, 64, told{api.OK, len(b)})
		for n := range b {
			hold(t, b[:n], 64, told{api.ErrCut, n})
		}
	}
}

func TestP15_4_EachBeginningOfAWrongElement(t *testing.T) {
	d := dice(8)
	for i := range 200 {
		b := d.change(d.long(1+i%5)) + "\x05"
		want := tell(b, 64)
		for n := range b {
			switch {
			case n > want.at:
				hold(t, b[:n], 64, want)
			case n == want.at && want.err == api.ErrMore:
				hold(t, b[:n], 64, told{api.OK, n})
			default:
				hold(t, b[:n], 64, told{api.ErrCut, n})
			}
		}
	}
}
