package capture

import (
	"math"
	"strings"
	"testing"

	"gantlet/api"
)

// edges are the bytes at which something could end, or numbers with a sign would go other ways.
const edges = "\x00\x7f\x80\xff"

// hold compares what a capture tells of itself with what it must. It ends the test, because some tests hold thousands of
// calls; Helper is called only then, because it takes far longer than what is compared.
func hold(t *testing.T, c *Capture, text string, on bool, room int) {
	if got := c.Text(); got != text {
		t.Helper()
		t.Fatalf("Text() = %x (%d bytes), want %x (%d bytes)", brief(got), len(got), brief(text), len(text))
	}
	if got := c.On(); got != on {
		t.Helper()
		t.Fatalf("On() = %t with %x, want %t", got, brief(text), on)
	}
	if got := c.Room(); got != room {
		t.Helper()
		t.Fatalf("Room() = %d with %x (%d bytes), want %d", got, brief(text), len(text), room)
	}
}

// brief is a text's beginning.
func brief(b string) string { return b[:min(len(b), 40)] }

// holdBegin compares what Begin tells with what it must, and ends the test likewise.
func holdBegin(t *testing.T, c *Capture, b string, want api.Errno) {
	if err := c.Begin(b); err != want {
		t.Helper()
		t.Fatalf("Begin(%x) of %d bytes = %d, want %d", brief(b), len(b), err, want)
	}
}

// holdPush compares what Push tells with what it must, and ends the test likewise.
func holdPush(t *testing.T, c *Capture, b byte, want api.Errno) {
	if err := c.Push(b); err != want {
		t.Helper()
		t.Fatalf("Push(%02x) = %d behind %d bytes, want %d", b, err, len(c.Text()), want)
	}
}

// come pushes bytes, each of which must be kept.
func come(t *testing.T, c *Capture, b string) {
	before, room := c.Text(), c.Room()
	for i := range len(b) {
		holdPush(t, c, b[i], api.OK)
	}
	hold(t, c, before+b, true, room-len(b))
}

// holdOff sees that bytes that come, and ends, change nothing, and that no error is told.
func holdOff(t *testing.T, c *Capture, text string, room int) {
	t.Helper()
	hold(t, c, text, false, room)
	for range 3 {
		for i := range len(edges) {
			holdPush(t, c, edges[i], api.OK)
			hold(t, c, text, false, room)
		}
		c.End()
		hold(t, c, text, false, room)
		c.End()
		holdPush(t, c, 'a', api.OK)
		hold(t, c, text, false, room)
	}
}

// bound is a number that New may be handed, and how many bytes can be kept then.
type bound struct{ most, can int }

// bounds are those at the edges.
func bounds() []bound {
	return []bound{
		{math.MinInt, 0}, {-1 << 32, 0}, {-1<<32 + 5, 0}, {-1 << 16, 0}, {-65535, 0}, {-2, 0}, {-1, 0},
		{0, 0}, {1, 1}, {2, 2}, {3, 3}, {7, 7}, {8, 8}, {9, 9}, {35, 35}, {127, 127}, {128, 128}, {255, 255}, {256, 256}, {257, 257},
		{65534, 65534}, {65535, 65535}, {65536, 65536}, {65537, 65536}, {65538, 65536}, {1 << 17, 65536}, {1<<17 + 3, 65536},
		{1 << 31, 65536}, {1 << 32, 65536}, {1<<32 + 3, 65536}, {math.MaxInt, 65536},
	}
}

// pattern is so many bytes that don't look like those ahead, behind, or of another beginning.
func pattern(n int, seed byte) string {
	b := make([]byte, n)
	for i := range b {
		b[i] = byte(i*7) ^ byte(i>>8) ^ seed
	}
	return string(b)
}

func TestP17_1_TheChaptersExample(t *testing.T) {
	c := New(2)
	holdBegin(t, c, "a", api.OK)
	hold(t, c, "a", true, 1)
	holdPush(t, c, 'b', api.OK)
	hold(t, c, "ab", true, 0)
	holdPush(t, c, 'c', api.ErrCap)
	holdOff(t, c, "ab", 0)
}

func TestP17_1_BytesWithTheBeginningAndBehindIt(t *testing.T) {
	// With it alone, behind it alone, and both.
	for with := range 10 {
		for behind := range 10 {
			c := New(20)
			hold(t, c, "", false, 20)
			b := pattern(with+behind, 0x5a)
			holdBegin(t, c, b[:with], api.OK)
			hold(t, c, b[:with], true, 20-with)
			for i := with; i < len(b); i++ {
				holdPush(t, c, b[i], api.OK)
				hold(t, c, b[:i+1], true, 19-i)
			}
			c.End()
			holdOff(t, c, b, 20-len(b))
		}
	}
}

func TestP17_1_New(t *testing.T) {
	for _, n := range bounds() {
		c := New(n.most)
		hold(t, c, "", false, n.can)
		holdOff(t, c, "", n.can)
		holdBegin(t, c, "", api.OK)
		hold(t, c, "", true, n.can)
	}
	for most := -300; most < 0; most++ {
		hold(t, New(most), "", false, 0)
	}
	for most := range 300 {
		hold(t, New(most), "", false, most)
		hold(t, New(1<<16+most), "", false, 1<<16)
	}
}

func TestP17_1_AsManyBytesAndOneMore(t *testing.T) {
	for _, n := range bounds() {
		full := pattern(n.can, 0)
		// So many with the beginning, the others behind it.
		for _, with := range []int{0, 1, 2, n.can / 2, n.can - 2, n.can - 1, n.can} {
			if with < 0 || with > n.can {
				continue
			}
			c := New(n.most)
			holdBegin(t, c, full[:with], api.OK)
			hold(t, c, full[:with], true, n.can-with)
			come(t, c, full[with:])
			hold(t, c, full, true, 0)
			holdPush(t, c, 0x5a, api.ErrCap)
			holdOff(t, c, full, 0)
		}
		for _, more := range []string{"\x00", "\xff", "\x00\x00", "abc", full + "a", strings.Repeat("\xff", 1<<17)} {
			c := New(n.most)
			holdBegin(t, c, full+more, api.ErrCap)
			holdOff(t, c, full, 0)
		}
	}
}

func TestP17_1_BytesStayAsTheyCome(t *testing.T) {
	all := make([]byte, 256)
	for x := range all {
		all[x] = byte(x)
	}
	c := New(256)
	holdBegin(t, c, string(all), api.OK)
	hold(t, c, string(all), true, 0)
	holdBegin(t, c, "", api.OK)
	come(t, c, string(all))
	for x := range 256 {
		b := string([]byte{byte(x)})
		one := New(3)
		holdBegin(t, one, b, api.OK)
		hold(t, one, b, true, 2)
		holdPush(t, one, byte(x), api.OK)
		hold(t, one, b+b, true, 1)
		holdPush(t, one, byte(255-x), api.OK)
		hold(t, one, b+b+string([]byte{byte(255 - x)}), true, 0)
		// Too many, whichever byte it is.
		holdPush(t, one, byte(x), api.ErrCap)
		hold(t, one, b+b+string([]byte{byte(255 - x)}), false, 0)
		none := New(0)
		holdBegin(t, none, b, api.ErrCap)
		holdOff(t, none, "", 0)
	}
	// No byte ends what comes, and none is a character.
	for _, b := range []string{"\x00\x00\x00", "\x00a\x00", edges, edges + edges, "\xff\xff", "\x80\x80", "\u00e9\xc3", "\ufffd\xf0"} {
		with, behind := New(20), New(20)
		holdBegin(t, with, b, api.OK)
		hold(t, with, b, true, 20-len(b))
		holdBegin(t, behind, "", api.OK)
		come(t, behind, b)
	}
}

func TestP17_1_AheadOfAnyBeginning(t *testing.T) {
	for _, n := range bounds() {
		c := New(n.most)
		for range 3 {
			for i := range len(edges) {
				holdPush(t, c, edges[i], api.OK)
				hold(t, c, "", false, n.can)
			}
		}
		c.End()
		c.End()
		holdOff(t, c, "", n.can)
		// What came ahead plays no part.
		full := pattern(n.can, 3)
		holdBegin(t, c, full, api.OK)
		hold(t, c, full, true, 0)
	}
}

func TestP17_1_EndsAndPushesBehindThem(t *testing.T) {
	for _, b := range []string{"", "a", "ab", "abc", edges} {
		c := New(4)
		holdBegin(t, c, b, api.OK)
		c.End()
		holdOff(t, c, b, 4-len(b))
		// Behind bytes that came by themselves.
		holdBegin(t, c, "", api.OK)
		come(t, c, b)
		c.End()
		c.End()
		holdOff(t, c, b, 4-len(b))
	}
	// Behind an error: neither an end nor a byte tells it again.
	c := New(1)
	holdBegin(t, c, "ab", api.ErrCap)
	c.End()
	c.End()
	holdOff(t, c, "a", 0)
	holdBegin(t, c, "c", api.OK)
	holdPush(t, c, 'd', api.ErrCap)
	holdPush(t, c, 'd', api.OK)
	c.End()
	holdPush(t, c, 'd', api.OK)
	holdOff(t, c, "c", 0)
	// Full isn't over yet, and an end takes no room.
	holdBegin(t, c, "e", api.OK)
	hold(t, c, "e", true, 0)
	c.End()
	holdOff(t, c, "e", 0)
}

// stops are how a beginning may have gone on ahead of another one.
func stops() []func(c *Capture) {
	// More bytes than any of those can keep that are stopped so.
	overflow := func(c *Capture) {
		for range 50 {
			c.Push(0x33)
		}
	}
	return []func(c *Capture){
		func(c *Capture) {},
		func(c *Capture) { c.End() },
		func(c *Capture) { c.End(); c.Push(0x33) },
		func(c *Capture) { c.Push(0x33) },
		func(c *Capture) { c.Push(0x33); c.End() },
		overflow,
		func(c *Capture) { overflow(c); c.End(); c.Push(0x33) },
	}
}

func TestP17_1_AnotherBeginning(t *testing.T) {
	const most = 6
	// Fewer, like many and more bytes than were kept, and more than can be.
	for first := range most + 3 {
		for second := range most + 3 {
			for _, stop := range stops() {
				c := New(most)
				c.Begin(pattern(first, 0x11))
				stop(c)
				b := pattern(second, 0xee)
				if second > most {
					holdBegin(t, c, b, api.ErrCap)
					holdOff(t, c, b[:most], 0)
					continue
				}
				holdBegin(t, c, b, api.OK)
				hold(t, c, b, true, most-second)
				rest := pattern(most-second, 0x44)
				come(t, c, rest)
				holdPush(t, c, 0xaa, api.ErrCap)
				holdOff(t, c, b+rest, 0)
			}
		}
	}
}

func TestP17_1_ManyBeginnings(t *testing.T) {
	for _, n := range []bound{{-1, 0}, {0, 0}, {1, 1}, {300, 300}, {1 << 16, 1 << 16}, {1 << 20, 1 << 16}} {
		c := New(n.most)
		for i, size := range []int{n.can, 0, n.can, n.can / 2, 1, 0, n.can / 3, n.can, 2} {
			b := pattern(min(size, n.can), byte(i))
			holdBegin(t, c, b, api.OK)
			hold(t, c, b, true, n.can-len(b))
			if i%2 == 0 {
				c.End()
				hold(t, c, b, false, n.can-len(b))
			}
		}
	}
}

func TestP17_1_WhatIsAnsweredStays(t *testing.T) {
	c := New(4)
	c.Begin("abc")
	early := c.Text()
	c.Push('d')
	full := c.Text()
	c.Push('e')
	c.End()
	again := c.Text()
	c.Begin("wxyz")
	if early != "abc" || full != "abcd" || again != "abcd" {
		t.Fatalf("they are %q, %q and %q now", early, full, again)
	}
	hold(t, c, "wxyz", true, 0)
}

func TestP17_1_CapturesKnowNothingOfEachOther(t *testing.T) {
	a, b := New(2), New(3)
	holdBegin(t, a, "xy", api.OK)
	hold(t, b, "", false, 3)
	holdBegin(t, b, "1", api.OK)
	holdPush(t, a, 'z', api.ErrCap)
	hold(t, b, "1", true, 2)
	holdPush(t, b, '2', api.OK)
	hold(t, a, "xy", false, 0)
	b.End()
	holdBegin(t, a, "", api.OK)
	hold(t, b, "12", false, 1)
	hold(t, a, "", true, 2)
	hold(t, New(2), "", false, 2)
}

// order is a capture and its model, to which the same calls come.
type order struct {
	c *Capture
	m *model
}

func newOrder(most int) *order { return &order{New(most), newModel(most)} }

// hold sees that both tell the same of themselves.
func (o *order) hold(t *testing.T) {
	hold(t, o.c, o.m.text(), o.m.on, o.m.most-len(o.m.text()))
}

func (o *order) begin(t *testing.T, b string) {
	holdBegin(t, o.c, b, o.m.begin(b))
	o.hold(t)
}

func (o *order) push(t *testing.T, b byte) {
	holdPush(t, o.c, b, o.m.push(b))
	o.hold(t)
}

func (o *order) end(t *testing.T) {
	o.c.End()
	o.m.end()
	o.hold(t)
}

// call makes one of seven calls; at is told by the bytes, so that those of two calls are never alike.
func (o *order) call(t *testing.T, kind, at int) {
	switch kind {
	case 5:
		o.push(t, byte(0x80+at))
	case 6:
		o.end(t)
	default:
		o.begin(t, strings.Repeat(string([]byte{byte(at)}), kind))
	}
}

func TestP17_1_AllShortOrdersOfCalls(t *testing.T) {
	const kinds, calls = 7, 6
	for most := -1; most < 5; most++ {
		orders := 1
		for range calls {
			orders *= kinds
		}
		for number := range orders {
			o := newOrder(most)
			for at, left := 0, number; at < calls; at, left = at+1, left/kinds {
				o.call(t, left%kinds, at)
			}
		}
	}
}

func TestP17_1_ThrownOrdersOfCalls(t *testing.T) {
	d := dice(171)
	for range 3000 {
		most := d.below(12) - 2
		o := newOrder(most)
		o.hold(t)
		// The rarer other calls are, the more bytes come.
		rare := 2 + d.below(12)
		for range 200 {
			switch d.below(rare) {
			case 0:
				o.begin(t, d.bytes(most+4, edges))
			case 1:
				o.end(t)
			default:
				o.push(t, byte(d.below(256)))
			}
		}
	}
}

func TestP17_1_LongOrdersOfCalls(t *testing.T) {
	d := dice(172)
	for _, most := range []int{1000, 65535, 65536, 65537, 1 << 20} {
		o := newOrder(most)
		for range 60 {
			o.begin(t, d.bytes(o.m.most+300, edges))
			for range d.below(20) {
				o.push(t, byte(d.below(256)))
			}
			if d.below(3) == 0 {
				o.end(t)
			}
			o.push(t, 0xff)
		}
	}
}

func TestP17_2_NeverMoreIsKeptThanCanBe(t *testing.T) {
	for _, n := range bounds() {
		for _, with := range []int{0, 1, n.can, n.can + 1, 2*n.can + 100} {
			c := New(n.most)
			told := 0
			if c.Begin(pattern(with, 1)) == api.ErrCap {
				told++
			}
			for i := range n.can + 100 {
				if c.Push(byte(i)) == api.ErrCap {
					told++
				}
			}
			if got := len(c.Text()); got != n.can || c.Room() != 0 || told != 1 || c.On() {
				t.Fatalf("New(%d), Begin of %d bytes: %d kept, room for %d, %d errors, on %t", n.most, with, got, c.Room(), told, c.On())
			}
		}
	}
}

func TestP17_2_WhatIsKeptIsTheFrontOfWhatCame(t *testing.T) {
	d := dice(173)
	for range 20000 {
		can := d.below(20)
		c := New(can)
		// What came ahead of the beginning belongs to another one.
		c.Begin(d.bytes(25, edges))
		came := d.bytes(25, edges)
		c.Begin(came)
		for range d.below(25) {
			b := byte(d.below(256))
			if c.On() {
				came += string([]byte{b})
			}
			c.Push(b)
			if d.below(20) == 0 {
				c.End()
			}
			text := c.Text()
			if !strings.HasPrefix(came, text) || len(text) != min(can, len(came)) || len(text)+c.Room() != can {
				t.Fatalf("New(%d): %x is kept of %x, room for %d", can, text, came, c.Room())
			}
		}
	}
}

// No answer tells whether bytes were wiped: only a look at the room behind what is kept does.
func TestWays_WhatWasKeptIsWiped(t *testing.T) {
	for _, again := range []string{"", "a", "abc"} {
		for _, stop := range stops() {
			c := New(40)
			c.Begin(strings.Repeat("\xff", 30))
			stop(c)
			c.Begin(again)
			for at, b := range c.kept[len(again):cap(c.kept)] {
				if b != 0 {
					t.Fatalf("behind %q stands %02x at %d", again, b, at)
				}
			}
		}
	}
}
