package tap

import (
	"crypto/sha256"
	"runtime"
	"testing"

	"gantlet/sha"
)

// edges are the bytes at which something could end, or numbers with a sign would go other ways.
const edges = "\x00\x7f\x80\xff"

// holdSum compares the digest with that of the bytes of a part. It ends the test, because some tests hold thousands of
// calls; Helper is called only then, because it takes far longer than what is compared.
func holdSum(t *testing.T, x *Tap, part string) {
	if got, ok := x.Sum(); !ok || got != sha.Sum(part) {
		t.Helper()
		t.Fatalf("Sum() = %x, %t, want that of %x (%d bytes), true", got, ok, brief(part), len(part))
	}
}

// holdNone sees that no digest is told, and ends the test likewise.
func holdNone(t *testing.T, x *Tap) {
	if got, ok := x.Sum(); ok || got != "" {
		t.Helper()
		t.Fatalf("Sum() = %x, %t, want the empty text, false", got, ok)
	}
}

// holdHead compares the bytes since the last head with what they must be, and ends the test likewise.
func holdHead(t *testing.T, x *Tap, want string) {
	if got := x.Head(); got != want {
		t.Helper()
		t.Fatalf("Head() = %x (%d bytes), want %x (%d bytes)", brief(got), len(got), brief(want), len(want))
	}
}

// brief is a text's beginning.
func brief(b string) string { return b[:min(len(b), 40)] }

// come pushes bytes.
func come(x *Tap, b string) {
	for i := range len(b) {
		x.Push(b[i])
	}
}

// pattern is so many bytes that don't look like those of another seed.
func pattern(n int, seed byte) string {
	b := make([]byte, n)
	for i := range b {
		b[i] = byte(i*7) ^ byte(i>>8) ^ seed
	}
	return string(b)
}

// sizes are lengths just before, at, and just behind the places where a block of the digest, or its padding, ends.
func sizes() []int {
	return []int{0, 1, 2, 3, 54, 55, 56, 57, 62, 63, 64, 65, 66, 118, 119, 120, 121, 126, 127, 128, 129, 183, 184, 191, 192, 193, 256, 257}
}

func TestP21_1_TheChaptersExample(t *testing.T) {
	x := New()
	x.Push(0x30)
	x.Push(0x00)
	head := x.Head()
	if head != "\x30\x00" {
		t.Fatalf("Head() = %x", head)
	}
	x.Begin(head)
	x.Push(0x05)
	x.End()
	x.Push(0x06)
	holdSum(t, x, "\x30\x00\x05")
	holdHead(t, x, "\x05\x06")
}

func TestP21_1_TheDigestIsThePublishedOne(t *testing.T) {
	x := New()
	x.Begin("a")
	come(x, "bc")
	x.End()
	want := "\xba\x78\x16\xbf\x8f\x01\xcf\xea\x41\x41\x40\xde\x5d\xae\x22\x23\xb0\x03\x61\xa3\x96\x17\x7a\x9c\xb4\x10\xff\x61\xf2\x00\x15\xad"
	if got, ok := x.Sum(); got != want || !ok {
		t.Fatalf("Sum() = %x, %t, want %x, true", got, ok, want)
	}
	for _, n := range sizes() {
		part := pattern(n, 0x5a)
		x.Begin("")
		come(x, part)
		want := sha256.Sum256([]byte(part))
		if got, ok := x.Sum(); got != string(want[:]) || !ok {
			t.Fatalf("Sum() of %d bytes = %x, %t, want %x, true", n, got, ok, want)
		}
	}
}

func TestP21_1_NothingCameYet(t *testing.T) {
	x := New()
	holdNone(t, x)
	holdHead(t, x, "")
	holdHead(t, x, "")
	holdNone(t, x)
	// Bytes alone begin no part, and neither does what asks for them.
	come(x, edges)
	holdNone(t, x)
	holdHead(t, x, edges)
	holdNone(t, x)
}

func TestP21_1_HeadIsTheBytesSinceTheLastOne(t *testing.T) {
	x := New()
	for n := range 40 {
		b := pattern(n, byte(n))
		come(x, b)
		holdHead(t, x, b)
		holdHead(t, x, "")
		holdHead(t, x, "")
	}
	// With a byte in between.
	x.Push('a')
	holdHead(t, x, "a")
	x.Push('b')
	holdHead(t, x, "b")
	holdHead(t, x, "")
}

func TestP21_1_HeadAheadOfWithinAndBehindAPart(t *testing.T) {
	x := New()
	holdHead(t, x, "")
	holdHead(t, x, "")
	come(x, "ab")
	holdHead(t, x, "ab")
	holdHead(t, x, "")
	come(x, "cd")
	// A beginning asks for no head, and what comes with it isn't a byte that came by itself.
	x.Begin("xyz")
	holdHead(t, x, "cd")
	holdHead(t, x, "")
	x.Push('e')
	holdHead(t, x, "e")
	holdHead(t, x, "")
	x.Push('f')
	x.End()
	holdHead(t, x, "f")
	holdHead(t, x, "")
	x.Push('g')
	holdHead(t, x, "g")
	holdHead(t, x, "")
	holdSum(t, x, "xyzef")
	// From ahead of the beginning to behind the end.
	x.Push('h')
	x.Begin("q")
	x.Push('i')
	holdSum(t, x, "qi")
	x.End()
	x.Push('j')
	holdHead(t, x, "hij")
	holdHead(t, x, "")
}

func TestP21_1_BytesStayAsTheyCome(t *testing.T) {
	all := make([]byte, 256)
	for b := range all {
		all[b] = byte(b)
	}
	for b := range 256 {
		one := string([]byte{byte(b)})
		x := New()
		x.Push(byte(b))
		holdHead(t, x, one)
		x.Begin(one)
		holdSum(t, x, one)
		x.Push(byte(b))
		holdSum(t, x, one+one)
		x.Push(byte(255 - b))
		holdSum(t, x, one+one+string([]byte{byte(255 - b)}))
		holdHead(t, x, one+string([]byte{byte(255 - b)}))
	}
	for _, b := range []string{string(all), "\x00\x00\x00", edges, edges + edges, "\u00e9\xc3", "\ufffd\xf0", "a\x00a"} {
		x := New()
		x.Begin("")
		come(x, b)
		holdSum(t, x, b)
		holdHead(t, x, b)
		x.Begin(b)
		holdSum(t, x, b)
		holdHead(t, x, "")
	}
}

func TestP21_1_SumAheadOfWithinAndBehindAPart(t *testing.T) {
	x := New()
	for _, b := range []byte("ab") {
		holdNone(t, x)
		holdNone(t, x)
		x.Push(b)
	}
	holdNone(t, x)
	part := x.Head()
	x.Begin(part)
	// Asked for ahead of each byte and several times: what comes goes on behind it.
	for i, b := range []byte(pattern(200, 0x11)) {
		for range 1 + i%3 {
			holdSum(t, x, part)
		}
		x.Push(b)
		part += string([]byte{b})
	}
	holdSum(t, x, part)
	x.End()
	for i := range len(edges) {
		holdSum(t, x, part)
		holdSum(t, x, part)
		x.Push(edges[i])
	}
	holdSum(t, x, part)
	x.End()
	holdSum(t, x, part)
}

func TestP21_1_BeginWithAnEmptyHead(t *testing.T) {
	for _, ahead := range []string{"", "a", edges, pattern(64, 1)} {
		x := New()
		come(x, ahead)
		x.Begin("")
		holdSum(t, x, "")
		holdHead(t, x, ahead)
		x.Push('b')
		holdSum(t, x, "b")
		x.Begin("")
		holdSum(t, x, "")
		holdHead(t, x, "b")
		x.End()
		x.Push('c')
		holdSum(t, x, "")
		x.Begin(x.Head())
		holdSum(t, x, "c")
	}
}

func TestP21_1_APartOfNoByte(t *testing.T) {
	x := New()
	come(x, "ahead")
	x.Begin("")
	x.End()
	holdSum(t, x, "")
	come(x, "behind")
	holdSum(t, x, "")
	// Behind one that has bytes, which is over, or isn't.
	for _, over := range []bool{true, false} {
		x.Begin("head")
		come(x, "content")
		if over {
			x.End()
		}
		x.Begin("")
		holdSum(t, x, "")
		x.End()
		come(x, "more")
		holdSum(t, x, "")
	}
}

func TestP21_1_BeginAnew(t *testing.T) {
	// Within a part, and behind its end; fewer bytes than ahead, as many, and more.
	for _, over := range []bool{false, true} {
		for first := range 6 {
			for second := range 6 {
				x := New()
				x.Begin(pattern(first, 0x11))
				come(x, pattern(2, 0x22))
				holdSum(t, x, pattern(first, 0x11)+pattern(2, 0x22))
				if over {
					x.End()
					come(x, "behind")
				}
				head := pattern(second, 0x33)
				x.Begin(head)
				holdSum(t, x, head)
				come(x, "more")
				holdSum(t, x, head+"more")
				x.End()
				x.Push('e')
				holdSum(t, x, head+"more")
			}
		}
	}
}

func TestP21_1_BeginsAndSizesOfBlocks(t *testing.T) {
	// The bytes of the part ahead play no part, wherever its last block ends.
	x := New()
	for _, first := range sizes() {
		for _, second := range []int{0, 1, 63, 64, 65} {
			x.Begin("")
			come(x, pattern(first, 0x77))
			head := pattern(second, 0x88)
			x.Begin(head)
			holdSum(t, x, head)
			come(x, "ab")
			holdSum(t, x, head+"ab")
			if second == 64 {
				x.End()
			}
		}
	}
}

func TestP21_1_EndWithoutABeginning(t *testing.T) {
	x := New()
	x.End()
	holdNone(t, x)
	x.Push('a')
	x.End()
	x.End()
	holdNone(t, x)
	x.Push('b')
	holdNone(t, x)
	// It takes no byte from the next head, and the part that begins behind it isn't over.
	holdHead(t, x, "ab")
	x.End()
	x.Begin("ab")
	holdSum(t, x, "ab")
	x.Push('c')
	holdSum(t, x, "abc")
}

func TestP21_1_EndTwice(t *testing.T) {
	x := New()
	for _, part := range []string{"", "a", edges, pattern(64, 2)} {
		x.Begin(part)
		x.End()
		x.End()
		holdSum(t, x, part)
		x.Push('x')
		holdSum(t, x, part)
		x.End()
		x.Push('y')
		x.End()
		holdSum(t, x, part)
		holdHead(t, x, "xy")
		// They are not counted: one beginning is enough.
		x.Begin("h")
		x.Push('i')
		holdSum(t, x, "hi")
		holdHead(t, x, "i")
	}
}

func TestP21_1_PartsAtTheEndsOfBlocks(t *testing.T) {
	for _, n := range sizes() {
		for _, with := range sizes() {
			if with > n {
				continue
			}
			b := pattern(n, 0x5a)
			x := New()
			come(x, "ahead")
			holdHead(t, x, "ahead")
			x.Begin(b[:with])
			holdSum(t, x, b[:with])
			come(x, b[with:])
			holdSum(t, x, b)
			x.End()
			holdSum(t, x, b)
			come(x, "behind")
			holdSum(t, x, b)
			holdHead(t, x, b[with:]+"behind")
		}
	}
	// Each length there is up to some blocks, byte by byte.
	b := pattern(400, 0xa5)
	x := New()
	x.Begin("")
	for i := range len(b) {
		holdSum(t, x, b[:i])
		x.Push(b[i])
	}
	holdSum(t, x, b)
}

func TestP21_1_LongInputs(t *testing.T) {
	for _, n := range []int{1000, 1 << 10, 4095, 4096, 4097, 1 << 16, 1<<16 + 1, 1<<20 + 7} {
		head, content := pattern(n, 0x30), pattern(n, 0x99)
		x := New()
		come(x, head)
		holdNone(t, x)
		holdHead(t, x, head)
		holdHead(t, x, "")
		x.Begin(head)
		holdSum(t, x, head)
		come(x, content)
		holdSum(t, x, head+content)
		x.End()
		come(x, content)
		holdSum(t, x, head+content)
		holdHead(t, x, content+content)
		x.Begin("")
		holdSum(t, x, "")
		holdHead(t, x, "")
	}
}

func TestP21_1_WhatIsAnsweredStays(t *testing.T) {
	x := New()
	come(x, "abcd")
	first := x.Head()
	x.Begin(first)
	early, _ := x.Sum()
	come(x, "wxyz")
	second := x.Head()
	late, _ := x.Sum()
	come(x, "1234567890")
	x.End()
	x.Begin("q")
	x.Head()
	come(x, "0000")
	if first != "abcd" || second != "wxyz" {
		t.Fatalf("the heads are %q and %q now", first, second)
	}
	if early != sha.Sum("abcd") || late != sha.Sum("abcdwxyz") {
		t.Fatalf("the digests are %x and %x now", early, late)
	}
}

func TestP21_1_TapsKnowNothingOfEachOther(t *testing.T) {
	a, b := New(), New()
	a.Push('a')
	b.Push('b')
	a.Begin("x")
	holdNone(t, b)
	a.Push('1')
	b.Begin("y")
	b.Push('2')
	holdSum(t, a, "x1")
	a.End()
	b.Push('3')
	a.Push('4')
	holdHead(t, a, "a14")
	holdHead(t, b, "b23")
	holdSum(t, a, "x1")
	holdSum(t, b, "y23")
	holdHead(t, New(), "")
	holdNone(t, New())
}

// both is a tap and its model, to which the same calls come.
type both struct {
	x *Tap
	m *model
}

func newBoth() *both { return &both{New(), &model{}} }

// sum sees that both tell the same digest.
func (o *both) sum(t *testing.T) {
	part, ok := o.m.part()
	if !ok {
		holdNone(t, o.x)
		return
	}
	holdSum(t, o.x, part)
}

// head asks both for one.
func (o *both) head(t *testing.T) string {
	want := o.m.head()
	holdHead(t, o.x, want)
	return want
}

func (o *both) push(b byte) {
	o.x.Push(b)
	o.m.push(b)
}

func (o *both) begin(head string) {
	o.x.Begin(head)
	o.m.begin(head)
}

func (o *both) end() {
	o.x.End()
	o.m.end()
}

// call makes one of seven calls; at is told by the bytes, so that those of two calls are never alike.
func (o *both) call(t *testing.T, kind, at int) {
	switch kind {
	case 0:
		o.push(byte(0x80 + at))
	case 1:
		o.head(t)
	case 2:
		o.begin(o.head(t))
	case 3:
		o.begin("")
	case 4:
		o.begin(string([]byte{byte(at), 0}))
	case 5:
		o.end()
	default:
		o.sum(t)
	}
}

func TestP21_1_AllShortOrdersOfCalls(t *testing.T) {
	const kinds, calls = 7, 6
	orders := 1
	for range calls {
		orders *= kinds
	}
	for number := range orders {
		o := newBoth()
		for at, left := 0, number; at < calls; at, left = at+1, left/kinds {
			o.call(t, left%kinds, at)
		}
		o.sum(t)
		o.head(t)
	}
}

func TestP21_1_ThrownOrdersOfCalls(t *testing.T) {
	d := dice(211)
	for range 600 {
		o := newBoth()
		// The rarer other calls are, the more bytes come.
		rare := 6 + d.below(60)
		for range 300 {
			switch d.below(rare) {
			case 0:
				o.begin(o.head(t))
			case 1:
				o.begin(d.bytes(d.below(140)))
			case 2:
				o.end()
			case 3:
				o.head(t)
			case 4:
				o.sum(t)
			default:
				o.push(byte(d.below(256)))
			}
		}
		o.sum(t)
		o.head(t)
		o.sum(t)
	}
}

func TestP21_2_WhatComesAheadPlaysNoPart(t *testing.T) {
	const head, content = "\x30\x03", "\x02\x01\x05"
	aheads := []string{"", "a", head, head + content, edges, "\x00", "\x80", pattern(62, 3), pattern(63, 3), pattern(64, 3), pattern(65, 3), pattern(1000, 3)}
	for _, ahead := range aheads {
		// By itself, in another head, within another part, and behind the end of one.
		alone := New()
		come(alone, ahead)
		asked := New()
		come(asked, ahead)
		asked.Head()
		within := New()
		within.Begin("other")
		come(within, ahead)
		behind := New()
		behind.Begin(ahead)
		come(behind, ahead)
		behind.Sum()
		behind.End()
		come(behind, ahead)
		ended := New()
		come(ended, ahead)
		ended.End()
		for _, x := range []*Tap{alone, asked, within, behind, ended} {
			x.Begin(head)
			come(x, content)
			x.End()
			holdSum(t, x, head+content)
		}
	}
}

func TestP21_2_WhatComesBehindPlaysNoPart(t *testing.T) {
	for _, n := range sizes() {
		part := pattern(n, 0x21)
		x := New()
		x.Begin(part[:n/3])
		come(x, part[n/3:])
		x.End()
		for _, behind := range []string{"", "a", part, edges, pattern(63, 4), pattern(64, 4), pattern(65, 4)} {
			come(x, behind)
			holdSum(t, x, part)
			x.Head()
			holdSum(t, x, part)
			x.End()
		}
		x.Push('z')
		holdSum(t, x, part)
	}
}

func TestP21_2_HoweverThePartIsAskedFor(t *testing.T) {
	// The head's length, and where heads and digests are asked for, change nothing for the part's digest.
	for _, n := range []int{0, 1, 2, 5, 63, 64, 65, 128, 130} {
		part := pattern(n, 0x42)
		for with := range n + 1 {
			for _, every := range []int{1, 2, 3, 7, 64, 1000} {
				x := New()
				come(x, "ahead")
				x.Head()
				come(x, part[:with])
				x.Begin(x.Head())
				askEvery(t, x, part[with:], every)
				x.End()
				holdSum(t, x, part)
				x.Push('b')
				holdSum(t, x, part)
			}
		}
	}
}

// askEvery pushes bytes, and asks for a head and a digest behind every so many of them.
func askEvery(t *testing.T, x *Tap, b string, every int) {
	start := 0
	for i := range len(b) {
		x.Push(b[i])
		if (i+1)%every == 0 {
			holdHead(t, x, b[start:i+1])
			start = i + 1
			x.Sum()
		}
	}
}

func TestP21_2_ThrownParts(t *testing.T) {
	d := dice(212)
	x := New()
	for range 1500 {
		come(x, d.bytes(d.below(100)))
		if d.below(2) == 0 {
			x.Head()
		}
		part := d.bytes(d.below(300))
		with := d.below(len(part) + 1)
		x.Begin(part[:with])
		x.Head()
		askEvery(t, x, part[with:], 1+d.below(40))
		if d.below(4) > 0 {
			x.End()
			come(x, d.bytes(d.below(100)))
		}
		holdSum(t, x, part)
	}
}

func TestP21_2_NestedElements(t *testing.T) {
	// The signed part of a list as it is digested: its head is what came since the list's own head.
	list := "\x30\x0c\x30\x05\x02\x01\x05\x05\x00\x03\x03\x00\xab\xcd"
	x := New()
	come(x, list[:2])
	holdHead(t, x, "\x30\x0c")
	come(x, list[2:4])
	x.Begin(x.Head())
	for i := 4; i < 9; i++ {
		x.Push(list[i])
	}
	x.End()
	come(x, list[9:])
	holdSum(t, x, list[2:9])
	holdHead(t, x, list[4:])
}

func TestRules_NoMoreIsKeptThanPromised(t *testing.T) {
	// Bytes that were asked for go, and of those of a part its digest alone stays.
	const pieces, size, bound = 1 << 8, 1 << 15, 1 << 21
	x, want := New(), sha.New()
	x.Begin("head")
	want.Write("head")
	before := inUse()
	for i := range pieces {
		b := pattern(size, byte(i))
		come(x, b)
		holdHead(t, x, b)
		want.Write(b)
	}
	if after := inUse(); after > before+bound {
		t.Fatalf("%d bytes are in use, %d were ahead", after, before)
	}
	if got, ok := x.Sum(); !ok || got != want.Sum() {
		t.Fatalf("Sum() = %x, %t, want %x, true", got, ok, want.Sum())
	}
}

// inUse is how many bytes are in use once what nobody holds is gone.
func inUse() uint64 {
	var stats runtime.MemStats
	runtime.GC()
	runtime.ReadMemStats(&stats)
	return stats.HeapAlloc
}
