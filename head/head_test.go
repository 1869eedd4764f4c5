package head

import (
	"math"
	"strings"
	"testing"

	"gantlet/api"
)

// spelled is a head, and its identifier's and its length's bytes, written out.
type spelled struct {
	h        api.Head
	id, size string
}

// spellings are heads at each edge of the tag and of the length, of each class, primitive and constructed.
func spellings() []spelled {
	return []spelled{
		{api.Head{}, "\x00", "\x00"},
		{api.Head{Tag: api.TInteger, Len: 1}, "\x02", "\x01"},
		{api.Head{Tag: api.TNull}, "\x05", "\x00"},
		{api.Head{Tag: api.TUtc, Len: 13}, "\x17", "\x0d"},
		{api.Head{Tag: api.TSequence, Cons: true}, "\x30", "\x00"},
		{api.Head{Tag: api.TSequence, Cons: true, Len: 127}, "\x30", "\x7f"},
		{api.Head{Tag: api.TSequence, Cons: true, Len: 128}, "\x30", "\x81\x80"},
		{api.Head{Tag: api.TSequence, Cons: true, Len: 255}, "\x30", "\x81\xff"},
		{api.Head{Tag: api.TSequence, Cons: true, Len: 256}, "\x30", "\x82\x01\x00"},
		{api.Head{Tag: api.TSet, Cons: true, Len: 1<<16 - 1}, "\x31", "\x82\xff\xff"},
		{api.Head{Tag: api.TSet, Cons: true, Len: 1 << 16}, "\x31", "\x83\x01\x00\x00"},
		{api.Head{Tag: api.TOctets, Len: 1 << 31}, "\x04", "\x84\x80\x00\x00\x00"},
		{api.Head{Tag: api.TOctets, Len: 1 << 32}, "\x04", "\x85\x01\x00\x00\x00\x00"},
		{api.Head{Tag: api.TOctets, Len: 1 << 40}, "\x04", "\x86\x01\x00\x00\x00\x00\x00"},
		{api.Head{Tag: api.TOctets, Len: 1 << 48}, "\x04", "\x87\x01\x00\x00\x00\x00\x00\x00"},
		{api.Head{Tag: api.TOctets, Len: 1<<61 - 1}, "\x04", "\x88\x1f\xff\xff\xff\xff\xff\xff\xff"},
		{api.Head{Class: api.CContext, Cons: true, Len: 5}, "\xa0", "\x05"},
		{api.Head{Class: api.CPrivate, Tag: 30, Len: 31}, "\xde", "\x1f"},
		{api.Head{Class: api.CContext, Tag: 31}, "\x9f\x1f", "\x00"},
		{api.Head{Class: api.CContext, Tag: 31, Len: 128}, "\x9f\x1f", "\x81\x80"},
		{api.Head{Class: api.CApp, Cons: true, Tag: 128, Len: 127}, "\x7f\x81\x00", "\x7f"},
		{api.Head{Tag: 1<<14 - 1, Len: 129}, "\x1f\xff\x7f", "\x81\x81"},
		{api.Head{Tag: 1 << 21, Len: 0x123456}, "\x1f\x81\x80\x80\x00", "\x83\x12\x34\x56"},
		{api.Head{Class: api.CApp, Tag: 1<<28 - 1}, "\x5f\xff\xff\xff\x7f", "\x00"},
		{api.Head{Class: api.CPrivate, Cons: true, Tag: api.MaxTag, Len: api.MaxLen}, "\xff\xff\xff\xff\x7f", "\x88\x1f\xff\xff\xff\xff\xff\xff\xff"},
	}
}

// tags are those at which the number of an identifier's bytes grows, and some others.
func tags() []int {
	return []int{
		0, 1, 2, 16, 29, 30, 31, 32, 126, 127, 128, 129, 255, 256, 1<<14 - 1, 1 << 14,
		1<<21 - 1, 1 << 21, 0x2345678, 1<<28 - 2, 1<<28 - 1,
	}
}

// lens are those at which the number of a length's bytes grows, and some others.
func lens() []int {
	list := []int{0, 1, 30, 31, 126, 127, 128, 129, 0x123456, 1<<61 - 2, 1<<61 - 1}
	for bit := 8; bit <= 56; bit += 8 {
		list = append(list, 1<<bit-1, 1<<bit, 1<<bit+1)
	}
	return list
}

// everyHead goes to each head of each class, primitive and constructed, with these tags and lengths.
func everyHead(tags, lens []int, visit func(h api.Head)) {
	for class := api.CUniversal; class <= api.CPrivate; class++ {
		for _, tag := range tags {
			for _, n := range lens {
				visit(api.Head{Class: class, Tag: tag, Len: n})
				visit(api.Head{Class: class, Tag: tag, Cons: true, Len: n})
			}
		}
	}
}

// spell answers a head's bytes as the chapters say them, by division.
func spell(h api.Head) string {
	first := h.Class * 64
	if h.Cons {
		first += 32
	}
	if h.Tag < 31 {
		return string([]byte{byte(first + h.Tag)}) + spellLen(h.Len)
	}
	groups := string([]byte{byte(h.Tag % 128)})
	for tag := h.Tag / 128; tag > 0; tag /= 128 {
		groups = string([]byte{byte(128 + tag%128)}) + groups
	}
	return string([]byte{byte(first + 31)}) + groups + spellLen(h.Len)
}

// spellLen answers a length's bytes likewise.
func spellLen(n int) string {
	if n < 128 {
		return string([]byte{byte(n)})
	}
	number := ""
	for ; n > 0; n /= 256 {
		number = string([]byte{byte(n % 256)}) + number
	}
	return string([]byte{byte(128 + len(number))}) + number
}

// holdPut compares what Put tells with what it must. It ends the test, because most tests hold thousands of heads.
func holdPut(t *testing.T, h api.Head, want string, wantErr api.Errno) {
	t.Helper()
	if b, err := Put(h); b != want || err != wantErr {
		t.Fatalf("Put(%v) = %x, error %d, want %x, error %d", h, b, err, want, wantErr)
	}
}

// holdGet compares what Get tells with what it must, and ends the test likewise.
func holdGet(t *testing.T, b string, at int, want api.Head, wantNext int, wantErr api.Errno) {
	t.Helper()
	if h, next, err := Get(b, at); h != want || next != wantNext || err != wantErr {
		t.Fatalf("Get(%x, %d) = %v, %d, error %d, want %v, %d, error %d", b, at, h, next, err, want, wantNext, wantErr)
	}
}

// holdPush compares what Push tells of a byte with what it must, and ends the test likewise.
func holdPush(t *testing.T, r *Reader, b byte, want api.Head, wantOk bool, wantErr api.Errno) {
	t.Helper()
	if h, ok, err := r.Push(b); h != want || ok != wantOk || err != wantErr {
		t.Fatalf("Push(%x) = %v, %t, error %d, want %v, %t, error %d", b, h, ok, err, want, wantOk, wantErr)
	}
}

// holdNothing sees that none of the bytes brings a head, or an error.
func holdNothing(t *testing.T, r *Reader, bytes string) {
	t.Helper()
	for _, b := range []byte(bytes) {
		holdPush(t, r, b, api.Head{}, false, api.OK)
	}
}

// holdWhole sees that the last one of the bytes, and only that, brings the head.
func holdWhole(t *testing.T, r *Reader, bytes string, want api.Head) {
	t.Helper()
	last := len(bytes) - 1
	holdNothing(t, r, bytes[:last])
	holdPush(t, r, bytes[last], want, true, api.OK)
}

// holdError sees that each of the bytes tells the error.
func holdError(t *testing.T, r *Reader, bytes string, want api.Errno) {
	t.Helper()
	for _, b := range []byte(bytes) {
		holdPush(t, r, b, api.Head{}, false, want)
	}
}

func TestP7_1_ExamplesOfTheChapter(t *testing.T) {
	holdPut(t, api.Head{Tag: api.TInteger, Len: 1}, "\x02\x01", api.OK)
}

func TestP7_1_Spellings(t *testing.T) {
	for _, c := range spellings() {
		holdPut(t, c.h, c.id+c.size, api.OK)
	}
}

func TestP7_1_EachTagWithEachLength(t *testing.T) {
	everyHead(tags(), lens(), func(h api.Head) { holdPut(t, h, spell(h), api.OK) })
}

func TestP7_1_IdentifiersBeyond(t *testing.T) {
	for _, n := range []int{0, 127, 128, api.MaxLen, -1, api.MaxLen + 1} {
		for _, class := range []int{math.MinInt, -256, -4, -1, 4, 5, 256, 1 << 32, math.MaxInt} {
			for _, tag := range []int{0, 30, 31, api.MaxTag, -1, api.MaxTag + 1} {
				holdPut(t, api.Head{Class: class, Tag: tag, Len: n}, "", api.ErrArg)
				holdPut(t, api.Head{Class: class, Tag: tag, Cons: true, Len: n}, "", api.ErrArg)
			}
		}
		beyond := []int{math.MinInt, -1 << 28, -31, -1, 1 << 28, 1<<28 + 1, 1<<31 - 1, 1 << 32, 1<<32 + 16, math.MaxInt}
		everyHead(beyond, []int{n}, func(h api.Head) { holdPut(t, h, "", api.ErrArg) })
	}
}

func TestP7_1_LengthsBeyond(t *testing.T) {
	beyond := []int{
		math.MinInt, math.MinInt + 1, -1 << 61, -1 << 32, -257, -256, -128, -2, -1,
		1 << 61, 1<<61 + 1, 1 << 62, math.MaxInt - 1, math.MaxInt,
	}
	everyHead(tags(), beyond, func(h api.Head) { holdPut(t, h, "", api.ErrArg) })
}

func TestP7_2_ExamplesOfTheChapter(t *testing.T) {
	holdGet(t, "\x30\x80", 0, api.Head{}, 1, api.ErrLength)
	holdGet(t, "\x02\x01", 0, api.Head{Tag: api.TInteger, Len: 1}, 2, api.OK)
}

func TestP7_2_Spellings(t *testing.T) {
	for _, c := range spellings() {
		b := c.id + c.size
		// What stands ahead, and behind, plays no part.
		for _, ahead := range []string{"", "\x1f", "\x30", "\x30\x80", "\x02\x01", "\xff\xff\xff", b} {
			for _, behind := range []string{"", "\x00", "\x80", "\x1f\x80", "\xff\xff", b} {
				holdGet(t, ahead+b+behind, len(ahead), c.h, len(ahead)+len(b), api.OK)
			}
		}
	}
}

func TestP7_2_PlacesBeyond(t *testing.T) {
	for _, b := range []string{"", "\x02", "\x02\x01", "\x1f\x80", "\x30\x80\x00", "\x02\x01\x07"} {
		for _, at := range []int{math.MinInt, -1 << 32, -len(b) - 1, -2, -1, len(b) + 1, len(b) + 2, 1 << 32, 1<<32 + len(b), math.MaxInt - 1, math.MaxInt} {
			holdGet(t, b, at, api.Head{}, 0, api.ErrArg)
		}
		// At the end there is none.
		holdGet(t, b, len(b), api.Head{}, len(b), api.ErrCut)
	}
}

func TestP7_2_NoLengthBehind(t *testing.T) {
	for _, c := range spellings() {
		holdGet(t, c.id, 0, api.Head{}, len(c.id), api.ErrCut)
		holdGet(t, "\x02\x01"+c.id, 2, api.Head{}, 2+len(c.id), api.ErrCut)
	}
}

func TestP7_2_BeginningsAreCut(t *testing.T) {
	holdGet(t, "", 0, api.Head{}, 0, api.ErrCut)
	everyHead(tags(), lens(), func(h api.Head) {
		b := spell(h)
		for n := range len(b) {
			holdGet(t, b[:n], 0, api.Head{}, n, api.ErrCut)
			holdGet(t, "\x1f\x80"+b[:n], 2, api.Head{}, n+2, api.ErrCut)
		}
	})
}

// wrong is bytes, the last one of which can't belong.
type wrong struct {
	b   string
	err api.Errno
}

// wrongIdentifiers are those that end with the byte at which ErrTag is told.
func wrongIdentifiers() []wrong {
	var list []wrong
	for _, first := range []string{"\x1f", "\x3f", "\x5f", "\xbf", "\xff"} {
		for _, groups := range []string{
			"\x80", "\x00", "\x01", "\x10", "\x1e",
			"\x81\x80\x80\x80\x00", "\x81\x80\x80\x80\x80", "\xff\xff\xff\xff\x7f", "\xff\xff\xff\xff\xff", "\x90\x80\x80\x80\x00",
		} {
			list = append(list, wrong{first + groups, api.ErrTag})
		}
	}
	return list
}

// wrongLengths are right identifiers, and behind each what ends with the byte at which ErrLength is told.
func wrongLengths() []wrong {
	var list []wrong
	for _, id := range []string{"\x02", "\x30", "\x1e", "\x9f\x1f", "\x7f\x81\x00", "\x1f\x81\x80\x80\x00", "\xff\xff\xff\xff\x7f"} {
		for _, size := range []string{
			"\x80", "\x89", "\x8a", "\x90", "\xfe", "\xff",
			"\x81\x00", "\x81\x01", "\x81\x7f", "\x82\x00", "\x83\x00", "\x88\x00",
			"\x88\x20\x00\x00\x00\x00\x00\x00\x00", "\x88\x20\x00\x00\x00\x00\x00\x00\x01", "\x88\x7f\xff\xff\xff\xff\xff\xff\xff",
			"\x88\x80\x00\x00\x00\x00\x00\x00\x00", "\x88\xff\xff\xff\xff\xff\xff\xff\xff",
		} {
			list = append(list, wrong{id + size, api.ErrLength})
		}
	}
	return list
}

func TestP7_2_WrongOnesAreToldAtTheirByte(t *testing.T) {
	for _, c := range append(wrongIdentifiers(), wrongLengths()...) {
		at := len(c.b) - 1
		for _, ahead := range []string{"", "\x02", "\x1f\x81", "\x30\x80"} {
			// Behind a wrong identifier also a wrong length: the first one is told.
			for _, behind := range []string{"", "\x00", "\x80", "\x81\x05", "\x02\x01", "\xff\xff\xff"} {
				holdGet(t, ahead+c.b+behind, len(ahead), api.Head{}, len(ahead)+at, c.err)
			}
			// The bytes ahead of the wrong one aren't.
			for n := range len(c.b) {
				holdGet(t, ahead+c.b[:n], len(ahead), api.Head{}, len(ahead)+n, api.ErrCut)
			}
		}
	}
}

func TestP7_2_OneBehindTheOther(t *testing.T) {
	var all strings.Builder
	for _, c := range spellings() {
		all.WriteString(c.id + c.size)
	}
	b, at := all.String(), 0
	for _, c := range spellings() {
		next := at + len(c.id) + len(c.size)
		holdGet(t, b, at, c.h, next, api.OK)
		at = next
	}
	holdGet(t, b, at, api.Head{}, len(b), api.ErrCut)
}

func TestP7_1_P7_2_WhatIsPutIsGot(t *testing.T) {
	everyHead(tags(), lens(), func(h api.Head) {
		b, _ := Put(h)
		holdGet(t, b, 0, h, len(b), api.OK)
		holdGet(t, "\x80"+b+"\x80", 1, h, len(b)+1, api.OK)
	})
}

// read answers what the chapters say of Get, each byte looked at for itself.
func read(b string, at int) (api.Head, int, api.Errno) {
	if at < 0 || at > len(b) {
		return api.Head{}, 0, api.ErrArg
	}
	tag, next, err := readTag(b, at)
	if err != api.OK {
		return api.Head{}, next, err
	}
	n, next, err := readLen(b, next)
	if err != api.OK {
		return api.Head{}, next, err
	}
	return api.Head{Class: int(b[at]) / 64, Cons: int(b[at])/32%2 == 1, Tag: tag, Len: n}, next, api.OK
}

// readTag looks at an identifier's bytes from at on, each with all the groups up to it.
func readTag(b string, at int) (int, int, api.Errno) {
	for i := at; i < len(b); i++ {
		if i == at {
			if tag := int(b[at]) % 32; tag < 31 {
				return tag, i + 1, api.OK
			}
			continue
		}
		tag := 0
		for _, group := range []byte(b[at+1 : i+1]) {
			tag = tag*128 + int(group)%128
		}
		if i == at+1 && b[i] == 128 || tag > api.MaxTag || b[i] < 128 && tag < 31 {
			return 0, i, api.ErrTag
		}
		if b[i] < 128 {
			return tag, i + 1, api.OK
		}
	}
	return 0, len(b), api.ErrCut
}

// readLen looks at a length's bytes from at on, each with all the bytes up to it.
func readLen(b string, at int) (int, int, api.Errno) {
	for i := at; i < len(b); i++ {
		first := int(b[at])
		if first < 128 {
			return first, i + 1, api.OK
		}
		if first == 128 || first > 136 {
			return 0, i, api.ErrLength
		}
		number := uint64(0)
		for _, digit := range []byte(b[at+1 : i+1]) {
			number = number*256 + uint64(digit)
		}
		last := i == at+first-128
		if i == at+1 && (b[i] == 0 || last && b[i] < 128) || last && number > api.MaxLen {
			return 0, i, api.ErrLength
		}
		if last {
			return int(number), i + 1, api.OK
		}
	}
	return 0, len(b), api.ErrCut
}

// everyText goes to each text of at most so many bytes, all of them of those given.
func everyText(bytes string, most int, visit func(b string)) {
	texts := []string{""}
	for long := 0; ; long++ {
		var longer []string
		for _, b := range texts {
			visit(b)
			if long == most {
				continue
			}
			for i := range len(bytes) {
				longer = append(longer, b+bytes[i:i+1])
			}
		}
		if long == most {
			return
		}
		texts = longer
	}
}

// everyByte is all bytes, one behind the other.
func everyByte() string {
	b := make([]byte, 256)
	for i := range b {
		b[i] = byte(i)
	}
	return string(b)
}

// holdText compares what Get tells of a text, from each place, with what the chapters say; what is got is put again.
func holdText(t *testing.T, b string) {
	t.Helper()
	for at := -1; at <= len(b)+1; at++ {
		h, next, err := read(b, at)
		holdGet(t, b, at, h, next, err)
		if err == api.OK {
			holdPut(t, h, b[at:next], api.OK)
		}
	}
}

// holdReader compares what a new reader tells of a text's bytes with what Get must tell of the whole text, head by
// head: the same, at the same byte, and nothing ahead of it.
func holdReader(t *testing.T, b string) {
	t.Helper()
	r := New()
	for at := 0; at < len(b); {
		h, next, err := read(b, at)
		switch err {
		case api.OK:
			holdWhole(t, r, b[at:next], h)
			at = next
		case api.ErrCut:
			holdNothing(t, r, b[at:])
			return
		default:
			holdNothing(t, r, b[at:next])
			holdError(t, r, b[next:], err)
			holdError(t, r, "\x02\x01\x80", err)
			return
		}
	}
}

// everyEdge goes to all short texts, and to longer ones of bytes at which something changes.
func everyEdge(visit func(b string)) {
	everyText(everyByte(), 2, visit)
	everyText("\x00\x02\x1e\x1f\x30\x7f\x80\x81\x82\x88\x89\xff", 4, visit)
	everyText("\x1f\x7f\x80\x81\xff", 6, visit)
	everyText("\x01\x30\x82", 8, visit)
}

// everyChange goes to the written-out heads, one byte of each changed into every other, with and without bytes behind.
func everyChange(visit func(b string)) {
	for _, c := range spellings() {
		whole := c.id + c.size
		for at := range len(whole) {
			for _, b := range []byte(everyByte()) {
				changed := whole[:at] + string([]byte{b}) + whole[at+1:]
				visit(changed)
				visit(changed + "\x02\x01")
			}
		}
	}
}

func TestP7_2_EveryShortText(t *testing.T) {
	everyEdge(func(b string) { holdText(t, b) })
}

func TestP7_2_EveryByteAtEachPlace(t *testing.T) {
	everyChange(func(b string) { holdText(t, b) })
}

func TestP7_3_EveryShortText(t *testing.T) {
	everyEdge(func(b string) { holdReader(t, b) })
}

func TestP7_3_EveryByteAtEachPlace(t *testing.T) {
	everyChange(func(b string) { holdReader(t, b) })
}

func TestP7_3_ExamplesOfTheChapter(t *testing.T) {
	r := New()
	holdNothing(t, r, "\x30")
	holdError(t, r, "\x80", api.ErrLength)
	holdWhole(t, New(), "\x02\x01", api.Head{Tag: api.TInteger, Len: 1})
}

func TestP7_3_Spellings(t *testing.T) {
	for _, c := range spellings() {
		holdWhole(t, New(), c.id+c.size, c.h)
	}
}

func TestP7_3_BeginningsTellNothingAndTheLastByteTheHead(t *testing.T) {
	r := New()
	everyHead(tags(), lens(), func(h api.Head) { holdWhole(t, r, spell(h), h) })
}

func TestP7_3_TheNextByteBeginsAnother(t *testing.T) {
	// Each one behind each: nothing of the one ahead stays.
	for _, ahead := range spellings() {
		for _, behind := range spellings() {
			r := New()
			holdWhole(t, r, ahead.id+ahead.size, ahead.h)
			holdWhole(t, r, behind.id+behind.size, behind.h)
			holdWhole(t, r, ahead.id+ahead.size, ahead.h)
		}
	}
}

func TestP7_3_WrongOnesAreToldForEver(t *testing.T) {
	for _, c := range append(wrongIdentifiers(), wrongLengths()...) {
		// Also behind heads that were whole.
		for _, ahead := range []int{0, 1, 3} {
			r := New()
			for range ahead {
				holdWhole(t, r, "\x30\x81\x80", api.Head{Tag: api.TSequence, Cons: true, Len: 128})
			}
			last := len(c.b) - 1
			holdNothing(t, r, c.b[:last])
			holdError(t, r, c.b[last:], c.err)
			// Neither what would be a head, nor what would be another error, is looked at.
			holdError(t, r, "\x02\x01", c.err)
			holdError(t, r, "\x30\x80\x1f\x80", c.err)
			holdError(t, r, everyByte(), c.err)
		}
	}
}

func TestP7_3_ReadersKnowNothingOfEachOther(t *testing.T) {
	first, second, third := New(), New(), New()
	holdNothing(t, first, "\x30\x82\x01")
	holdNothing(t, second, "\x1f")
	holdError(t, second, "\x80", api.ErrTag)
	holdWhole(t, third, "\x02\x01", api.Head{Tag: api.TInteger, Len: 1})
	holdWhole(t, first, "\x00", api.Head{Tag: api.TSequence, Cons: true, Len: 256})
	holdError(t, second, "\x02\x01", api.ErrTag)
	holdWhole(t, New(), "\x05\x00", api.Head{Tag: api.TNull})
}

func TestP7_3_GetAndPutTouchNoReader(t *testing.T) {
	r := New()
	holdNothing(t, r, "\x9f")
	holdGet(t, "\x1f\x80", 0, api.Head{}, 1, api.ErrTag)
	holdPut(t, api.Head{Tag: -1}, "", api.ErrArg)
	holdWhole(t, r, "\x1f\x00", api.Head{Class: api.CContext, Tag: 31})
}

func TestP7_3_KeepsNoMoreThanOneHead(t *testing.T) {
	// The longest bytes that aren't whole yet: five of the identifier, eight of the length.
	r := New()
	for range 3 {
		for _, b := range []byte("\xff\xff\xff\xff\x7f\x88\x1f\xff\xff\xff\xff\xff\xff\xff") {
			r.Push(b)
			if len(r.came) > 13 {
				t.Fatalf("%d bytes are kept", len(r.came))
			}
		}
		if r.came != "" {
			t.Errorf("%x is kept of a whole head", r.came)
		}
	}
	holdNothing(t, r, "\x30")
	holdError(t, r, "\x80"+strings.Repeat("\x00", 100), api.ErrLength)
	if r.came != "" {
		t.Errorf("%x is kept behind an error", r.came)
	}
}
