package ident

import (
	"math"
	"strings"
	"testing"

	"gantlet/api"
)

// spelled is a head and its identifier's bytes, written out.
type spelled struct {
	h api.Head
	b string
}

// spellings are identifiers of every kind: of each class, primitive and constructed, of one byte and of more.
func spellings() []spelled {
	return []spelled{
		{api.Head{}, "\x00"},
		{api.Head{Tag: 1}, "\x01"},
		{api.Head{Tag: api.TInteger}, "\x02"},
		{api.Head{Tag: api.TSequence, Cons: true}, "\x30"},
		{api.Head{Tag: api.TSet, Cons: true}, "\x31"},
		{api.Head{Tag: api.TGeneralized}, "\x18"},
		{api.Head{Tag: 30}, "\x1e"},
		{api.Head{Tag: 30, Cons: true}, "\x3e"},
		{api.Head{Tag: 31}, "\x1f\x1f"},
		{api.Head{Tag: 31, Cons: true}, "\x3f\x1f"},
		{api.Head{Tag: 32}, "\x1f\x20"},
		{api.Head{Class: api.CApp}, "\x40"},
		{api.Head{Class: api.CApp, Cons: true, Tag: 128}, "\x7f\x81\x00"},
		{api.Head{Class: api.CContext, Cons: true}, "\xa0"},
		{api.Head{Class: api.CContext, Tag: 31}, "\x9f\x1f"},
		{api.Head{Class: api.CContext, Tag: 127}, "\x9f\x7f"},
		{api.Head{Class: api.CPrivate, Tag: 30}, "\xde"},
		{api.Head{Class: api.CPrivate, Cons: true, Tag: 30}, "\xfe"},
		{api.Head{Class: api.CPrivate, Cons: true, Tag: 31}, "\xff\x1f"},
		{api.Head{Tag: 127}, "\x1f\x7f"},
		{api.Head{Tag: 128}, "\x1f\x81\x00"},
		{api.Head{Tag: 129}, "\x1f\x81\x01"},
		{api.Head{Tag: 255}, "\x1f\x81\x7f"},
		{api.Head{Tag: 256}, "\x1f\x82\x00"},
		{api.Head{Tag: 1<<14 - 1}, "\x1f\xff\x7f"},
		{api.Head{Tag: 1 << 14}, "\x1f\x81\x80\x00"},
		{api.Head{Tag: 1<<21 - 1}, "\x1f\xff\xff\x7f"},
		{api.Head{Tag: 1 << 21}, "\x1f\x81\x80\x80\x00"},
		{api.Head{Tag: 0x2345678}, "\x1f\x91\xd1\xac\x78"},
		{api.Head{Tag: 1<<28 - 2}, "\x1f\xff\xff\xff\x7e"},
		{api.Head{Tag: 1<<28 - 1}, "\x1f\xff\xff\xff\x7f"},
		{api.Head{Class: api.CPrivate, Cons: true, Tag: api.MaxTag}, "\xff\xff\xff\xff\x7f"},
	}
}

// tags are those at which a group begins, and many between them.
func tags() []int {
	var list []int
	for tag := range 1 << 15 {
		list = append(list, tag)
	}
	for bit := 15; bit <= 28; bit++ {
		for tag := 1<<bit - 70; tag < 1<<bit+70 && tag <= api.MaxTag; tag++ {
			list = append(list, tag)
		}
	}
	for tag := 1 << 15; tag <= api.MaxTag; tag += 99991 {
		list = append(list, tag)
	}
	return list
}

// heads is each head with the tag, its Len 0.
func heads(tag int) []api.Head {
	var list []api.Head
	for class := api.CUniversal; class <= api.CPrivate; class++ {
		list = append(list, api.Head{Class: class, Tag: tag}, api.Head{Class: class, Tag: tag, Cons: true})
	}
	return list
}

// spell answers an identifier's bytes as the chapter says them, from the highest group on.
func spell(h api.Head) string {
	first := h.Class * 64
	if h.Cons {
		first += 32
	}
	if h.Tag < 31 {
		return string([]byte{byte(first + h.Tag)})
	}
	weight := 1
	for h.Tag/weight >= 128 {
		weight *= 128
	}
	b := []byte{byte(first + 31)}
	for ; weight > 1; weight /= 128 {
		b = append(b, byte(128+h.Tag/weight%128))
	}
	return string(append(b, byte(h.Tag%128)))
}

// holdPut compares what Put tells with what it must. It ends the test, because most tests hold thousands of heads.
func holdPut(t *testing.T, h api.Head, want string, wantErr api.Errno) {
	t.Helper()
	if b, err := Put(h); b != want || err != wantErr {
		t.Fatalf("Put(%v) = %x, error %d, want %x, error %d", h, b, err, want, wantErr)
	}
}

// holdGet compares what Get tells with what it must, and ends the test likewise.
func holdGet(t *testing.T, b string, at int, want api.Head, wantNext int, wantErr api.Errno) {
	t.Helper()
	if h, next, err := Get(b, at); h != want || next != wantNext || err != wantErr {
		t.Fatalf("Get(%x, %d) = %v, %d, error %d, want %v, %d, error %d", b, at, h, next, err, want, wantNext, wantErr)
	}
}

// anyNumbers are numbers of every size and sign.
func anyNumbers() []int {
	return []int{math.MinInt, math.MinInt + 1, -1 << 32, -257, -256, -64, -2, -1, 0, 1, 127, 128, api.MaxLen, api.MaxLen + 1, math.MaxInt}
}

func TestP5_1_ExamplesOfTheChapter(t *testing.T) {
	holdPut(t, api.Head{Class: 0, Cons: true, Tag: 16}, "\x30", api.OK)
	holdPut(t, api.Head{Class: 2, Tag: 31}, "\x9f\x1f", api.OK)
}

func TestP5_1_Spellings(t *testing.T) {
	for _, c := range spellings() {
		holdPut(t, c.h, c.b, api.OK)
	}
}

func TestP5_1_EveryClassAndManyTags(t *testing.T) {
	for _, tag := range tags() {
		for _, h := range heads(tag) {
			holdPut(t, h, spell(h), api.OK)
		}
	}
}

func TestP5_1_LenPlaysNoPart(t *testing.T) {
	for _, c := range spellings() {
		for _, n := range anyNumbers() {
			h := c.h
			h.Len = n
			holdPut(t, h, c.b, api.OK)
			h.Class = 4
			holdPut(t, h, "", api.ErrArg)
		}
	}
}

func TestP5_1_ClassesBeyond(t *testing.T) {
	for _, class := range []int{math.MinInt, -1 << 32, -256, -4, -3, -2, -1, 4, 5, 7, 8, 255, 256, 257, 1 << 32, math.MaxInt} {
		for _, tag := range []int{0, 16, 30, 31, 128, api.MaxTag, -1, api.MaxTag + 1} {
			holdPut(t, api.Head{Class: class, Tag: tag}, "", api.ErrArg)
			holdPut(t, api.Head{Class: class, Tag: tag, Cons: true, Len: 1}, "", api.ErrArg)
		}
	}
}

func TestP5_1_TagsBeyond(t *testing.T) {
	for _, tag := range []int{
		math.MinInt, -1 << 32, -1 << 28, -128, -31, -1,
		1 << 28, 1<<28 + 1, 1<<28 + 16, 1<<31 - 1, 1 << 32, 1<<32 + 16, 1<<35 - 1, 1 << 35, math.MaxInt,
	} {
		for _, h := range heads(tag) {
			holdPut(t, h, "", api.ErrArg)
		}
	}
}

func TestP5_2_ExamplesOfTheChapter(t *testing.T) {
	holdGet(t, "\x1f\x1e", 0, api.Head{}, 1, api.ErrTag)
	holdGet(t, "\x1f\x80", 0, api.Head{}, 1, api.ErrTag)
}

func TestP5_2_Spellings(t *testing.T) {
	for _, c := range spellings() {
		holdGet(t, c.b, 0, c.h, len(c.b), api.OK)
		// What stands ahead, and behind, plays no part.
		for _, ahead := range []string{"", "\x1f", "\x30\x80", "\xff\xff\xff", c.b} {
			for _, behind := range []string{"", "\x00", "\x80", "\xff\xff", c.b} {
				holdGet(t, ahead+c.b+behind, len(ahead), c.h, len(ahead)+len(c.b), api.OK)
			}
		}
	}
}

func TestP5_2_PlacesBeyond(t *testing.T) {
	for _, b := range []string{"", "\x02", "\x1f", "\x1f\x80", "\x30\x80\x00"} {
		for _, at := range []int{math.MinInt, -1 << 32, -len(b) - 1, -2, -1, len(b) + 1, len(b) + 2, 1 << 32, 1<<32 + len(b), math.MaxInt - 1, math.MaxInt} {
			holdGet(t, b, at, api.Head{}, 0, api.ErrArg)
		}
		// At the end there is none.
		holdGet(t, b, len(b), api.Head{}, len(b), api.ErrCut)
	}
}

func TestP5_2_WrongTags(t *testing.T) {
	for _, c := range []struct {
		groups string
		at     int
	}{
		// The first group is 128, whatever stands behind it.
		{"\x80", 0}, {"\x80\x00", 0}, {"\x80\x1f", 0}, {"\x80\x80", 0}, {"\x80\xff\x7f", 0}, {"\x80\x81\x00", 0},
		// The only group is below 31.
		{"\x00", 0}, {"\x01", 0}, {"\x10", 0}, {"\x1d", 0}, {"\x1e", 0}, {"\x1e\x7f", 0},
		// The fifth group makes the tag 2^28, or more, whether or not another follows.
		{"\x81\x80\x80\x80\x00", 4}, {"\x81\x80\x80\x80\x7f", 4}, {"\x81\x80\x80\x80\x80", 4}, {"\x81\x80\x80\x80\x80\x00", 4},
		{"\xff\xff\xff\xff\x7f", 4}, {"\xff\xff\xff\xff\xff", 4}, {"\x90\x80\x80\x80\x00", 4},
	} {
		for _, ahead := range []string{"", "\x02", "\x1f\x81"} {
			for _, first := range []string{"\x1f", "\x3f", "\x5f", "\xbf", "\xff"} {
				at := len(ahead) + 1
				holdGet(t, ahead+first+c.groups, len(ahead), api.Head{}, at+c.at, api.ErrTag)
				// The byte ahead of the wrong one isn't.
				holdGet(t, ahead+first+c.groups[:c.at], len(ahead), api.Head{}, at+c.at, api.ErrCut)
			}
		}
	}
}

func TestP5_2_ManyGroups(t *testing.T) {
	// So many groups that a tag could wrap round and be small again.
	for n := range 40 {
		for _, group := range []string{"\x81", "\xff"} {
			for _, last := range []string{"\x00", "\x1f", "\x7f"} {
				b := "\x1f" + strings.Repeat(group, 5+n) + last
				holdGet(t, b, 0, api.Head{}, 5, api.ErrTag)
			}
			b := "\x1f" + group + strings.Repeat("\x80", 4+n) + "\x20"
			holdGet(t, b, 0, api.Head{}, 5, api.ErrTag)
		}
	}
}

func TestP5_2_GroupsOfNothingBehindTheFirst(t *testing.T) {
	holdGet(t, "\x1f\x81\x80\x00", 0, api.Head{Tag: 1 << 14}, 4, api.OK)
	holdGet(t, "\x1f\x81\x80\x1e", 0, api.Head{Tag: 1<<14 + 30}, 4, api.OK)
	holdGet(t, "\x1f\xc0\x80\x80\x00", 0, api.Head{Tag: 1 << 27}, 5, api.OK)
}

// read answers what the chapter says of Get, each byte looked at for itself, by all the groups up to it.
func read(b string, at int) (api.Head, int, api.Errno) {
	if at < 0 || at > len(b) {
		return api.Head{}, 0, api.ErrArg
	}
	for i := at; i < len(b); i++ {
		groups := b[at+1 : i+1]
		tag := int(b[at]) % 32
		last := tag < 31
		if i > at {
			tag = 0
			for _, group := range []byte(groups) {
				tag = tag*128 + int(group)%128
			}
			last = b[i] < 128
			if groups == "\x80" || tag > api.MaxTag || last && tag < 31 {
				return api.Head{}, i, api.ErrTag
			}
		}
		if last {
			return api.Head{Class: int(b[at]) / 64, Cons: int(b[at])/32%2 == 1, Tag: tag}, i + 1, api.OK
		}
	}
	return api.Head{}, len(b), api.ErrCut
}

// everyText goes to each text of at most so many bytes, all of them of those given.
func everyText(bytes string, most int, visit func(b string)) {
	texts := []string{""}
	for long := 0; ; long++ {
		var longer []string
		for _, b := range texts {
			visit(b)
			if long == most {
				continue
			}
			for i := range len(bytes) {
				longer = append(longer, b+bytes[i:i+1])
			}
		}
		if long == most {
			return
		}
		texts = longer
	}
}

// everyByte is all bytes, one behind the other.
func everyByte() string {
	b := make([]byte, 256)
	for i := range b {
		b[i] = byte(i)
	}
	return string(b)
}

// holdText compares what Get tells of a text, from each place, with what the chapter says; what is got is put again.
func holdText(t *testing.T, b string) {
	t.Helper()
	for at := -1; at <= len(b)+1; at++ {
		h, next, err := read(b, at)
		holdGet(t, b, at, h, next, err)
		if err == api.OK {
			holdPut(t, h, b[at:next], api.OK)
		}
	}
}

func TestP5_2_P5_3_EveryShortText(t *testing.T) {
	everyText(everyByte(), 2, func(b string) { holdText(t, b) })
	edges := "\x00\x1e\x1f\x20\x3f\x7f\x80\x81\x82\x9e\xff"
	everyText(edges, 4, func(b string) { holdText(t, b) })
	everyText("\x1f\x7f\x80\x81\xff", 7, func(b string) { holdText(t, b) })
}

func TestP5_2_EveryByteAtEachPlace(t *testing.T) {
	// Behind each number of groups that may stand ahead of it.
	for _, ahead := range []string{"", "\x1f", "\x1f\x81", "\x3f\x81\x80", "\x5f\xff\xff", "\x9f\x81\x80\x80", "\xff\xff\xff\xff", "\x1f\x81\x80\x80\x80"} {
		for _, b := range []byte(everyByte()) {
			holdText(t, ahead+string([]byte{b}))
			holdText(t, ahead+string([]byte{b})+"\x00\x1f")
		}
	}
}

func TestP5_3_WhatIsPutIsGot(t *testing.T) {
	for _, tag := range tags() {
		for _, h := range heads(tag) {
			b, _ := Put(h)
			holdGet(t, b, 0, h, len(b), api.OK)
			h.Len = 7
			again, _ := Put(h)
			h.Len = 0
			holdGet(t, "\x80"+again+"\x80", 1, h, len(b)+1, api.OK)
		}
	}
}

func TestP5_3_WhatIsGotIsPutAsItWas(t *testing.T) {
	for _, c := range spellings() {
		h, next, err := Get(c.b, 0)
		if err != api.OK {
			t.Errorf("%x: error %d", c.b, err)
		}
		holdPut(t, h, c.b[:next], api.OK)
	}
}

func TestP5_3_BeginningsAreCut(t *testing.T) {
	for _, tag := range tags() {
		for _, h := range heads(tag) {
			b, _ := Put(h)
			for n := range len(b) {
				holdGet(t, b[:n], 0, api.Head{}, n, api.ErrCut)
				holdGet(t, "\x1f\x00"+b[:n], 2, api.Head{}, n+2, api.ErrCut)
			}
		}
	}
}

func TestP5_3_OneBehindTheOther(t *testing.T) {
	var all strings.Builder
	for _, c := range spellings() {
		all.WriteString(c.b)
	}
	b, at := all.String(), 0
	for _, c := range spellings() {
		holdGet(t, b, at, c.h, at+len(c.b), api.OK)
		at += len(c.b)
	}
	holdGet(t, b, at, api.Head{}, len(b), api.ErrCut)
}
