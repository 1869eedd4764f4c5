package length

import (
	"math"
	"math/big"
	"slices"
	"strings"
	"testing"

	"gantlet/api"
)

// spelled is a number and its length's bytes, written out.
type spelled struct {
	n int
	b string
}

// spellings are numbers at each edge: of one byte, and of each number of bytes that may follow.
func spellings() []spelled {
	return []spelled{
		{0, "\x00"},
		{1, "\x01"},
		{2, "\x02"},
		{126, "\x7e"},
		{127, "\x7f"},
		{128, "\x81\x80"},
		{129, "\x81\x81"},
		{200, "\x81\xc8"},
		{254, "\x81\xfe"},
		{255, "\x81\xff"},
		{256, "\x82\x01\x00"},
		{257, "\x82\x01\x01"},
		{435, "\x82\x01\xb3"},
		{32767, "\x82\x7f\xff"},
		{32768, "\x82\x80\x00"},
		{1<<16 - 1, "\x82\xff\xff"},
		{1 << 16, "\x83\x01\x00\x00"},
		{0x123456, "\x83\x12\x34\x56"},
		{1<<24 - 1, "\x83\xff\xff\xff"},
		{1 << 24, "\x84\x01\x00\x00\x00"},
		{1<<31 - 1, "\x84\x7f\xff\xff\xff"},
		{1 << 31, "\x84\x80\x00\x00\x00"},
		{1<<32 - 1, "\x84\xff\xff\xff\xff"},
		{1 << 32, "\x85\x01\x00\x00\x00\x00"},
		{1<<40 - 1, "\x85\xff\xff\xff\xff\xff"},
		{1 << 40, "\x86\x01\x00\x00\x00\x00\x00"},
		{1<<48 - 1, "\x86\xff\xff\xff\xff\xff\xff"},
		{1 << 48, "\x87\x01\x00\x00\x00\x00\x00\x00"},
		{1<<56 - 1, "\x87\xff\xff\xff\xff\xff\xff\xff"},
		{1 << 56, "\x88\x01\x00\x00\x00\x00\x00\x00\x00"},
		{0x123456789abcdef, "\x88\x01\x23\x45\x67\x89\xab\xcd\xef"},
		{1<<61 - 2, "\x88\x1f\xff\xff\xff\xff\xff\xff\xfe"},
		{1<<61 - 1, "\x88\x1f\xff\xff\xff\xff\xff\xff\xff"},
	}
}

// numbers are those around each power of 2, all small ones, and many between them, rising.
func numbers() []int {
	var list []int
	for n := range 1<<16 + 300 {
		list = append(list, n)
	}
	for bit := 17; bit <= 61; bit++ {
		for n := 1<<bit - 70; n < 1<<bit+70 && n <= api.MaxLen; n++ {
			list = append(list, n)
		}
		for n := 1<<bit + 70; bit < 61 && n < 1<<(bit+1)-70; n += 1<<bit/97 + 1 {
			list = append(list, n)
		}
	}
	return list
}

// beyond are numbers that have no length's bytes.
func beyond() []int {
	return []int{
		math.MinInt, math.MinInt + 1, -1 << 61, -1 << 32, -1<<32 + 5, -65536, -257, -256, -255, -129, -128, -127, -2, -1,
		1 << 61, 1<<61 + 1, 1<<61 + 127, 1<<62 - 1, 1 << 62, math.MaxInt - 1, math.MaxInt,
	}
}

// spell answers a length's bytes as the chapter says them, by division, from the lowest byte on.
func spell(n int) string {
	if n < 128 {
		return string([]byte{byte(n)})
	}
	var b []byte
	for ; n > 0; n /= 256 {
		b = append(b, byte(n%256))
	}
	b = append(b, byte(128+len(b)))
	slices.Reverse(b)
	return string(b)
}

// holdPut compares what Put tells with what it must. It ends the test, because most tests hold thousands of numbers.
func holdPut(t *testing.T, n int, want string, wantErr api.Errno) {
	t.Helper()
	if b, err := Put(n); b != want || err != wantErr {
		t.Fatalf("Put(%d) = %x, error %d, want %x, error %d", n, b, err, want, wantErr)
	}
}

// holdGet compares what Get tells with what it must, and ends the test likewise.
func holdGet(t *testing.T, b string, at int, want, wantNext int, wantErr api.Errno) {
	t.Helper()
	if n, next, err := Get(b, at); n != want || next != wantNext || err != wantErr {
		t.Fatalf("Get(%x, %d) = %d, %d, error %d, want %d, %d, error %d", b, at, n, next, err, want, wantNext, wantErr)
	}
}

func TestP6_1_ExampleOfTheChapter(t *testing.T) {
	holdPut(t, 128, "\x81\x80", api.OK)
}

func TestP6_1_Spellings(t *testing.T) {
	for _, c := range spellings() {
		holdPut(t, c.n, c.b, api.OK)
	}
}

func TestP6_1_ManyNumbers(t *testing.T) {
	for _, n := range numbers() {
		holdPut(t, n, spell(n), api.OK)
	}
}

func TestP6_1_NumbersBeyond(t *testing.T) {
	for _, n := range beyond() {
		holdPut(t, n, "", api.ErrArg)
	}
}

func TestP6_2_ExamplesOfTheChapter(t *testing.T) {
	holdGet(t, "\x81\x80", 0, 128, 2, api.OK)
	holdGet(t, "\x81\x7f", 0, 0, 1, api.ErrLength)
	holdGet(t, "\x80", 0, 0, 0, api.ErrLength)
	holdGet(t, "\x82\x00\xff", 0, 0, 1, api.ErrLength)
	// The first example of the whole: behind the identifier.
	holdGet(t, "\x30\x80", 1, 0, 1, api.ErrLength)
}

func TestP6_2_Spellings(t *testing.T) {
	for _, c := range spellings() {
		holdGet(t, c.b, 0, c.n, len(c.b), api.OK)
		// What stands ahead, and behind, plays no part.
		for _, ahead := range []string{"", "\x30", "\x80", "\x88\x01", "\xff\xff\xff", c.b} {
			for _, behind := range []string{"", "\x00", "\x80", "\xff\xff", c.b} {
				holdGet(t, ahead+c.b+behind, len(ahead), c.n, len(ahead)+len(c.b), api.OK)
			}
		}
	}
}

func TestP6_2_PlacesBeyond(t *testing.T) {
	for _, b := range []string{"", "\x00", "\x05", "\x80", "\x81", "\x81\x80", "\x82\x01\x00", "\xff\xff"} {
		for _, at := range []int{math.MinInt, -1 << 32, -len(b) - 1, -2, -1, len(b) + 1, len(b) + 2, 1 << 32, 1<<32 + len(b), math.MaxInt - 1, math.MaxInt} {
			holdGet(t, b, at, 0, 0, api.ErrArg)
		}
		// At the end there is none.
		holdGet(t, b, len(b), 0, len(b), api.ErrCut)
	}
}

func TestP6_2_FirstBytes(t *testing.T) {
	for first := range 256 {
		b := string([]byte{byte(first)})
		for _, ahead := range []string{"", "\x02", "\x82\x01"} {
			for _, behind := range []string{"", "\x00", "\x7f", "\x80\x80", strings.Repeat("\x01", 8), strings.Repeat("\xff", 130)} {
				at, text := len(ahead), ahead+b+behind
				switch {
				case first < 128:
					holdGet(t, text, at, first, at+1, api.OK)
				case first == 128 || first > 136:
					holdGet(t, text, at, 0, at, api.ErrLength)
				case behind == "":
					holdGet(t, text, at, 0, at+1, api.ErrCut)
				}
			}
		}
	}
}

// holdWrong sees that the byte at wrong is, whatever stands ahead and behind, and that the ones ahead of it aren't.
func holdWrong(t *testing.T, b string, wrong int) {
	t.Helper()
	for _, ahead := range []string{"", "\x30", "\x88\x20"} {
		for _, behind := range []string{"", "\x00", "\x01\x00", "\x80", strings.Repeat("\xff", 9)} {
			holdGet(t, ahead+b[:wrong+1]+behind, len(ahead), 0, len(ahead)+wrong, api.ErrLength)
		}
		for n := range wrong + 1 {
			holdGet(t, ahead+b[:n], len(ahead), 0, len(ahead)+n, api.ErrCut)
		}
	}
}

func TestP6_2_NextByteNought(t *testing.T) {
	for count := 1; count <= 8; count++ {
		first := string([]byte{byte(128 + count)})
		for _, rest := range []string{"\x00", "\x7f", "\x80", "\xff"} {
			holdWrong(t, first+"\x00"+strings.Repeat(rest, count-1), 1)
		}
		// A byte 0 behind another one isn't wrong.
		if count > 1 {
			holdGet(t, first+"\x01"+strings.Repeat("\x00", count-1), 0, 1<<(8*(count-1)), count+1, api.OK)
		}
	}
}

func TestP6_2_OnlyNextByte(t *testing.T) {
	for n := range 256 {
		b := string([]byte{0x81, byte(n)})
		if n < 128 {
			holdWrong(t, b, 1)
		} else {
			holdGet(t, b, 0, n, 2, api.OK)
		}
	}
	// Below 128, but not the only one.
	for n := 1; n < 128; n++ {
		holdGet(t, string([]byte{0x82, byte(n), 0}), 0, n*256, 3, api.OK)
		holdGet(t, string([]byte{0x82, byte(n), 0x7f}), 0, n*256+127, 3, api.OK)
	}
}

func TestP6_2_NumbersAboveTheGreatest(t *testing.T) {
	for _, digits := range []string{
		"\x20\x00\x00\x00\x00\x00\x00\x00", "\x20\x00\x00\x00\x00\x00\x00\x01", "\x20\x00\x00\x00\x00\x00\x00\x7f",
		"\x21\x00\x00\x00\x00\x00\x00\x00", "\x3f\xff\xff\xff\xff\xff\xff\xff", "\x40\x00\x00\x00\x00\x00\x00\x00",
		"\x7f\xff\xff\xff\xff\xff\xff\xff", "\x80\x00\x00\x00\x00\x00\x00\x00", "\x80\x00\x00\x00\x00\x00\x00\x01",
		"\x80\x00\x00\x00\x00\x00\x00\x80", "\x9f\xff\xff\xff\xff\xff\xff\xff", "\xff\x00\x00\x00\x00\x00\x00\x00",
		"\xff\xff\xff\xff\xff\xff\xff\x7f", "\xff\xff\xff\xff\xff\xff\xff\xff",
	} {
		holdWrong(t, "\x88"+digits, 8)
	}
}

// read answers what the chapter says of Get, each byte looked at for itself, by all the bytes up to it.
func read(b string, at int) (int, int, api.Errno) {
	if at < 0 || at > len(b) {
		return 0, 0, api.ErrArg
	}
	for i := at; i < len(b); i++ {
		first := int(b[at])
		if i == at && first < 128 {
			return first, at + 1, api.OK
		}
		n := new(big.Int).SetBytes([]byte(b[at+1 : i+1]))
		last := i == at+first-128
		if i == at && (first == 128 || first > 136) ||
			i == at+1 && (b[i] == 0 || last && b[i] < 128) ||
			last && n.Cmp(big.NewInt(api.MaxLen)) > 0 {
			return 0, i, api.ErrLength
		}
		if last {
			return int(n.Int64()), i + 1, api.OK
		}
	}
	return 0, len(b), api.ErrCut
}

// everyText goes to each text of at most so many bytes, all of them of those given.
func everyText(bytes string, most int, visit func(b string)) {
	texts := []string{""}
	for long := 0; ; long++ {
		var longer []string
		for _, b := range texts {
			visit(b)
			if long == most {
				continue
			}
			for i := range len(bytes) {
				longer = append(longer, b+bytes[i:i+1])
			}
		}
		if long == most {
			return
		}
		texts = longer
	}
}

// everyByte is all bytes, one behind the other.
func everyByte() string {
	b := make([]byte, 256)
	for i := range b {
		b[i] = byte(i)
	}
	return string(b)
}

// holdText compares what Get tells of a text, from each place, with what the chapter says; what is got is put again.
func holdText(t *testing.T, b string) {
	t.Helper()
	for at := -1; at <= len(b)+1; at++ {
		n, next, err := read(b, at)
		holdGet(t, b, at, n, next, err)
		if err == api.OK {
			holdPut(t, n, b[at:next], api.OK)
		}
	}
}

func TestP6_2_P6_3_EveryShortText(t *testing.T) {
	everyText(everyByte(), 2, func(b string) { holdText(t, b) })
	edges := "\x00\x01\x7f\x80\x81\x82\x83\x84\x88\x89\xff"
	everyText(edges, 4, func(b string) { holdText(t, b) })
	everyText("\x00\x01\x80\x81\x83\xff", 6, func(b string) { holdText(t, b) })
}

func TestP6_2_P6_3_LongTexts(t *testing.T) {
	// Behind each first byte, as many bytes as it asks for, one fewer and one more.
	for count := range 10 {
		first := string([]byte{byte(128 + count)})
		for _, next := range []byte("\x00\x01\x1f\x20\x7f\x80\xff") {
			for _, rest := range []byte("\x00\x01\x7f\x80\xff") {
				for _, last := range []byte("\x00\x01\x7f\x80\xff") {
					for n := max(count-2, 0); n <= count; n++ {
						holdText(t, first+string([]byte{next})+strings.Repeat(string([]byte{rest}), n)+string([]byte{last}))
					}
				}
			}
		}
	}
}

func TestP6_2_EveryByteAtEachPlace(t *testing.T) {
	for _, c := range spellings() {
		for at := range len(c.b) {
			for _, b := range []byte(everyByte()) {
				holdText(t, c.b[:at]+string([]byte{b})+c.b[at+1:])
			}
		}
	}
}

func TestP6_3_WhatIsPutIsGot(t *testing.T) {
	for _, n := range numbers() {
		b, _ := Put(n)
		holdGet(t, b, 0, n, len(b), api.OK)
		holdGet(t, "\x80"+b+"\x80", 1, n, len(b)+1, api.OK)
	}
}

func TestP6_3_WhatIsGotIsPutAsItWas(t *testing.T) {
	for _, c := range spellings() {
		n, next, err := Get(c.b, 0)
		if err != api.OK {
			t.Errorf("%x: error %d", c.b, err)
		}
		holdPut(t, n, c.b[:next], api.OK)
	}
}

func TestP6_3_OneSpelling(t *testing.T) {
	// The same number in more bytes than it takes is none's length.
	for _, c := range spellings() {
		digits := strings.TrimLeft(c.b, "\x00")
		if c.n >= 128 {
			digits = c.b[1:]
		}
		for count := max(len(digits), 1); count <= 8; count++ {
			b := string([]byte{byte(128 + count)}) + strings.Repeat("\x00", count-len(digits)) + digits
			if b == c.b {
				continue
			}
			holdGet(t, b, 0, 0, 1, api.ErrLength)
		}
	}
}

func TestP6_3_GreaterOnesHaveNoFewerBytes(t *testing.T) {
	least := 1
	for _, n := range numbers() {
		b, _ := Put(n)
		if len(b) < least {
			t.Fatalf("Put(%d) = %x: a lower one has %d bytes", n, b, least)
		}
		least = len(b)
	}
	if least != 9 {
		t.Errorf("the greatest one has %d bytes", least)
	}
}

func TestP6_3_BeginningsAreCut(t *testing.T) {
	for _, n := range numbers() {
		b, _ := Put(n)
		for end := range len(b) {
			holdGet(t, b[:end], 0, 0, end, api.ErrCut)
			holdGet(t, "\x80\x00"+b[:end], 2, 0, end+2, api.ErrCut)
		}
	}
}

func TestP6_3_OneBehindTheOther(t *testing.T) {
	var all strings.Builder
	for _, c := range spellings() {
		all.WriteString(c.b)
	}
	b, at := all.String(), 0
	for _, c := range spellings() {
		holdGet(t, b, at, c.n, at+len(c.b), api.OK)
		at += len(c.b)
	}
	holdGet(t, b, at, 0, len(b), api.ErrCut)
}
