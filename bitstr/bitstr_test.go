package bitstr

import (
	"fmt"
	"math"
	"strconv"
	"strings"
	"testing"
	"unsafe"
)

// written answers the bits of bytes as digits, the highest of each byte first.
func written(b string) string {
	var bits strings.Builder
	for i := range len(b) {
		fmt.Fprintf(&bits, "%08b", b[i])
	}
	return bits.String()
}

// right tells what the chapter says of a content: by the bits of its last byte, as digits.
func right(content string) bool {
	if content == "" || content[0] > 7 || len(content) == 1 && content[0] != 0 {
		return false
	}
	return strings.HasSuffix(written(content[len(content)-1:]), strings.Repeat("0", int(content[0])))
}

// used answers the bits of a content that are used, as digits; none of one that isn't right.
func used(content string) string {
	if !right(content) {
		return ""
	}
	bits := written(content[1:])
	return bits[:len(bits)-int(content[0])]
}

// canBe tells whether some bytes behind these make a right content of n bytes. Nothing hangs on what stands behind the
// next byte, but for the last one: so each next byte is tried, and each last one, and a few between.
func canBe(b string, n int) bool {
	left := n - len(b)
	if left <= 0 {
		return left == 0 && right(b)
	}
	for next := range 256 {
		c := b + string([]byte{byte(next)})
		if left == 1 {
			if right(c) {
				return true
			}
			continue
		}
		for _, rest := range []string{"\x00", "\x01", "\x80", "\xff"} {
			for last := range 256 {
				if right(c + strings.Repeat(rest, left-2) + string([]byte{byte(last)})) {
					return true
				}
			}
		}
	}
	return false
}

// holdStart compares what Start tells with what it must, and answers the State. It ends the test, because most tests
// hold thousands of contents; Helper is called only then, because it takes far longer than what is compared.
func holdStart(t *testing.T, n int, want bool) State {
	s, ok := Start(n)
	if ok != want || !ok && s != (State{}) {
		t.Helper()
		t.Fatalf("Start(%d) = %v, %t, want %t", n, s, ok, want)
	}
	return s
}

// holdPush compares what Push tells of a byte with what it must, and ends the test likewise.
func holdPush(t *testing.T, s State, b byte, want bool) State {
	next, ok := s.Push(b)
	if ok != want || !ok && next != (State{}) {
		t.Helper()
		t.Fatalf("%v.Push(%x) = %v, %t, want %t", s, b, next, ok, want)
	}
	return next
}

// holdContent sees that each of the bytes is right where it stands, but the last one of them if that is wrong.
func holdContent(t *testing.T, n int, b string, wrong bool) State {
	t.Helper()
	s := holdStart(t, n, true)
	for i := range len(b) {
		s = holdPush(t, s, b[i], !wrong || i < len(b)-1)
	}
	return s
}

// holdWays compares what is told of each of the bytes, behind what came, with what the chapter says; and so on, up to
// so many more, from each State that is answered.
func holdWays(t *testing.T, n int, s State, came, bytes string, more int) {
	t.Helper()
	if more == 0 || len(came) == n {
		return
	}
	for i := range len(bytes) {
		b := came + bytes[i:i+1]
		ok := canBe(b, n)
		next := holdPush(t, s, bytes[i], ok)
		if ok {
			holdWays(t, n, next, b, bytes, more-1)
		}
	}
}

// holdModel does so from the beginning on of a content of n bytes.
func holdModel(t *testing.T, n int, bytes string, more int) {
	t.Helper()
	ok := canBe("", n)
	s := holdStart(t, n, ok)
	if ok {
		holdWays(t, n, s, "", bytes, more)
	}
}

// holdPut compares what Put tells with what it must, and ends the test likewise.
func holdPut(t *testing.T, unused int, b, want string, wantOk bool) {
	if c, ok := Put(unused, b); c != want || ok != wantOk {
		t.Helper()
		t.Fatalf("Put(%d, %x) = %x, %t, want %x, %t", unused, b, c, ok, want, wantOk)
	}
}

// holdGet compares what Get tells with what it must, and ends the test likewise.
func holdGet(t *testing.T, content string, want int, wantB string, wantOk bool) {
	if unused, b, ok := Get(content); unused != want || b != wantB || ok != wantOk {
		t.Helper()
		t.Fatalf("Get(%x) = %d, %x, %t, want %d, %x, %t", content, unused, b, ok, want, wantB, wantOk)
	}
}

// holdBit compares what Bit tells with what it must, and ends the test likewise.
func holdBit(t *testing.T, content string, i int, want bool) {
	if Bit(content, i) != want {
		t.Helper()
		t.Fatalf("Bit(%x, %d) = %t", content, i, !want)
	}
}

// holdBits compares all bits of a content, and those beside them, with digits.
func holdBits(t *testing.T, content, bits string) {
	t.Helper()
	for i := range len(bits) {
		holdBit(t, content, i, bits[i] == '1')
	}
	for more := range 20 {
		holdBit(t, content, -1-more, false)
		holdBit(t, content, len(bits)+more, false)
	}
	for _, i := range farBits() {
		holdBit(t, content, i, false)
	}
}

// farBits are bits that no content of the tests has; several of them wrap round to some that they have.
func farBits() []int {
	list := []int{-1 << 16, 1 << 16, 1<<16 + 1, -1 << 32, 1 << 32, 1<<32 + 5, 1 << 61, 1<<61 + 1, 1 << 62, -1 << 61, -1 << 62}
	for more := range 20 {
		list = append(list, math.MinInt+more, math.MaxInt-more)
	}
	return list
}

// everyText goes to each text of at most so many bytes, all of them of those given.
func everyText(bytes string, most int, visit func(b string)) {
	var from func(b string)
	from = func(b string) {
		visit(b)
		if len(b) == most {
			return
		}
		for i := range len(bytes) {
			from(b + bytes[i:i+1])
		}
	}
	from("")
}

// everyByte is all bytes, one behind the other.
func everyByte() string {
	b := make([]byte, 256)
	for i := range b {
		b[i] = byte(i)
	}
	return string(b)
}

// lengths are how many bytes a content can have: few, and as many as can be.
func lengths() []int {
	return []int{1, 2, 3, 4, 7, 8, 9, 16, 127, 128, 129, 255, 256, 257, 1 << 16, 1 << 28, 1 << 32, 1<<32 + 1, math.MaxInt - 1, math.MaxInt}
}

// firsts is each number of unused bits that a content of two bytes or more can begin with.
func firsts() string { return "\x00\x01\x02\x03\x04\x05\x06\x07" }

// middles are bytes ahead of the last one: none, each low bit of a byte alone, and many.
func middles() []string {
	return []string{
		"", "\x00", "\x01", "\x02", "\x40", "\x7f", "\x80", "\xff", "\x08\x07", "\xff\x00", "\x00\xff", "\x01\x01\x01",
		strings.Repeat("\xff", 300), strings.Repeat("\x00", 300), everyByte(),
	}
}

func TestP12_1_ExamplesOfTheChapter(t *testing.T) {
	holdContent(t, 2, "\x05\xa0", false)
	holdContent(t, 2, "\x05\xb0", true)
	holdContent(t, 1, "\x01", true)
}

func TestP12_1_HowManyBytes(t *testing.T) {
	for _, n := range []int{math.MinInt, math.MinInt + 1, -1 << 32, -1<<32 + 1, -257, -256, -255, -8, -3, -2, -1, 0} {
		holdStart(t, n, false)
	}
	for _, n := range lengths() {
		holdStart(t, n, true)
	}
}

func TestP12_1_TheOnlyByte(t *testing.T) {
	for b := range 256 {
		holdContent(t, 1, string([]byte{byte(b)}), b != 0)
	}
}

func TestP12_1_EveryFirstByte(t *testing.T) {
	for _, n := range lengths()[1:] {
		for b := range 256 {
			holdContent(t, n, string([]byte{byte(b)}), b > 7)
		}
	}
}

func TestP12_1_UnusedBitsOfTheSecondByte(t *testing.T) {
	for b := range 256 {
		last := string([]byte{byte(b)})
		for unused, step := range []int{1, 2, 4, 8, 16, 32, 64, 128} {
			holdContent(t, 2, firsts()[unused:unused+1]+last, b%step != 0)
		}
	}
}

func TestP12_1_EveryLastByte(t *testing.T) {
	for _, middle := range middles() {
		for _, first := range []byte(firsts()) {
			for b := range 256 {
				c := string([]byte{first}) + middle + string([]byte{byte(b)})
				holdContent(t, len(c), c, !right(c))
				// With bytes behind it, it isn't the last one.
				holdContent(t, len(c)+1, c, false)
				holdContent(t, len(c)+300, c, false)
			}
		}
	}
}

func TestP12_1_EveryByteAheadOfTheLastOne(t *testing.T) {
	for _, first := range firsts() {
		for b := range 256 {
			c := string(first) + "\x01\x02" + string([]byte{byte(b), byte(b)}) + "\xff"
			holdContent(t, len(c)+1, c+"\x00", false)
			holdContent(t, len(c)+1, c+"\x80", false)
			holdContent(t, len(c)+1, c+"\xff", first > 0)
			holdContent(t, math.MaxInt, c, false)
		}
	}
}

func TestP12_1_ManyBytes(t *testing.T) {
	for _, part := range []string{"\x00", "\x01", "\x08", "\x80", "\xff", everyByte()} {
		long := strings.Repeat(part, 1<<16)[:1<<16]
		for unused, first := range firsts() {
			c := string(first) + long
			holdContent(t, len(c)+1, c+string([]byte{1 << unused}), false)
			holdContent(t, len(c)+1, c+string([]byte{byte(0xff << unused)}), false)
			holdContent(t, len(c)+1, c+"\x01", unused > 0)
			holdContent(t, len(c)+1, c+string([]byte{1 << unused >> 1}), unused > 0)
		}
	}
}

func TestP12_1_EveryShortContent(t *testing.T) {
	for n := -1; n <= 2; n++ {
		holdModel(t, n, everyByte(), 2)
	}
	for n := 3; n <= 5; n++ {
		holdModel(t, n, "\x00\x01\x02\x04\x07\x08\x10\x40\x80\xff", 3)
	}
}

func TestP12_1_LongerContents(t *testing.T) {
	for n := 1; n <= 10; n++ {
		holdModel(t, n, "\x00\x01\x07\x80\xff", 4)
		holdModel(t, n, "\x00\x07\x40", 6)
		holdModel(t, n, "\x04\x08", 10)
	}
}

// content is a right one, as far as it came, and of how many bytes it is.
type content struct {
	n    int
	came string
}

// begun are contents in each state in which they can be.
func begun() []content {
	var list []content
	for _, more := range []int{1, 2, 3, 1000, math.MaxInt} {
		list = append(list, content{more, ""})
	}
	for _, first := range firsts() {
		for _, middle := range []string{"", "\x00", "\xff", "\x07\x08", "\x01\x02\x03\x04\x05\x06\x07\x08"} {
			came := string(first) + middle
			list = append(list, content{len(came) + 1, came}, content{len(came) + 2, came}, content{math.MaxInt, came})
		}
	}
	return list
}

// canGoOn tells whether the byte may come behind what came.
func canGoOn(c content, b byte) bool {
	if c.came == "" {
		return b == 0 || b <= 7 && c.n > 1
	}
	return len(c.came) < c.n-1 || right(c.came+string([]byte{b}))
}

func TestP12_1_PushChangesNoState(t *testing.T) {
	for _, c := range begun() {
		var can [256]bool
		for b := range can {
			can[b] = canGoOn(c, byte(b))
		}
		s := holdContent(t, c.n, c.came, false)
		was := s
		// Each byte comes behind each other one: what is told of it hangs on none that was pushed ahead of it.
		for first := range 256 {
			for second := range 256 {
				holdPush(t, s, byte(first), can[first])
				holdPush(t, s, byte(second), can[second])
			}
		}
		if s != was {
			t.Fatalf("of %v: %v, it was %v", c, s, was)
		}
	}
}

func TestP12_1_EitherStateGoesOn(t *testing.T) {
	// Two go on from one, by turns, each with as many unused bits as its own first byte says.
	for _, one := range []byte(firsts()) {
		for _, other := range []byte(firsts()) {
			s := holdStart(t, 3, true)
			a, b := holdPush(t, s, one, true), holdPush(t, s, other, true)
			holdPush(t, s, 8, false)
			a = holdPush(t, a, 0xff, true)
			b = holdPush(t, b, 0x01, true)
			for last := range 256 {
				holdPush(t, a, byte(last), last%(1<<one) == 0)
				holdPush(t, b, byte(last), last%(1<<other) == 0)
			}
			holdPush(t, s, 7, true)
		}
	}
}

func TestP12_1_StatesKnowNothingOfEachOther(t *testing.T) {
	fresh := holdStart(t, 1, true)
	last := holdContent(t, 3, "\x02\xff", false)
	early := holdContent(t, 3, "\x07", false)
	holdContent(t, 1, "\x01", true)
	holdContent(t, 2, "\x08", true)
	holdContent(t, 2, "\x06\x20", true)
	holdContent(t, math.MaxInt, "\x05\x1f\x1f", false)
	holdStart(t, 0, false)
	holdPush(t, last, 0x02, false)
	holdPush(t, last, 0x04, true)
	holdPush(t, early, 0x01, true)
	holdPush(t, fresh, 0x01, false)
	holdPush(t, fresh, 0x00, true)
}

// spelled is a bit string: its bits as digits, the bytes and the number that say them, and its content.
type spelled struct {
	bits    string
	unused  int
	b       string
	content string
}

// spellings are bit strings of each number of unused bits, written out.
func spellings() []spelled {
	return []spelled{
		{"", 0, "", "\x00"},
		{"0", 7, "\x00", "\x07\x00"},
		{"1", 7, "\x80", "\x07\x80"},
		{"00", 6, "\x00", "\x06\x00"},
		{"01", 6, "\x40", "\x06\x40"},
		{"10", 6, "\x80", "\x06\x80"},
		{"11", 6, "\xc0", "\x06\xc0"},
		{"101", 5, "\xa0", "\x05\xa0"},
		{"1111", 4, "\xf0", "\x04\xf0"},
		{"00001", 3, "\x08", "\x03\x08"},
		{"100001", 2, "\x84", "\x02\x84"},
		{"0101011", 1, "\x56", "\x01\x56"},
		{"00000000", 0, "\x00", "\x00\x00"},
		{"00000001", 0, "\x01", "\x00\x01"},
		{"00000111", 0, "\x07", "\x00\x07"},
		{"10000000", 0, "\x80", "\x00\x80"},
		{"11111111", 0, "\xff", "\x00\xff"},
		{"000000010", 7, "\x01\x00", "\x07\x01\x00"},
		{"111111110", 7, "\xff\x00", "\x07\xff\x00"},
		{"000000001", 7, "\x00\x80", "\x07\x00\x80"},
		{"111111111111", 4, "\xff\xf0", "\x04\xff\xf0"},
		{"000000011111", 4, "\x01\xf0", "\x04\x01\xf0"},
		{"000010000000111", 1, "\x08\x0e", "\x01\x08\x0e"},
		{"1111111111111111", 0, "\xff\xff", "\x00\xff\xff"},
		{"0000011100001000", 0, "\x07\x08", "\x00\x07\x08"},
		{"011011100101110111", 6, "\x6e\x5d\xc0", "\x06\x6e\x5d\xc0"},
		{"000000000000000000000000", 0, "\x00\x00\x00", "\x00\x00\x00\x00"},
		{"100000000000000000000000000000001", 7, "\x80\x00\x00\x00\x80", "\x07\x80\x00\x00\x00\x80"},
	}
}

// spell answers the bit string of digits.
func spell(bits string) spelled {
	unused := (8 - len(bits)%8) % 8
	full := bits + strings.Repeat("0", unused)
	var b []byte
	for ; full != ""; full = full[8:] {
		n, err := strconv.ParseUint(full[:8], 2, 8)
		if err != nil {
			panic(err)
		}
		b = append(b, byte(n))
	}
	return spelled{bits, unused, string(b), string(append([]byte{byte(unused)}, b...))}
}

// bitStrings are all short ones, and longer ones of each length: of one kind of bit, by turns, and with one bit apart.
func bitStrings() []spelled {
	list := spellings()
	everyText("01", 10, func(bits string) { list = append(list, spell(bits)) })
	for n := 11; n <= 90; n++ {
		zeros, ones := strings.Repeat("0", n), strings.Repeat("1", n)
		list = append(list, spell(zeros), spell(ones), spell(strings.Repeat("01", n)[:n]), spell(strings.Repeat("110", n)[:n]))
		for at := range n {
			list = append(list, spell(zeros[:at]+"1"+zeros[at+1:]), spell(ones[:at]+"0"+ones[at+1:]))
		}
	}
	return list
}

// wrongs are contents that aren't right, at each place at which one can be wrong.
func wrongs() []string {
	list := []string{"", "\x08\x00", "\x09\x00\x00", "\x80\x00", "\xff\x00", "\xff\xff", "\x05\xb0", "\x07\xc0", "\x07\x40", "\x01\x01", "\x04\xff\xf8", "\x08\xff\x00"}
	for b := 1; b < 256; b++ {
		list = append(list, string([]byte{byte(b)}))
	}
	for b := 8; b < 256; b++ {
		for _, behind := range []string{"\x00", "\x80", "\xff", "\x00\x00", "\xff\xff\x00"} {
			list = append(list, string([]byte{byte(b)})+behind)
		}
	}
	for _, c := range bitStrings() {
		for bit := range c.unused {
			last := len(c.content) - 1
			list = append(list, c.content[:last]+string([]byte{c.content[last] | 1<<bit}))
		}
	}
	return list
}

func TestP12_2_ExamplesOfTheChapter(t *testing.T) {
	holdPut(t, 5, "\xa0", "\x05\xa0", true)
	holdGet(t, "\x05\xa0", 5, "\xa0", true)
	for i, want := range []bool{true, false, true, false} {
		holdBit(t, "\x05\xa0", i, want)
	}
	holdPut(t, 5, "\xb0", "", false)
	holdGet(t, "\x05\xb0", 0, "", false)
	holdGet(t, "\x01", 0, "", false)
}

func TestP12_2_Spellings(t *testing.T) {
	for _, c := range spellings() {
		holdPut(t, c.unused, c.b, c.content, true)
		holdGet(t, c.content, c.unused, c.b, true)
		holdBits(t, c.content, c.bits)
	}
}

func TestP12_2_ManyBitStrings(t *testing.T) {
	for _, c := range bitStrings() {
		holdPut(t, c.unused, c.b, c.content, true)
		holdGet(t, c.content, c.unused, c.b, true)
		holdBits(t, c.content, c.bits)
	}
}

func TestP12_2_UnusedOutOfRange(t *testing.T) {
	for _, unused := range []int{
		-1, -2, -7, -8, -9, -255, -256, -257, -249, 8, 9, 16, 127, 128, 255, 256, 257, 260, 263, 264, 512, 1 << 16, 1 << 32, 1<<32 + 1,
		-1 << 32, -1<<32 + 7, math.MinInt, math.MinInt + 1, math.MinInt + 7, math.MaxInt, math.MaxInt - 1, math.MaxInt - 255,
	} {
		for _, b := range []string{"", "\x00", "\x80", "\xff", "\x00\x00", "\x07\x00", "\xff\x00", strings.Repeat("\x00", 300)} {
			holdPut(t, unused, b, "", false)
		}
	}
}

func TestP12_2_UnusedBitsOfNoByte(t *testing.T) {
	holdPut(t, 0, "", "\x00", true)
	for unused := 1; unused <= 7; unused++ {
		holdPut(t, unused, "", "", false)
		holdGet(t, firsts()[unused:unused+1], 0, "", false)
	}
}

func TestP12_2_EveryLastByte(t *testing.T) {
	for _, middle := range middles() {
		for unused, first := range firsts() {
			for last := range 256 {
				b := middle + string([]byte{byte(last)})
				c := string(first) + b
				if last%(1<<unused) != 0 {
					holdPut(t, unused, b, "", false)
					holdGet(t, c, 0, "", false)
					continue
				}
				holdPut(t, unused, b, c, true)
				holdGet(t, c, unused, b, true)
			}
		}
	}
}

func TestP12_2_WrongContents(t *testing.T) {
	for _, c := range wrongs() {
		holdGet(t, c, 0, "", false)
		for i := -9; i <= 8*len(c)+9; i++ {
			holdBit(t, c, i, false)
		}
		for _, i := range farBits() {
			holdBit(t, c, i, false)
		}
	}
}

func TestP12_2_BitsAtTheEdges(t *testing.T) {
	// Of bytes 81 18 80, the last one's highest bit alone is used: bits 0, 7, 11, 12 and 16 are 1.
	const c = "\x07\x81\x18\x80"
	for i := -30; i <= 60; i++ {
		holdBit(t, c, i, i == 0 || i == 7 || i == 11 || i == 12 || i == 16)
	}
	// With all of the last one used, bit 23 is the last one; with one less, it is not there.
	for i := -30; i <= 60; i++ {
		holdBit(t, "\x00\xff\xff\xff", i, i >= 0 && i <= 23)
		holdBit(t, "\x01\xff\xff\xfe", i, i >= 0 && i <= 22)
		holdBit(t, "\x07\xff\xff\x80", i, i >= 0 && i <= 16)
		holdBit(t, "\x00", i, false)
		holdBit(t, "\x07\x80", i, i == 0)
		holdBit(t, "\x00\x01", i, i == 7)
		holdBit(t, "\x07\x00\x80", i, i == 8)
	}
	for unused := range 8 {
		last := string([]byte{byte(0xff << unused)})
		c := firsts()[unused:unused+1] + "\x00" + last
		for i := range 30 {
			holdBit(t, c, i, i >= 8 && i < 16-unused)
		}
	}
}

func TestP12_2_BitsFarAway(t *testing.T) {
	long := "\x00" + strings.Repeat("\xff", 1<<10)
	for _, i := range farBits() {
		holdBit(t, long, i, false)
	}
	for i := -1 << 14; i < 1<<14; i++ {
		holdBit(t, long, i, i >= 0 && i < 1<<13)
	}
}

// holdText compares what is told of a text with what the chapter says; what is got is put again.
func holdText(t *testing.T, c string) {
	if !right(c) {
		holdGet(t, c, 0, "", false)
	} else {
		holdGet(t, c, int(c[0]), c[1:], true)
		holdPut(t, int(c[0]), c[1:], c, true)
	}
	bits := used(c)
	for i := -1; i <= 8*len(c); i++ {
		holdBit(t, c, i, i >= 0 && i < len(bits) && bits[i] == '1')
	}
}

func TestP12_2_P12_3_EveryShortContent(t *testing.T) {
	everyText(everyByte(), 2, func(c string) { holdText(t, c) })
	everyText("\x00\x01\x02\x07\x08\x40\x80\xff", 4, func(c string) { holdText(t, c) })
	everyText("\x00\x04\x07\xff", 6, func(c string) { holdText(t, c) })
}

func TestP12_2_P12_3_EveryByteAtEachPlace(t *testing.T) {
	for _, c := range spellings() {
		for at := range len(c.content) {
			for b := range 256 {
				holdText(t, c.content[:at]+string([]byte{byte(b)})+c.content[at+1:])
			}
		}
	}
}

func TestP12_2_P12_3_LongContents(t *testing.T) {
	for _, part := range []string{"\x00", "\xff", "\x18", everyByte()} {
		long := strings.Repeat(part, 1<<13)[:1<<13]
		for _, first := range firsts() {
			for _, last := range []string{"\x00", "\x01", "\x08", "\x10", "\x80", "\xff"} {
				holdText(t, string(first)+long+last)
			}
		}
		for _, first := range []string{"", "\x08", "\xff"} {
			holdText(t, first+"\x80"+long)
		}
	}
}

func TestP12_2_GetGoesByStartAndPush(t *testing.T) {
	// A content is got if each of its bytes can come.
	everyText("\x00\x01\x04\x07\x08\x80\xff", 5, func(c string) {
		s, can := Start(len(c))
		for i := 0; can && i < len(c); i++ {
			s, can = s.Push(c[i])
		}
		if _, _, ok := Get(c); ok != can {
			t.Fatalf("Get(%x): %t; byte by byte: %t", c, ok, can)
		}
	})
}

func TestP12_2_AnswersAreNewMemory(t *testing.T) {
	for _, c := range bitStrings() {
		if c.b == "" {
			continue
		}
		// Each text's memory is its own, so that one answered from within it would be seen.
		content, bits := strings.Clone(c.content), strings.Clone(c.b)
		_, b, _ := Get(content)
		if unsafe.StringData(b) == unsafe.StringData(content[1:]) {
			t.Fatalf("Get(%x) answers what it was handed", content)
		}
		_, again, _ := Get(content)
		if unsafe.StringData(b) == unsafe.StringData(again) {
			t.Fatalf("Get(%x) answers what it answered", content)
		}
		if put, _ := Put(c.unused, bits); unsafe.StringData(put[1:]) == unsafe.StringData(bits) {
			t.Fatalf("Put(%d, %x) answers what it was handed", c.unused, bits)
		}
	}
}

func TestP12_3_WhatIsPutIsGot(t *testing.T) {
	for _, c := range bitStrings() {
		b, ok := Put(c.unused, c.b)
		if !ok {
			t.Fatalf("Put(%d, %x) = false", c.unused, c.b)
		}
		holdGet(t, b, c.unused, c.b, true)
	}
}

func TestP12_3_WhatIsGotIsPutAsItWas(t *testing.T) {
	everyText("\x00\x02\x07\x08\x7f\x80\xff", 5, func(c string) {
		if unused, b, ok := Get(c); ok {
			holdPut(t, unused, b, c, true)
		}
	})
}

func TestP12_3_WhatIsPutIsRight(t *testing.T) {
	for _, c := range bitStrings() {
		b, _ := Put(c.unused, c.b)
		holdContent(t, len(b), b, false)
		// Put refuses just what is wrong byte by byte.
		for bit := range c.unused {
			last := len(c.b) - 1
			wrong := c.b[:last] + string([]byte{c.b[last] | 1<<bit})
			holdPut(t, c.unused, wrong, "", false)
			holdContent(t, len(b), string([]byte{byte(c.unused)})+wrong, true)
		}
	}
}

func TestP12_3_OneContent(t *testing.T) {
	of := make(map[string]string)
	for _, c := range bitStrings() {
		b, _ := Put(c.unused, c.b)
		if other, ok := of[b]; ok && other != c.bits {
			t.Fatalf("%s and %s are both put as %x", other, c.bits, b)
		}
		of[b] = c.bits
	}
}
