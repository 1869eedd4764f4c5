package number

import (
	"math"
	"math/big"
	"slices"
	"strings"
	"testing"

	"gantlet/api"
)

// right tells what the chapter says of a content, its bits counted one by one.
func right(tag int, content string) bool {
	switch tag {
	case api.TInteger, api.TEnum:
		if len(content) < 2 {
			return len(content) == 1
		}
		ones := 0
		for bit := range 9 {
			ones += int(content[bit/8]) >> (7 - bit%8) % 2
		}
		return ones != 0 && ones != 9
	case api.TBool:
		return content == "\x00" || content == "\xff"
	case api.TNull:
		return content == ""
	}
	return true
}

// canBe tells whether some bytes behind these make a right content of n bytes. No promise hangs on what stands behind
// a content's second byte: so each next byte is tried, and behind it always the same ones.
func canBe(tag int, b string, n int) bool {
	if n < len(b) {
		return false
	}
	if n == len(b) {
		return right(tag, b)
	}
	for next := range 256 {
		for _, rest := range []string{"\x00", "\x01", "\x55", "\x7f", "\x80", "\xfe", "\xff"} {
			if right(tag, b+string([]byte{byte(next)})+strings.Repeat(rest, n-len(b)-1)) {
				return true
			}
		}
	}
	return false
}

// numberTags are the tags of the chapter, integers' ones first.
func numberTags() []int { return []int{api.TInteger, api.TEnum, api.TBool, api.TNull} }

// otherTags are those whose contents are any: the other ones of api, those beside the chapter's, and some that are none.
func otherTags() []int {
	return []int{
		api.TBits, api.TOctets, api.TOid, api.TUtf8, api.TSequence, api.TSet, api.TPrintable, api.TIa5, api.TUtc, api.TGeneralized,
		0, 7, 8, 9, 11, 13, 15, 30, 31, 255, 256, 257, 258, 261, 266, api.MaxTag, api.MaxTag + 1, 1<<32 + 1, 1<<32 + 2, math.MaxInt,
		-1, -2, -5, -10, -256, math.MinInt,
	}
}

// tags are all of those.
func tags() []int { return append(numberTags(), otherTags()...) }

// holdStart compares what Start tells with what it must, and answers the State. It ends the test, because most tests
// hold thousands of contents; Helper is called only then, because it takes far longer than what is compared.
func holdStart(t *testing.T, tag, n int, want bool) State {
	s, ok := Start(tag, n)
	if ok != want || !ok && s != (State{}) {
		t.Helper()
		t.Fatalf("Start(%d, %d) = %v, %t, want %t", tag, n, s, ok, want)
	}
	return s
}

// holdPush compares what Push tells of a byte with what it must, and ends the test likewise.
func holdPush(t *testing.T, s State, b byte, want bool) State {
	next, ok := s.Push(b)
	if ok != want || !ok && next != (State{}) {
		t.Helper()
		t.Fatalf("%v.Push(%x) = %v, %t, want %t", s, b, next, ok, want)
	}
	return next
}

// holdContent sees that each of the bytes is right where it stands, but the last one of them if that is wrong.
func holdContent(t *testing.T, tag, n int, b string, wrong bool) State {
	t.Helper()
	s := holdStart(t, tag, n, true)
	for i := range len(b) {
		s = holdPush(t, s, b[i], !wrong || i < len(b)-1)
	}
	return s
}

// holdWays compares what is told of each of the bytes, behind what came, with what the chapter says; and so on, up to
// so many more, from each State that is answered.
func holdWays(t *testing.T, tag, n int, s State, came, bytes string, more int) {
	t.Helper()
	if more == 0 || len(came) == n {
		return
	}
	for i := range len(bytes) {
		b := came + bytes[i:i+1]
		ok := canBe(tag, b, n)
		next := holdPush(t, s, bytes[i], ok)
		if ok {
			holdWays(t, tag, n, next, b, bytes, more-1)
		}
	}
}

// holdModel does so from the beginning on of a content of n bytes.
func holdModel(t *testing.T, tag, n int, bytes string, more int) {
	t.Helper()
	ok := canBe(tag, "", n)
	s := holdStart(t, tag, n, ok)
	if ok {
		holdWays(t, tag, n, s, "", bytes, more)
	}
}

// holdPut compares what Put tells with what it must, and ends the test likewise.
func holdPut(t *testing.T, n int64, want string) {
	if b := Put(n); b != want {
		t.Helper()
		t.Fatalf("Put(%d) = %x, want %x", n, b, want)
	}
}

// holdGet compares what Get tells with what it must, and ends the test likewise.
func holdGet(t *testing.T, content string, want int64, wantOk bool) {
	if n, ok := Get(content); n != want || ok != wantOk {
		t.Helper()
		t.Fatalf("Get(%x) = %d, %t, want %d, %t", content, n, ok, want, wantOk)
	}
}

// everyText goes to each text of at most so many bytes, all of them of those given.
func everyText(bytes string, most int, visit func(b string)) {
	var from func(b string)
	from = func(b string) {
		visit(b)
		if len(b) == most {
			return
		}
		for i := range len(bytes) {
			from(b + bytes[i:i+1])
		}
	}
	from("")
}

// everyByte is all bytes, one behind the other.
func everyByte() string {
	b := make([]byte, 256)
	for i := range b {
		b[i] = byte(i)
	}
	return string(b)
}

func TestP10_1_ExamplesOfTheChapter(t *testing.T) {
	holdContent(t, api.TInteger, 2, "\x00\x7f", true)
	// The third example of the whole.
	holdContent(t, api.TInteger, 2, "\x00\x05", true)
}

func TestP10_1_HowManyBytes(t *testing.T) {
	most := map[int]int{api.TInteger: math.MaxInt, api.TEnum: math.MaxInt, api.TBool: 1, api.TNull: 0}
	least := map[int]int{api.TInteger: 1, api.TEnum: 1, api.TBool: 1, api.TNull: 0}
	for _, n := range []int{
		math.MinInt, math.MinInt + 1, -1 << 32, -1<<32 + 1, -256, -255, -3, -2, -1, 0, 1, 2, 3, 7, 8, 9, 10, 20, 21,
		127, 128, 255, 256, 257, 1 << 16, 1<<32 - 1, 1 << 32, 1<<32 + 1, api.MaxLen, api.MaxLen + 1, math.MaxInt,
	} {
		for _, tag := range numberTags() {
			holdStart(t, tag, n, n >= least[tag] && n <= most[tag])
		}
		for _, tag := range otherTags() {
			holdStart(t, tag, n, n >= 0)
		}
	}
}

func TestP10_1_IntegersOfOneByte(t *testing.T) {
	for _, tag := range []int{api.TInteger, api.TEnum} {
		for b := range 256 {
			holdContent(t, tag, 1, string([]byte{byte(b)}), false)
		}
	}
}

func TestP10_1_NineBits(t *testing.T) {
	for _, tag := range []int{api.TInteger, api.TEnum} {
		for _, n := range []int{2, 3, 8, 9, 20, 1000, 1 << 32, api.MaxLen, math.MaxInt} {
			for low := range 128 {
				noughts, ones := uint16(low), uint16(0xff80+low)
				holdContent(t, tag, n, string([]byte{0x00, byte(noughts)}), true)
				holdContent(t, tag, n, string([]byte{0xff, byte(ones)}), true)
				// Each with one bit another is right.
				for bit := 7; bit < 16; bit++ {
					for _, all := range []uint16{noughts, ones} {
						all ^= 1 << bit
						holdContent(t, tag, n, string([]byte{byte(all >> 8), byte(all)}), false)
					}
				}
			}
		}
	}
}

func TestP10_1_EverySecondByte(t *testing.T) {
	for first := range 256 {
		for second := range 256 {
			wrong := first == 0 && second < 128 || first == 255 && second >= 128
			for _, n := range []int{2, 3, 8, 9, 1 << 20} {
				b := string([]byte{byte(first), byte(second)})
				holdContent(t, api.TInteger, n, b, wrong)
				holdContent(t, api.TEnum, n, b, wrong)
			}
		}
	}
}

func TestP10_1_EachByteBehindTheSecondIsRight(t *testing.T) {
	for _, tag := range []int{api.TInteger, api.TEnum} {
		for _, b := range []string{"\x00\x80", "\x00\xff", "\xff\x00", "\xff\x7f", "\x01\x00", "\x7f\xff", "\x80\x00", "\xfe\xff"} {
			for _, n := range []int{3, 4, 8, 9, 20, 21, 300} {
				for _, rest := range []string{"\x00", "\x7f", "\x80", "\xff", "\x00\x7f", "\xff\xff\x80", everyByte()} {
					holdContent(t, tag, n, (b + strings.Repeat(rest, n))[:n], false)
				}
			}
		}
	}
}

func TestP10_1_IntegersOfManyBytes(t *testing.T) {
	const n = 1 << 16
	for _, tag := range []int{api.TInteger, api.TEnum} {
		holdContent(t, tag, n, "\x00\x80"+strings.Repeat("\x00", n-2), false)
		holdContent(t, tag, n, "\xff\x7f"+strings.Repeat("\xff", n-2), false)
		holdContent(t, tag, n, strings.Repeat(everyByte(), n/256)[1:]+"\x00", false)
	}
}

func TestP10_1_EveryBoolByte(t *testing.T) {
	for b := range 256 {
		holdContent(t, api.TBool, 1, string([]byte{byte(b)}), b != 0 && b != 255)
	}
}

func TestP10_1_OtherTagsHaveAnyContent(t *testing.T) {
	for _, tag := range otherTags() {
		for _, n := range []int{1, 2, 3, 9, 600, api.MaxLen, math.MaxInt} {
			for _, b := range []string{"\x00\x00", "\x00\x7f", "\xff\xff", "\xff\x80", "\x01\x01", "\x05", everyByte() + everyByte()} {
				holdContent(t, tag, n, b[:min(n, len(b))], false)
			}
		}
	}
}

func TestP10_1_EveryShortContent(t *testing.T) {
	for _, tag := range numberTags() {
		for n := -1; n <= 4; n++ {
			holdModel(t, tag, n, everyByte(), 2)
		}
	}
}

func TestP10_1_LongerContents(t *testing.T) {
	for _, tag := range append(numberTags(), api.TOctets, 0, -1) {
		for _, n := range []int{5, 6, 8, 9, 33} {
			holdModel(t, tag, n, "\x00\x01\x7f\x80\xfe\xff", 5)
			holdModel(t, tag, n, "\x00\x80\xff", 7)
			holdModel(t, tag, n, "\x00\xff", 9)
		}
	}
}

// content is a right one, as far as it came, and of how many bytes it is.
type content struct {
	tag, n int
	came   string
}

// begun are contents of each kind, in each state in which they can be.
func begun() []content {
	var list []content
	for _, n := range []int{1, 2, 3, 9, 1000} {
		list = append(list, content{api.TInteger, n, ""}, content{api.TEnum, n, ""}, content{api.TOctets, n, ""})
	}
	for _, n := range []int{2, 3, 9, 1000} {
		for _, first := range []string{"\x00", "\x01", "\x7f", "\x80", "\xfe", "\xff"} {
			list = append(list, content{api.TInteger, n, first}, content{api.TEnum, n, first}, content{api.TOctets, n, first})
		}
	}
	for _, n := range []int{3, 9, 1000} {
		for _, two := range []string{"\x00\x80", "\x00\xff", "\x7f\x00", "\x80\xff", "\xff\x00", "\xff\x7f"} {
			list = append(list, content{api.TInteger, n, two}, content{api.TEnum, n, two}, content{api.TOctets, n, two})
		}
	}
	return append(list, content{api.TBool, 1, ""})
}

func TestP10_1_PushChangesNoState(t *testing.T) {
	for _, c := range begun() {
		s := holdContent(t, c.tag, c.n, c.came, false)
		was := s
		// Each byte comes behind each other one: what is told of it hangs on none that was pushed ahead of it.
		for first := range 256 {
			for second := range 256 {
				for _, b := range []byte{byte(first), byte(second)} {
					ok := canGoOn(c, b)
					holdPush(t, s, b, ok)
				}
			}
		}
		if s != was {
			t.Fatalf("of %v: %v, it was %v", c, s, was)
		}
	}
}

// canGoOn tells whether the byte may come behind what came.
func canGoOn(c content, b byte) bool {
	switch {
	case c.tag == api.TBool:
		return b == 0 || b == 255
	case c.tag == api.TOctets || len(c.came) != 1:
		return true
	}
	return !(c.came == "\x00" && b < 128) && !(c.came == "\xff" && b >= 128)
}

func TestP10_1_EitherStateGoesOn(t *testing.T) {
	// Two go on from one, by turns: what comes to one of them is nothing to the other.
	s := holdStart(t, api.TInteger, 3, true)
	noughts, ones := holdPush(t, s, 0x00, true), holdPush(t, s, 0xff, true)
	other := holdPush(t, s, 0x01, true)
	holdPush(t, noughts, 0x7f, false)
	holdPush(t, ones, 0x80, false)
	again, back := holdPush(t, noughts, 0x80, true), holdPush(t, ones, 0x7f, true)
	holdPush(t, noughts, 0x00, false)
	holdPush(t, ones, 0xff, false)
	for _, b := range []byte("\x00\x7f\x80\xff") {
		holdPush(t, again, b, true)
		holdPush(t, back, b, true)
		holdPush(t, other, b, true)
	}
	holdPush(t, s, 0x05, true)
}

func TestP10_1_StatesKnowNothingOfEachOther(t *testing.T) {
	whole := holdContent(t, api.TInteger, 2, "\x00", false)
	flag := holdStart(t, api.TBool, 1, true)
	holdContent(t, api.TInteger, 2, "\xff\xff", true)
	holdContent(t, api.TBool, 1, "\x01", true)
	holdStart(t, api.TNull, 1, false)
	holdPush(t, whole, 0x7f, false)
	holdPush(t, whole, 0x80, true)
	holdPush(t, flag, 0x01, false)
	holdPush(t, flag, 0xff, true)
}

// numbers are all small ones, those beside each power of 256 and of 128, as they are and with the other sign, and the
// least and the greatest.
func numbers() []int64 {
	list := []int64{math.MinInt64, math.MinInt64 + 1, math.MaxInt64 - 1, math.MaxInt64}
	for n := int64(-70000); n <= 70000; n++ {
		list = append(list, n)
	}
	for bit := 7; bit <= 62; bit++ {
		for beside := int64(-130); beside <= 130; beside++ {
			list = append(list, 1<<bit+beside, -1<<bit+beside)
		}
		// And some between two powers.
		for part := int64(1); part < 97; part++ {
			list = append(list, 1<<bit+1<<bit/97*part, -1<<bit-1<<bit/97*part)
		}
	}
	return list
}

// spell answers a number's content as the chapter says it: two's complement, in as few bytes as it takes.
func spell(n int64) string {
	for bytes := uint(1); ; bytes++ {
		half := new(big.Int).Lsh(big.NewInt(1), 8*bytes-1)
		rest := new(big.Int).Add(big.NewInt(n), half)
		all := new(big.Int).Lsh(half, 1)
		if rest.Sign() < 0 || rest.Cmp(all) >= 0 {
			continue
		}
		two := new(big.Int).Mod(big.NewInt(n), all)
		return string(two.FillBytes(make([]byte, bytes)))
	}
}

// value is the number whose two's complement this is.
func value(content string) int64 {
	n := new(big.Int).SetBytes([]byte(content))
	if content[0] >= 128 {
		n.Sub(n, new(big.Int).Lsh(big.NewInt(1), 8*uint(len(content))))
	}
	return n.Int64()
}

// spelled is a number, and its content, written out.
type spelled struct {
	n int64
	b string
}

// spellings are numbers at which a content grows, rising.
func spellings() []spelled {
	return []spelled{
		{math.MinInt64, "\x80\x00\x00\x00\x00\x00\x00\x00"},
		{math.MinInt64 + 1, "\x80\x00\x00\x00\x00\x00\x00\x01"},
		{-1<<55 - 1, "\xff\x7f\xff\xff\xff\xff\xff\xff"},
		{-1 << 55, "\x80\x00\x00\x00\x00\x00\x00"},
		{-1<<47 - 1, "\xff\x7f\xff\xff\xff\xff\xff"},
		{-1 << 47, "\x80\x00\x00\x00\x00\x00"},
		{-1<<39 - 1, "\xff\x7f\xff\xff\xff\xff"},
		{-1 << 39, "\x80\x00\x00\x00\x00"},
		{-1<<31 - 1, "\xff\x7f\xff\xff\xff"},
		{-1 << 31, "\x80\x00\x00\x00"},
		{-1<<23 - 1, "\xff\x7f\xff\xff"},
		{-1 << 23, "\x80\x00\x00"},
		{-32769, "\xff\x7f\xff"},
		{-32768, "\x80\x00"},
		{-257, "\xfe\xff"},
		{-256, "\xff\x00"},
		{-255, "\xff\x01"},
		{-129, "\xff\x7f"},
		{-128, "\x80"},
		{-127, "\x81"},
		{-2, "\xfe"},
		{-1, "\xff"},
		{0, "\x00"},
		{1, "\x01"},
		{127, "\x7f"},
		{128, "\x00\x80"},
		{255, "\x00\xff"},
		{256, "\x01\x00"},
		{32767, "\x7f\xff"},
		{32768, "\x00\x80\x00"},
		{65535, "\x00\xff\xff"},
		{65536, "\x01\x00\x00"},
		{1<<23 - 1, "\x7f\xff\xff"},
		{1 << 23, "\x00\x80\x00\x00"},
		{1<<31 - 1, "\x7f\xff\xff\xff"},
		{1 << 31, "\x00\x80\x00\x00\x00"},
		{1<<32 - 1, "\x00\xff\xff\xff\xff"},
		{1<<39 - 1, "\x7f\xff\xff\xff\xff"},
		{1 << 39, "\x00\x80\x00\x00\x00\x00"},
		{1<<47 - 1, "\x7f\xff\xff\xff\xff\xff"},
		{1 << 47, "\x00\x80\x00\x00\x00\x00\x00"},
		{1<<55 - 1, "\x7f\xff\xff\xff\xff\xff\xff"},
		{1 << 55, "\x00\x80\x00\x00\x00\x00\x00\x00"},
		{0x123456789abcdef, "\x01\x23\x45\x67\x89\xab\xcd\xef"},
		{math.MaxInt64 - 1, "\x7f\xff\xff\xff\xff\xff\xff\xfe"},
		{math.MaxInt64, "\x7f\xff\xff\xff\xff\xff\xff\xff"},
	}
}

func TestP10_2_ExamplesOfTheChapter(t *testing.T) {
	holdPut(t, 128, "\x00\x80")
	holdPut(t, -129, "\xff\x7f")
	holdGet(t, "\x00\x7f", 0, false)
}

func TestP10_2_Spellings(t *testing.T) {
	for _, c := range spellings() {
		holdPut(t, c.n, c.b)
		holdGet(t, c.b, c.n, true)
	}
}

func TestP10_2_ManyNumbers(t *testing.T) {
	for _, n := range numbers() {
		holdPut(t, n, spell(n))
	}
}

func TestP10_2_Empty(t *testing.T) {
	holdGet(t, "", 0, false)
}

func TestP10_2_TooLong(t *testing.T) {
	for _, n := range []int{9, 10, 16, 17, 20, 21, 255, 256, 257, 1 << 16} {
		for _, first := range []string{"\x00\x00", "\x00\x80", "\x00\xff", "\x01\x00", "\x7f\xff", "\x80\x00", "\xff\x00", "\xff\x7f", "\xff\xff"} {
			for _, rest := range []string{"\x00", "\x01", "\x7f", "\x80", "\xff"} {
				holdGet(t, first+strings.Repeat(rest, n-2), 0, false)
			}
		}
	}
}

func TestP10_2_NotAsShortAsCanBe(t *testing.T) {
	for _, c := range spellings() {
		more := "\x00"
		if c.n < 0 {
			more = "\xff"
		}
		for n := 1; n <= 9; n++ {
			holdGet(t, strings.Repeat(more, n)+c.b, 0, false)
		}
	}
}

// holdText compares what Get tells of a text with what the chapter says; what is got is put again.
func holdText(t *testing.T, b string) {
	if !right(api.TInteger, b) || len(b) > 8 {
		holdGet(t, b, 0, false)
		return
	}
	n := value(b)
	holdGet(t, b, n, true)
	holdPut(t, n, b)
}

func TestP10_2_P10_3_EveryShortContent(t *testing.T) {
	everyText(everyByte(), 2, func(b string) { holdText(t, b) })
	everyText("\x00\x01\x7f\x80\x81\xfe\xff", 5, func(b string) { holdText(t, b) })
	everyText("\x00\x80\xff", 10, func(b string) { holdText(t, b) })
}

func TestP10_2_P10_3_EveryByteAtEachPlace(t *testing.T) {
	for _, c := range spellings() {
		for at := range len(c.b) {
			for b := range 256 {
				holdText(t, c.b[:at]+string([]byte{byte(b)})+c.b[at+1:])
			}
		}
	}
}

func TestP10_3_WhatIsPutIsGot(t *testing.T) {
	for _, n := range numbers() {
		holdGet(t, Put(n), n, true)
	}
}

func TestP10_3_WhatIsGotIsPutAsItWas(t *testing.T) {
	everyText("\x00\x7f\x80\xff", 8, func(b string) {
		if n, ok := Get(b); ok {
			holdPut(t, n, b)
		}
	})
}

func TestP10_3_WhatIsPutIsRight(t *testing.T) {
	for _, n := range numbers() {
		b := Put(n)
		holdContent(t, api.TInteger, len(b), b, false)
		holdContent(t, api.TEnum, len(b), b, false)
	}
}

func TestP10_3_OneContent(t *testing.T) {
	list := numbers()
	slices.Sort(list)
	list = slices.Compact(list)
	of := make(map[string]int64)
	for _, n := range list {
		b := Put(n)
		if m, ok := of[b]; ok {
			t.Fatalf("Put(%d) and Put(%d) = %x", m, n, b)
		}
		of[b] = n
	}
}
