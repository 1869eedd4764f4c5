package text

import (
	"math"
	"slices"
	"strings"
	"sync"
	"testing"
	"unicode/utf8"

	"gantlet/api"
)

// printable is each byte that a PrintableString can have.
const printable = "ABCDEFGHIJKLMNOPQRSTUVWXYZabcdefghijklmnopqrstuvwxyz0123456789 '()+,-./:=?"

// beginnings are all that a character of UTF-8 begins with, but isn't whole with: how many bytes are left behind that.
// They come of the characters, one by one, as the library spells them.
var beginnings = sync.OnceValue(func() map[string]int {
	all := make(map[string]int)
	for c := rune(0); c <= 0x10ffff; c++ {
		if c >= 0xd800 && c <= 0xdfff {
			continue
		}
		spelled := string(c)
		for n := 1; n < len(spelled); n++ {
			all[spelled[:n]] = len(spelled) - n
		}
	}
	return all
})

// right tells what the chapter says of a content: with the library's words for UTF-8.
func right(tag int, content string) bool {
	switch tag {
	case api.TPrintable:
		return onlyOf(content, printable)
	case api.TIa5:
		return onlyOf(content, everyByte()[:128])
	case api.TUtf8:
		return utf8.ValidString(content)
	}
	return true
}

// onlyOf tells whether each byte of a content is one of those given.
func onlyOf(content, bytes string) bool {
	for i := range len(content) {
		if strings.IndexByte(bytes, content[i]) < 0 {
			return false
		}
	}
	return true
}

// canBe tells whether some bytes behind these make a right content of n bytes.
func canBe(tag int, b string, n int) bool {
	left := n - len(b)
	if left < 0 {
		return false
	}
	if right(tag, b) {
		return true // with as many letters behind it
	}
	if tag != api.TUtf8 {
		return false // of these each byte is right or wrong by itself
	}
	for b != "" {
		if c, size := utf8.DecodeRuneInString(b); c != utf8.RuneError || size > 1 {
			b = b[size:]
			continue
		}
		missing, ok := beginnings()[b]
		return ok && missing <= left
	}
	return true
}

// textTags are the tags of the chapter.
func textTags() []int { return []int{api.TPrintable, api.TIa5, api.TUtf8} }

// otherTags are those whose contents are any: the other ones of api, those beside the chapter's, and some that are none.
func otherTags() []int {
	return []int{
		api.TOctets, api.TBool, api.TInteger, api.TBits, api.TNull, api.TOid, api.TEnum, api.TSequence, api.TSet, api.TUtc, api.TGeneralized,
		0, 7, 8, 9, 11, 13, 14, 15, 18, 20, 21, 25, 26, 27, 28, 29, 30, 31, 255, 256, 256 + api.TUtf8, 256 + api.TPrintable, 256 + api.TIa5,
		api.MaxTag, api.MaxTag + 1, 1<<32 + api.TUtf8, 1<<32 + api.TPrintable, 1<<32 + api.TIa5, math.MaxInt,
		-1, -api.TUtf8, -api.TPrintable, -api.TIa5, -256, math.MinInt,
	}
}

// tags are all of those.
func tags() []int { return append(textTags(), otherTags()...) }

// lengths are how many bytes a content can have: few, and as many as can be.
func lengths() []int {
	return []int{
		0, 1, 2, 3, 4, 5, 7, 8, 9, 127, 128, 255, 256, 257, 1 << 16, 1 << 28, 1<<32 - 1, 1 << 32, 1<<32 + 1,
		api.MaxLen, api.MaxLen + 1, math.MaxInt - 1, math.MaxInt,
	}
}

// holdStart compares what Start tells with what it must, and answers the State. It ends the test, because most tests
// hold thousands of contents; Helper is called only then, because it takes far longer than what is compared.
func holdStart(t *testing.T, tag, n int, want bool) State {
	s, ok := Start(tag, n)
	if ok != want || !ok && s != (State{}) {
		t.Helper()
		t.Fatalf("Start(%d, %d) = %v, %t, want %t", tag, n, s, ok, want)
	}
	return s
}

// holdPush compares what Push tells of a byte with what it must, and ends the test likewise.
func holdPush(t *testing.T, s State, b byte, want bool) State {
	next, ok := s.Push(b)
	if ok != want || !ok && next != (State{}) {
		t.Helper()
		t.Fatalf("%v.Push(%x) = %v, %t, want %t", s, b, next, ok, want)
	}
	return next
}

// holdCheck compares what Check tells with what it must, and ends the test likewise.
func holdCheck(t *testing.T, tag int, content string, want bool) {
	if Check(tag, content) != want {
		t.Helper()
		shown := content[:min(len(content), 300)] // a line that can still be read
		t.Fatalf("Check(%d, %x) of %d bytes = %t", tag, shown, len(content), !want)
	}
}

// holdContent sees that each of the bytes is right where it stands, but the last one of them if that is wrong.
func holdContent(t *testing.T, tag, n int, b string, wrong bool) State {
	t.Helper()
	s := holdStart(t, tag, n, true)
	for i := range len(b) {
		s = holdPush(t, s, b[i], !wrong || i < len(b)-1)
	}
	return s
}

// holdWays compares what is told of each of the bytes, behind what came, with what the chapter says; and so on, up to
// so many more, from each State that is answered.
func holdWays(t *testing.T, tag, n int, s State, came, bytes string, more int) {
	t.Helper()
	if more == 0 || len(came) == n {
		return
	}
	for i := range len(bytes) {
		b := came + bytes[i:i+1]
		ok := canBe(tag, b, n)
		next := holdPush(t, s, bytes[i], ok)
		if ok {
			holdWays(t, tag, n, next, b, bytes, more-1)
		}
	}
}

// holdModel does so from the beginning on of a content of n bytes.
func holdModel(t *testing.T, tag, n int, bytes string, more int) {
	t.Helper()
	holdWays(t, tag, n, holdStart(t, tag, n, true), "", bytes, more)
}

// holdWhole compares all that is told of a content, up to the byte with which it is wrong, with what the chapter says.
func holdWhole(t *testing.T, tag int, content string) {
	t.Helper()
	holdCheck(t, tag, content, right(tag, content))
	s := holdStart(t, tag, len(content), true)
	for i := range len(content) {
		ok := canBe(tag, content[:i+1], len(content))
		s = holdPush(t, s, content[i], ok)
		if !ok {
			return
		}
	}
}

// oneByte is a text of that byte.
func oneByte(b int) string { return string([]byte{byte(b)}) }

// with is a content with another byte at a place.
func with(content string, at, b int) string { return content[:at] + oneByte(b) + content[at+1:] }

// everyByte is all bytes, one behind the other.
func everyByte() string {
	b := make([]byte, 256)
	for i := range b {
		b[i] = byte(i)
	}
	return string(b)
}

// everyText goes to each text of at most so many bytes, all of them of those given.
func everyText(bytes string, most int, visit func(b string)) {
	var from func(b string)
	from = func(b string) {
		visit(b)
		if len(b) == most {
			return
		}
		for i := range len(bytes) {
			from(b + bytes[i:i+1])
		}
	}
	from("")
}

// wrongWith is a content of n bytes, as far as it is written out; it is wrong with its byte at, or with none, if that
// is below 0.
type wrongWith struct {
	tag, n int
	b      string
	at     int
}

// spellings are contents written out, at the edges that the chapter names.
func spellings() []wrongWith {
	return slices.Concat(characters(), brokenCharacters(), otherStrings())
}

// characters are the first and the last of each size, as they are spelled, and in ways that aren't UTF-8.
func characters() []wrongWith {
	const u = api.TUtf8
	return []wrongWith{
		// The first and the last character of each size, and those beside them.
		{u, 1, "\x00", -1},
		{u, 1, "\x7f", -1},
		{u, 2, "\xc2\x80", -1},
		{u, 2, "\xdf\xbf", -1},
		{u, 3, "\xe0\xa0\x80", -1},
		{u, 3, "\xed\x9f\xbf", -1},
		{u, 3, "\xed\xa0\x80", 1},
		{u, 3, "\xed\xbf\xbf", 1},
		{u, 3, "\xee\x80\x80", -1},
		{u, 3, "\xef\xbf\xbd", -1},
		{u, 3, "\xef\xbf\xbe", -1},
		{u, 3, "\xef\xbf\xbf", -1},
		{u, 4, "\xf0\x90\x80\x80", -1},
		{u, 4, "\xf4\x8f\xbf\xbf", -1},
		{u, 4, "\xf4\x90\x80\x80", 1},
		{u, 4, "\xf7\xbf\xbf\xbf", 0},
		// Characters in more bytes than they take.
		{u, 2, "\xc0\x80", 0},
		{u, 2, "\xc0\xaf", 0},
		{u, 2, "\xc1\x80", 0},
		{u, 2, "\xc1\xbf", 0},
		{u, 3, "\xe0\x80\x80", 1},
		{u, 3, "\xe0\x81\xbf", 1},
		{u, 3, "\xe0\x9f\xbf", 1},
		{u, 4, "\xf0\x80\x80\x80", 1},
		{u, 4, "\xf0\x8f\xbf\xbf", 1},
		{u, 5, "\xf8\x88\x80\x80\x80", 0},
		{u, 6, "\xfc\x84\x80\x80\x80\x80", 0},
		{u, 6, "\xfd\xbf\xbf\xbf\xbf\xbf", 0},
		// A mark at the beginning is a character as others.
		{u, 4, "\xef\xbb\xbfa", -1},
		{u, 12, "Gr\xc3\xbc\xc3\x9fe \xf0\x9f\x98\x80", -1},
	}
}

// brokenCharacters are bytes that don't belong behind each other, and characters that aren't whole.
func brokenCharacters() []wrongWith {
	const u = api.TUtf8
	return []wrongWith{
		// Bytes that begin none.
		{u, 4, "\x80", 0},
		{u, 4, "\xbf", 0},
		{u, 4, "\xf5", 0},
		{u, 4, "\xff", 0},
		{u, 4, "\xfe\xff\x00a", 0},
		{u, 4, "a\x80", 1},
		{u, 4, "\xc2\x80\x80", 2},
		{u, 5, "\xe0\xa0\x80\x80", 3},
		{u, 6, "\xf0\x90\x80\x80\x80", 4},
		// Bytes that don't go on.
		{u, 3, "\xc2\x7f", 1},
		{u, 3, "\xc2\xc0", 1},
		{u, 3, "\xdfa", 1},
		{u, 3, "\xe1\x7f", 1},
		{u, 3, "\xe1\x80\x7f", 2},
		{u, 3, "\xe1\x80\xc2", 2},
		{u, 4, "\xf1\x80\x80\x7f", 3},
		{u, 4, "\xf1\x80\xc0", 2},
		// Too few bytes are left.
		{u, 1, "\xc3", 0},
		{u, 1, "\xe2", 0},
		{u, 1, "\xf0", 0},
		{u, 2, "\xc3", -1},
		{u, 2, "\xe2", 0},
		{u, 2, "\xf0", 0},
		{u, 3, "\xe2\x82", -1},
		{u, 3, "\xf0", 0},
		{u, 4, "\xf0\x9f\x98", -1},
		{u, 4, "a\xf0", 1},
		{u, 3, "\xc3\xa9\xc3", 2},
		{u, 4, "\xc3\xa9\xe2", 2},
		{u, 5, "\xc3\xa9\xe2\x82\xac", -1},
		{u, 6, "\xc3\xa9\xe2\x82\xac\xc2", 5},
	}
}

// otherStrings are contents of the two tags whose bytes are right or wrong one by one.
func otherStrings() []wrongWith {
	const p, i = api.TPrintable, api.TIa5
	return []wrongWith{
		{p, 12, " '()+,-./:=?", -1},
		{p, 74, printable, -1},
		{p, 2, "a@", 1},
		{p, 3, "a*", 1},
		{p, 3, "a_", 1},
		{p, 1, "\x00", 0},
		{p, 5, "Gr\xc3", 2},
		{p, 3, "\xef", 0},
		{i, 2, "\x00\x7f", -1},
		{i, 2, "\x7f\x80", 1},
		{i, 2, "\xc3", 0},
		{i, 1, "\xff", 0},
		{i, 3, "a@*", -1},
	}
}

func TestP14_1_ExamplesOfTheChapter(t *testing.T) {
	holdContent(t, api.TUtf8, 1, "\xc3", true)
	for n := 3; n < 9; n++ {
		holdContent(t, api.TUtf8, n, "\xe0\x80", true)
	}
	holdContent(t, api.TPrintable, 2, "a@", true)
}

func TestP14_1_Spellings(t *testing.T) {
	for _, c := range spellings() {
		if c.at < 0 {
			holdContent(t, c.tag, c.n, c.b, false)
			continue
		}
		holdContent(t, c.tag, c.n, c.b[:c.at+1], true)
	}
}

func TestP14_1_HowManyBytes(t *testing.T) {
	for _, tag := range tags() {
		for _, n := range lengths() {
			holdStart(t, tag, n, true)
		}
		for _, n := range []int{math.MinInt, math.MinInt + 1, -1 << 32, -1<<32 + 1, -257, -256, -255, -4, -3, -2, -1} {
			holdStart(t, tag, n, false)
		}
	}
}

func TestP14_1_EveryByteOfAPrintableString(t *testing.T) {
	for b := range 256 {
		letter := b >= 'A' && b <= 'Z' || b >= 'a' && b <= 'z'
		digit := b >= '0' && b <= '9'
		mark := b < 128 && strings.ContainsRune(" '()+,-./:=?", rune(b))
		for _, ahead := range []string{"", "a", "Z9", printable} {
			for more := range 5 {
				holdContent(t, api.TPrintable, len(ahead)+1+more, ahead+oneByte(b), !letter && !digit && !mark)
			}
		}
	}
}

func TestP14_1_BytesBesideThoseOfAPrintableString(t *testing.T) {
	for _, b := range []byte("\x1f!\"#$%&*;<>@[\\]^_`{|}~\x7f\x80\xa0\xff") {
		holdContent(t, api.TPrintable, 1, oneByte(int(b)), true)
		// With another of its bits it is one that there is, or is still beside them.
		for bit := range 8 {
			c := int(b) ^ 1<<bit
			holdContent(t, api.TPrintable, 1, oneByte(c), strings.IndexByte(printable, byte(c)) < 0)
		}
	}
	for _, b := range []byte("AZaz09 '()+,-./:=?") {
		holdContent(t, api.TPrintable, 1, oneByte(int(b)), false)
	}
}

func TestP14_1_EveryByteOfAnIa5String(t *testing.T) {
	for b := range 256 {
		for _, ahead := range []string{"", "a", "\x00\x7f", everyByte()[:128]} {
			for more := range 5 {
				holdContent(t, api.TIa5, len(ahead)+1+more, ahead+oneByte(b), b > 127)
			}
		}
	}
}

func TestP14_1_OtherTagsHaveAnyBytes(t *testing.T) {
	for _, tag := range otherTags() {
		for _, n := range []int{256, 257, 1 << 32, math.MaxInt} {
			holdContent(t, tag, n, everyByte(), false)
		}
		for b := range 256 {
			holdContent(t, tag, 1, oneByte(b), false)
			holdContent(t, tag, 2, "\xf4"+oneByte(b), false)
		}
	}
}

// spell answers a number's bits in so many bytes, laid out as UTF-8 lays out a character's, though there is no such one.
func spell(c, bytes int) string {
	if bytes == 1 {
		return oneByte(c)
	}
	b := ""
	for range bytes - 1 {
		b = oneByte(0x80+c%64) + b
		c /= 64
	}
	return oneByte(0xff00>>bytes&0xff+c) + b
}

// room is the first number that so many bytes have no room for.
func room(bytes int) int { return []int{0, 1 << 7, 1 << 11, 1 << 16, 1 << 21, 1 << 26, 1 << 31}[bytes] }

func TestP14_1_P14_2_EveryCharacter(t *testing.T) {
	for c := range 0x200000 {
		is := c <= 0x10ffff && (c < 0xd800 || c > 0xdfff)
		least := true
		for bytes := 1; bytes <= 4; bytes++ {
			if c >= room(bytes) {
				continue
			}
			holdCheck(t, api.TUtf8, spell(c, bytes), is && least)
			least = false
		}
	}
}

func TestP14_1_CharactersInMoreBytes(t *testing.T) {
	for _, c := range []int{0, 1, 0x2f, 0x7f, 0x80, 0x7ff, 0x800, 0xd7ff, 0xd800, 0xdfff, 0xe000, 0xffff, 0x10000, 0x10ffff, 0x110000, 0x1fffff} {
		for bytes := 2; bytes <= 6; bytes++ {
			if c >= room(bytes-1) {
				continue
			}
			// The first byte says it, or the second one does if the first has none of the bits that are left out.
			b := spell(c, bytes)
			at := 1
			if bytes == 2 || bytes > 4 {
				at = 0
			}
			for more := range 4 {
				holdContent(t, api.TUtf8, bytes+more, b[:at+1], true)
				holdContent(t, api.TUtf8, 2+bytes+more, "\xc3\xa9"+b[:at+1], true)
			}
		}
	}
}

// size is how many bytes a character has that begins with the byte; 0: none does.
func size(first int) int {
	switch {
	case first <= 0x7f:
		return 1
	case first >= 0xc2 && first <= 0xdf:
		return 2
	case first >= 0xe0 && first <= 0xef:
		return 3
	case first >= 0xf0 && first <= 0xf4:
		return 4
	}
	return 0
}

// seconds are the least and the greatest byte that can stand behind a first one.
func seconds(first int) (int, int) {
	switch first {
	case 0xe0:
		return 0xa0, 0xbf
	case 0xed:
		return 0x80, 0x9f
	case 0xf0:
		return 0x90, 0xbf
	case 0xf4:
		return 0x80, 0x8f
	}
	return 0x80, 0xbf
}

func TestP14_1_EveryFirstByte(t *testing.T) {
	for _, ahead := range []string{"", "a", "\x00", "\xc3\xa9", "\xe2\x82\xac", "\xf0\x9f\x98\x80", "\xef\xbf\xbd"} {
		for first := range 256 {
			for left := 1; left <= 9; left++ {
				wrong := size(first) == 0 || size(first) > left
				holdContent(t, api.TUtf8, len(ahead)+left, ahead+oneByte(first), wrong)
			}
			for _, n := range lengths() {
				if n > len(ahead)+4 {
					holdContent(t, api.TUtf8, n, ahead+oneByte(first), size(first) == 0)
				}
			}
		}
	}
}

func TestP14_1_EverySecondByte(t *testing.T) {
	for first := range 256 {
		if size(first) < 2 {
			continue
		}
		least, most := seconds(first)
		for second := range 256 {
			for more := range 5 {
				b := oneByte(first) + oneByte(second)
				holdContent(t, api.TUtf8, size(first)+more, b, second < least || second > most)
			}
		}
	}
}

func TestP14_1_BytesBehindTheSecond(t *testing.T) {
	for first := range 256 {
		if size(first) < 3 {
			continue
		}
		least, most := seconds(first)
		for second := least; second <= most; second++ {
			b := oneByte(first) + oneByte(second)
			for n := 2; n < size(first); n++ {
				for next := range 256 {
					// Behind the second byte none is asked for that is narrower.
					holdContent(t, api.TUtf8, size(first), b+oneByte(next), next < 0x80 || next > 0xbf)
				}
				b += "\x80"
			}
		}
	}
}

func TestP14_1_ByteBehindACharacter(t *testing.T) {
	// What the character's bytes were plays no part any more.
	for _, c := range []string{"a", "\x00", "\xc2\x80", "\xdf\xbf", "\xe0\xa0\x80", "\xed\x9f\xbf", "\xef\xbf\xbf", "\xf0\x90\x80\x80", "\xf4\x8f\xbf\xbf"} {
		for b := range 256 {
			for left := 1; left <= 5; left++ {
				wrong := size(b) == 0 || size(b) > left
				holdContent(t, api.TUtf8, len(c)+left, c+oneByte(b), wrong)
				holdContent(t, api.TUtf8, 3*len(c)+left, c+c+c+oneByte(b), wrong)
			}
		}
	}
}

func TestP14_1_CutOff(t *testing.T) {
	for _, c := range []string{"\xc2\x80", "\xc3\xa9", "\xdf\xbf", "\xe0\xa0\x80", "\xe2\x82\xac", "\xed\x9f\xbf", "\xef\xbf\xbf", "\xf0\x90\x80\x80", "\xf0\x9f\x98\x80", "\xf4\x8f\xbf\xbf"} {
		for _, ahead := range []string{"", "a", "\x7f\x00", c, c + c + c, strings.Repeat("\xe2\x82\xac", 100)} {
			for n := 1; n < len(c); n++ {
				// Of so many bytes of a character, if no more belong there, the first one is wrong.
				holdContent(t, api.TUtf8, len(ahead)+n, ahead+c[:1], true)
				holdCheck(t, api.TUtf8, ahead+c[:n], false)
				// And none of those is, if all do: then the next one can't be another character's.
				holdContent(t, api.TUtf8, len(ahead)+len(c), ahead+c[:n], false)
				holdContent(t, api.TUtf8, len(ahead)+len(c)+9, ahead+c[:n]+"a", true)
				holdContent(t, api.TUtf8, len(ahead)+len(c)+9, ahead+c[:n]+c[:1], true)
				holdCheck(t, api.TUtf8, ahead+c[:n]+"a", false)
				holdCheck(t, api.TUtf8, ahead+c[:n]+c, false)
			}
			holdContent(t, api.TUtf8, len(ahead)+len(c), ahead+c, false)
			holdCheck(t, api.TUtf8, ahead+c, true)
		}
	}
}

// beginningsOf are the beginnings of all right contents of UTF-8 of n bytes: each text of so many bytes is looked at.
func beginningsOf(n int) map[string]bool {
	all := make(map[string]bool)
	b := make([]byte, n)
	for number := range 1 << (8 * n) {
		for i := range b {
			b[i] = byte(number >> (8 * (n - 1 - i)))
		}
		if !utf8.Valid(b) {
			continue
		}
		for i := range n {
			if !all[string(b[:i+1])] {
				all[string(b[:i+1])] = true
			}
		}
	}
	return all
}

func TestP14_1_P14_2_EveryShortContent(t *testing.T) {
	for n := 1; n <= 3; n++ {
		all := beginningsOf(n)
		var from func(s State, came string)
		from = func(s State, came string) {
			for b := range 256 {
				next := came + oneByte(b)
				ok := all[next]
				state := holdPush(t, s, byte(b), ok)
				switch {
				case len(next) == n:
					holdCheck(t, api.TUtf8, next, ok)
				case ok:
					from(state, next)
				}
			}
		}
		from(holdStart(t, api.TUtf8, n, true), "")
	}
}

// edges are bytes at which what is asked of UTF-8 changes.
const edges = "\x00\x7f\x80\x8f\x90\x9f\xa0\xbf\xc0\xc1\xc2\xdf\xe0\xe1\xec\xed\xee\xef\xf0\xf1\xf3\xf4\xf5\xff"

func TestP14_1_EdgesOneBehindTheOther(t *testing.T) {
	for n := 1; n <= 5; n++ {
		holdModel(t, api.TUtf8, n, edges, 4)
	}
	for n := 4; n <= 8; n++ {
		holdModel(t, api.TUtf8, n, "a\x80\xbf\xc2\xe0\xe1\xf0\xf4", 6)
	}
	for _, n := range []int{9, 20, 1 << 20, math.MaxInt} {
		holdModel(t, api.TUtf8, n, edges, 3)
	}
	for _, tag := range []int{api.TPrintable, api.TIa5, api.TOctets} {
		for n := 1; n <= 4; n++ {
			holdModel(t, tag, n, "A@[\x7f\x80\xc2*?\xff", 4)
		}
		holdModel(t, tag, 2, everyByte(), 2)
	}
}

// pieces are right contents of UTF-8, of which longer ones are made.
func pieces() []string {
	return []string{
		"a", "Z 9", "\x00", "\x7f", "@*_", "\xc2\x80", "\xc3\xa9", "\xdf\xbf", "\xe0\xa0\x80", "\xe2\x82\xac", "\xed\x9f\xbf",
		"\xee\x80\x80", "\xef\xbb\xbf", "\xef\xbf\xbf", "\xf0\x90\x80\x80", "\xf0\x9f\x98\x80", "\xf3\xbf\xbf\xbf", "\xf4\x8f\xbf\xbf",
	}
}

// steps answers numbers below n that look like thrown ones; each call goes on from the same beginning.
func steps(n int) func() int {
	x := uint32(1)
	return func() int {
		x = x*1664525 + 1013904223
		return int(x>>8) % n
	}
}

// longContents are some contents of many pieces, for each tag.
func longContents() []wrongWith {
	var list []wrongWith
	piece, mark, low, any := steps(len(pieces())), steps(len(printable)), steps(128), steps(256)
	for count := range 60 {
		var text, marks, ia5, bytes strings.Builder
		for range count {
			text.WriteString(pieces()[piece()])
			marks.WriteByte(printable[mark()])
			ia5.WriteByte(byte(low()))
			bytes.WriteByte(byte(any()))
		}
		list = append(list,
			wrongWith{api.TUtf8, text.Len(), text.String(), -1},
			wrongWith{api.TPrintable, marks.Len(), marks.String(), -1},
			wrongWith{api.TIa5, ia5.Len(), ia5.String(), -1},
			wrongWith{api.TOctets, bytes.Len(), bytes.String(), -1})
	}
	return list
}

func TestP14_1_P14_2_LongerContents(t *testing.T) {
	for _, c := range longContents() {
		holdContent(t, c.tag, c.n, c.b, false)
		for _, tag := range []int{c.tag, api.TUtf8, api.TPrintable, api.TIa5, api.TNull} {
			holdWhole(t, tag, c.b)
		}
	}
}

func TestP14_1_P14_2_EachByteChanged(t *testing.T) {
	change := steps(256)
	for _, c := range longContents() {
		for at := range len(c.b) {
			holdWhole(t, c.tag, with(c.b, at, int(c.b[at])^1<<(change()%8)))
			holdWhole(t, c.tag, with(c.b, at, change()))
			holdWhole(t, c.tag, c.b[:at]+c.b[at+1:])
			holdWhole(t, c.tag, c.b[:at]+oneByte(change())+c.b[at:])
			holdWhole(t, c.tag, c.b[:at])
		}
	}
}

func TestP14_1_EveryByteAtEachPlace(t *testing.T) {
	for _, c := range spellings() {
		for at := range len(c.b) {
			for b := range 256 {
				holdWhole(t, c.tag, with(c.b, at, b))
			}
		}
	}
}

// begun are contents as far as they came, in each state in which they can be.
func begun() []wrongWith {
	var list []wrongWith
	for _, tag := range []int{api.TPrintable, api.TIa5, api.TOctets, 0} {
		for _, n := range []int{1, 2, math.MaxInt} {
			list = append(list, wrongWith{tag, n, "", -1})
		}
		list = append(list, wrongWith{tag, 3, "aZ", -1}, wrongWith{tag, 9, "aZ", -1})
	}
	for _, n := range []int{1, 2, 3, 4, 5, 1000, math.MaxInt} {
		list = append(list, wrongWith{api.TUtf8, n, "", -1})
	}
	for b, missing := range beginnings() {
		if len(b) == 3 && b[2] != 0x80 && b[2] != 0xbf {
			continue
		}
		for _, ahead := range []string{"", "a\xe2\x82\xac"} {
			list = append(list, wrongWith{api.TUtf8, len(ahead+b) + missing, ahead + b, -1})
		}
		list = append(list, wrongWith{api.TUtf8, math.MaxInt, b, -1})
	}
	return list
}

func TestP14_1_PushChangesNoState(t *testing.T) {
	for _, c := range begun() {
		var can [256]bool
		for b := range can {
			can[b] = canBe(c.tag, c.b+oneByte(b), c.n)
		}
		s := holdContent(t, c.tag, c.n, c.b, false)
		was := s
		// Each byte comes behind some other one: what is told of it hangs on none that was pushed ahead of it.
		for first := range 256 {
			for _, second := range []byte("a\x80\xa0\xbf\xc2\xe0\xff") {
				holdPush(t, s, byte(first), can[first])
				holdPush(t, s, second, can[second])
			}
		}
		if s != was {
			t.Fatalf("behind %x: %v, it was %v", c.b, s, was)
		}
	}
}

func TestP14_1_EitherStateGoesOn(t *testing.T) {
	// Several go on from one, by turns: what comes to one of them is nothing to the others.
	s := holdStart(t, api.TUtf8, 4, true)
	two, three, four := holdPush(t, s, 0xc2, true), holdPush(t, s, 0xe0, true), holdPush(t, s, 0xf4, true)
	one := holdPush(t, s, 'a', true)
	holdPush(t, s, 0x80, false)
	holdPush(t, three, 0x80, false)
	holdPush(t, four, 0x90, false)
	two = holdPush(t, two, 0x80, true)
	holdPush(t, one, 0x80, false)
	three = holdPush(t, three, 0xa0, true)
	four = holdPush(t, four, 0x80, true)
	one = holdPush(t, one, 0xef, true)
	holdPush(t, two, 0x80, false)
	two = holdPush(t, two, 0xdf, true)
	four = holdPush(t, four, 0xbf, true)
	holdPush(t, three, 'a', false)
	three = holdPush(t, three, 0xbf, true)
	one = holdPush(t, one, 0xbf, true)
	holdPush(t, three, 0xc2, false)
	holdPush(t, three, 'a', true)
	for _, open := range []State{one, two, four} {
		holdPush(t, open, 'a', false)
		holdPush(t, open, 0xbf, true)
	}
	holdPush(t, s, 0xed, true)
}

func TestP14_1_StatesKnowNothingOfEachOther(t *testing.T) {
	within := holdContent(t, api.TUtf8, 3, "\xed", false)
	fresh := holdStart(t, api.TUtf8, 1, true)
	letters := holdStart(t, api.TPrintable, 2, true)
	low := holdContent(t, api.TIa5, 2, "\x00", false)
	any := holdStart(t, api.TOctets, 1, true)
	holdContent(t, api.TUtf8, 3, "\xe0\x9f", true)
	holdContent(t, api.TUtf8, 4, "\xf1\x80\x80", false)
	holdContent(t, api.TPrintable, 1, "@", true)
	holdContent(t, api.TIa5, 1, "\x80", true)
	holdStart(t, api.TUtf8, -1, false)
	holdPush(t, fresh, 0x80, false)
	holdPush(t, fresh, 0xc2, false)
	holdPush(t, fresh, 0x7f, true)
	holdPush(t, letters, 0x00, false)
	holdPush(t, letters, 'a', true)
	holdPush(t, low, 0xff, false)
	holdPush(t, low, 0x7f, true)
	holdPush(t, any, 0xff, true)
	holdPush(t, within, 0xa0, false)
	holdPush(t, within, 0x9f, true)
}

func TestP14_1_PushOfOtherStatesEnds(t *testing.T) {
	// Nothing is promised of what it tells; but it doesn't panic.
	State{}.Push('a')
	for _, c := range spellings() {
		s, _ := Start(c.tag, len(c.b))
		for i := range len(c.b) {
			s, _ = s.Push(c.b[i])
		}
		for b := range 256 {
			next, _ := s.Push(byte(b))
			next.Push(0x80)
		}
	}
}

func TestP14_2_ExamplesOfTheChapter(t *testing.T) {
	holdCheck(t, api.TUtf8, "\xc3", false)
	holdCheck(t, api.TUtf8, "\xe0\x80", false)
	holdCheck(t, api.TPrintable, "a@", false)
}

func TestP14_2_Spellings(t *testing.T) {
	for _, c := range spellings() {
		if c.at < 0 && c.n > len(c.b) {
			holdCheck(t, c.tag, c.b, false) // it came only in part
			continue
		}
		holdCheck(t, c.tag, c.b, c.at < 0)
		holdCheck(t, c.tag, c.b+"a", c.at < 0)
		holdCheck(t, c.tag, "a"+c.b, c.at < 0)
	}
}

func TestP14_2_Empty(t *testing.T) {
	for _, tag := range tags() {
		holdCheck(t, tag, "", true)
	}
}

func TestP14_2_EveryByte(t *testing.T) {
	for b := range 256 {
		c := oneByte(b)
		holdCheck(t, api.TPrintable, c, strings.Contains(printable, c))
		holdCheck(t, api.TIa5, c, b < 128)
		holdCheck(t, api.TUtf8, c, b < 128)
		for _, tag := range otherTags() {
			holdCheck(t, tag, c, true)
		}
	}
}

func TestP14_2_TagsBesideEachOther(t *testing.T) {
	for _, c := range []struct {
		content               string
		printable, ia5, utf8s bool
	}{
		{"Grand Hotel 9", true, true, true},
		{"grand@hotel", false, true, true},
		{"gr\xc3\xa4nd", false, false, true},
		{"gr\xe4nd", false, false, false},
		{"\xc3", false, false, false},
	} {
		holdCheck(t, api.TPrintable, c.content, c.printable)
		holdCheck(t, api.TIa5, c.content, c.ia5)
		holdCheck(t, api.TUtf8, c.content, c.utf8s)
		for _, tag := range otherTags() {
			holdCheck(t, tag, c.content, true)
		}
	}
}

func TestP14_2_EveryTextOfTheEdges(t *testing.T) {
	everyText(edges, 4, func(b string) { holdCheck(t, api.TUtf8, b, right(api.TUtf8, b)) })
	everyText("a\x80\xbf\xc2\xe1\xf1", 7, func(b string) { holdCheck(t, api.TUtf8, b, right(api.TUtf8, b)) })
	everyText("A@Z[/09:;? \x1f\x80", 4, func(b string) { holdCheck(t, api.TPrintable, b, right(api.TPrintable, b)) })
	everyText("\x00\x7f\x80\xff", 6, func(b string) { holdCheck(t, api.TIa5, b, right(api.TIa5, b)) })
}

func TestP14_2_ManyBytes(t *testing.T) {
	long := map[int]string{
		api.TPrintable: strings.Repeat(printable, 1000),
		api.TIa5:       strings.Repeat(everyByte()[:128], 1000),
		api.TUtf8:      strings.Repeat(strings.Join(pieces(), ""), 1000),
		api.TOctets:    strings.Repeat(everyByte(), 1000),
	}
	for tag, content := range long {
		other := tag == api.TOctets
		holdCheck(t, tag, content, true)
		holdCheck(t, tag, content+"\xff", other)
		holdCheck(t, tag, "\xff"+content, other)
		holdCheck(t, tag, content+"\xff"+content, other)
		holdCheck(t, tag, content+"\xc3", other)
		holdCheck(t, tag, content[:len(content)-1]+"\xff", other)
	}
}

func TestP14_3_OneBehindTheOther(t *testing.T) {
	list := longContents()
	for _, c := range spellings() {
		if right(c.tag, c.b) {
			list = append(list, c)
		}
	}
	for _, tag := range textTags() {
		list = append(list, wrongWith{tag, 0, "", -1})
	}
	for _, c := range list {
		for _, d := range list {
			if c.tag != d.tag {
				continue
			}
			holdCheck(t, c.tag, c.b+d.b, true)
			holdContent(t, c.tag, len(c.b)+len(d.b), c.b+d.b, false)
		}
	}
}

func TestP14_3_EveryTwoShortOnes(t *testing.T) {
	for _, tag := range append(textTags(), api.TOctets) {
		var list []string
		everyText("a@\x00\x80\xa0\xbf\xc2\xe0\xe1\xf1", 4, func(b string) {
			if Check(tag, b) {
				list = append(list, b)
			}
		})
		list = list[:min(len(list), 1000)]
		for _, b := range list {
			for _, c := range list {
				holdCheck(t, tag, b+c, true)
			}
		}
	}
}

func TestP14_3_AWrongOneBehindARightOne(t *testing.T) {
	// Behind a right content a byte is wrong just where it is so in a content of its own.
	for _, c := range spellings() {
		for _, ahead := range []string{"a", "Z 9", strings.Repeat("Az", 40)} {
			n := len(ahead) + c.n
			if c.at < 0 {
				holdContent(t, c.tag, n, ahead+c.b, false)
				continue
			}
			holdContent(t, c.tag, n, ahead+c.b[:c.at+1], true)
		}
	}
}
