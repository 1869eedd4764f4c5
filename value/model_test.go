package value

import (
	"math"
	"strconv"
	"strings"
	"time"
	"unicode/utf8"

	"gantlet/api"
	"gantlet/head"
)

// The model goes along a text from element to element, as the chapters' words say, and asks of each content, as far as
// it came, whether some bytes behind can still make it right. It calls none of the layers that have contents.

// told is what comes of a text: the error, and its place.
type told struct {
	err api.Errno
	at  int
}

// printable is each byte that a PrintableString can have.
const printable = "ABCDEFGHIJKLMNOPQRSTUVWXYZabcdefghijklmnopqrstuvwxyz0123456789 '()+,-./:=?"

// canBe tells whether some bytes behind these make a right content of n bytes, of a primitive element of a universal tag.
func canBe(tag int, b string, n int) bool {
	if n < 0 || len(b) > n {
		return false
	}
	switch tag {
	case 0, api.TSequence, api.TSet:
		return false
	case api.TBool:
		return n == 1 && (b == "" || b == "\x00" || b == "\xff")
	case api.TInteger, api.TEnum:
		return n >= 1 && isShort(b)
	case api.TNull:
		return n == 0
	case api.TOid:
		return n >= 1 && oidCanBe(b, n)
	case api.TBits:
		return n >= 1 && bitsCanBe(b, n)
	case api.TUtc:
		return timeCanBe(tag, b, n, "990101000000Z")
	case api.TGeneralized:
		return timeCanBe(tag, b, n, "99990101000000Z")
	case api.TPrintable:
		return strings.Trim(b, printable) == ""
	case api.TIa5:
		return strings.IndexFunc(b, func(c rune) bool { return c >= 128 }) < 0
	case api.TUtf8:
		return utf8CanBe(b, n-len(b))
	}
	return true
}

// isShort tells whether an integer's bytes have no byte too many at their beginning.
func isShort(b string) bool {
	return len(b) < 2 || b[0] == 0 && b[1] >= 128 || b[0] == 255 && b[1] < 128 || b[0] != 0 && b[0] != 255
}

// oidCanBe goes from number to number: none begins with 80, and the last one is over with the content.
func oidCanBe(b string, n int) bool {
	for i := range len(b) {
		begins := i == 0 || b[i-1] < 128
		if begins && b[i] == 128 || i == n-1 && b[i] >= 128 {
			return false
		}
	}
	return true
}

// bitsCanBe looks at the first byte, and at the last one.
func bitsCanBe(b string, n int) bool {
	if b == "" {
		return true
	}
	if b[0] > 7 || n == 1 && b[0] > 0 {
		return false
	}
	return len(b) < n || n == 1 || int(b[n-1])%(1<<b[0]) == 0
}

// timeCanBe puts each digit behind the bytes, and fills up what is left: by a late year, and by first of January.
func timeCanBe(tag int, b string, n int, fill string) bool {
	if n != len(fill) {
		return false
	}
	if len(b) == n {
		return isTime(tag, b)
	}
	for _, next := range "0123456789Z" {
		if isTime(tag, b+string(next)+fill[len(b)+1:]) {
			return true
		}
	}
	return false
}

// isTime tells whether a time's content is right, by the library's calendar.
func isTime(tag int, content string) bool {
	date, ok := strings.CutSuffix(content, "Z")
	if !ok || strings.Trim(date, "0123456789") != "" {
		return false
	}
	if tag == api.TGeneralized && date < "2050" {
		return false
	}
	if tag == api.TUtc && date < "50" {
		date = "20" + date
	} else if tag == api.TUtc {
		date = "19" + date
	}
	part := func(from, to int) int {
		n, _ := strconv.Atoi(date[from:to])
		return n
	}
	// The library carries over what is too great: then it writes another date.
	day := time.Date(part(0, 4), time.Month(part(4, 6)), part(6, 8), part(8, 10), part(10, 12), part(12, 14), 0, time.UTC)
	return day.Format("20060102150405") == date
}

// utf8CanBe goes from character to character, by the library; of one that isn't whole there must be room for the rest.
func utf8CanBe(b string, left int) bool {
	for b != "" && utf8.FullRuneInString(b) {
		c, size := utf8.DecodeRuneInString(b)
		if c == utf8.RuneError && size == 1 {
			return false
		}
		b = b[size:]
	}
	switch {
	case b == "":
		return true
	case b[0] < 0xe0:
		return 2-len(b) <= left
	case b[0] < 0xf0:
		return 3-len(b) <= left
	}
	return 4-len(b) <= left
}

// model is a text, and how many elements can be open.
type model struct {
	b    string
	most int
}

// tell is what the chapters say of a text.
func tell(b string, depth int) told {
	m := model{b, min(64, max(0, depth))}
	at, err := m.element(0, math.MaxInt, 0)
	if err == api.OK && at < len(b) {
		err = api.ErrMore
	}
	return told{err, at}
}

// element goes along one that begins at a place, within as many others as are open, the innermost of which ends at
// limit; it answers the place behind it, or the one at which it is wrong.
func (m model) element(at, limit, open int) (int, api.Errno) {
	h, last, err := m.head(at, limit)
	if err != api.OK {
		return last, err
	}
	end := last + 1 + h.Len
	switch {
	case end > limit:
		return last, api.ErrFit
	case h.Cons && open == m.most:
		return last, api.ErrDepth
	case !canBegin(h):
		return last, api.ErrValue
	case !h.Cons:
		return m.content(h, last+1)
	}
	for at = last + 1; at < end; {
		if at, err = m.element(at, end, open+1); err != api.OK {
			return at, err
		}
	}
	return end, api.OK
}

// canBegin tells whether an element of that head can be right.
func canBegin(h api.Head) bool {
	if h.Class != api.CUniversal {
		return true
	}
	if h.Cons {
		return h.Tag == 16 || h.Tag == 17
	}
	return canBe(h.Tag, "", h.Len)
}

// head is the one at a place, and the place of its last byte, or of the one that is wrong.
func (m model) head(at, limit int) (api.Head, int, api.Errno) {
	for i := at; i < len(m.b); i++ {
		if i == limit {
			return api.Head{}, i, api.ErrFit
		}
		if h, _, err := head.Get(m.b[:i+1], at); err != api.ErrCut {
			return h, i, err
		}
	}
	return api.Head{}, len(m.b), api.ErrCut
}

// content is that of a primitive element, from its place on.
func (m model) content(h api.Head, at int) (int, api.Errno) {
	for i := at; i < at+h.Len; i++ {
		if i == len(m.b) {
			return i, api.ErrCut
		}
		if h.Class == api.CUniversal && !canBe(h.Tag, m.b[at:i+1], h.Len) {
			return i, api.ErrValue
		}
	}
	return at + h.Len, api.OK
}

// put is a head's bytes.
func put(h api.Head) string {
	b, err := head.Put(h)
	if err != api.OK {
		panic("the test's own head is wrong")
	}
	return b
}

// leaf is a primitive element of a universal tag.
func leaf(tag int, content string) string {
	return put(api.Head{Tag: tag, Len: len(content)}) + content
}

// around is a constructed element of a class and tag with these in it, one behind the other.
func around(class, tag int, in ...string) string {
	all := strings.Join(in, "")
	return put(api.Head{Class: class, Tag: tag, Cons: true, Len: len(all)}) + all
}

// sequence is a SEQUENCE of these.
func sequence(in ...string) string { return around(api.CUniversal, api.TSequence, in...) }

// oneByte is a text of that byte.
func oneByte(b int) string { return string([]byte{byte(b)}) }

// everyByte is all bytes, one behind the other.
func everyByte() string {
	b := make([]byte, 256)
	for i := range b {
		b[i] = byte(i)
	}
	return string(b)
}

// layerTags are the tags that a layer of 10 to 14 names.
func layerTags() []int {
	return []int{
		api.TBool, api.TInteger, api.TNull, api.TEnum, api.TOid, api.TBits, api.TUtc, api.TGeneralized,
		api.TUtf8, api.TPrintable, api.TIa5,
	}
}

// universalTags are the lowest ones, the greatest one, and some between: among them those whose lowest bits are the tags
// of layers.
func universalTags() []int {
	tags := []int{
		127, 128, 255, 256, 256 + api.TBool, 256 + api.TInteger, 256 + api.TSequence, 256 + api.TUtf8,
		1 << 14, 1 << 16, 1<<16 + api.TNull, 1<<24 + api.TUtc, api.MaxTag - 1, api.MaxTag,
	}
	for tag := range 41 {
		tags = append(tags, tag)
	}
	return tags
}

// dice gives numbers that go here and there, the same in every run.
type dice uint64

// below is a number from 0 to n - 1.
func (d *dice) below(n int) int {
	*d = *d*6364136223846793005 + 1442695040888963407
	return int(uint64(*d) >> 33 % uint64(n))
}

// bytes is so many of them.
func (d *dice) bytes(n int) string {
	b := make([]byte, n)
	for i := range b {
		b[i] = byte(d.below(256))
	}
	return string(b)
}

// size is how many bytes some right content of a universal tag has.
func (d *dice) size(tag int) int {
	n := d.below(7)
	if d.below(60) == 0 {
		n = []int{127, 128, 200}[d.below(3)]
	}
	switch tag {
	case api.TBool:
		return 1
	case api.TNull:
		return 0
	case api.TUtc:
		return 13
	case api.TGeneralized:
		return 15
	case api.TInteger, api.TEnum, api.TOid, api.TBits:
		return n + 1
	}
	return n
}

// content is some right content of a universal tag.
func (d *dice) content(tag int) string { return d.fill(tag, d.size(tag)) }

// fill is one of n bytes: byte by byte some that can be there.
func (d *dice) fill(tag, n int) string {
	from := everyByte()
	if tag == api.TUtc || tag == api.TGeneralized {
		from = "0123456789Z"
	}
	b := ""
	for len(b) < n {
		at := d.below(len(from))
		if next := b + from[at:at+1]; canBe(tag, next, n) {
			b = next
		}
	}
	return b
}

// leaf is some right primitive element.
func (d *dice) leaf() string {
	if d.below(6) == 0 {
		tags := universalTags()
		in := d.bytes(d.below(20))
		return put(api.Head{Class: 1 + d.below(3), Tag: tags[d.below(len(tags))], Len: len(in)}) + in
	}
	tags := append(layerTags(), api.TOctets, 7, 9, 13, 18, 20, 28, 30, 31, 300)
	tag := tags[d.below(len(tags))]
	return leaf(tag, d.content(tag))
}

// element is some right element, within which at most so many are one within the other.
func (d *dice) element(levels int) string {
	if levels == 0 || d.below(3) == 0 {
		return d.leaf()
	}
	in := ""
	for range d.below(5) {
		in += d.element(levels - 1 - d.below(min(levels, 2)))
	}
	return d.around(in)
}

// around is some constructed element that can have anything in it.
func (d *dice) around(in string) string {
	switch d.below(4) {
	case 0:
		tags := universalTags()
		return around(1+d.below(3), tags[d.below(len(tags))], in)
	case 1:
		return around(api.CUniversal, api.TSet, in)
	}
	return sequence(in)
}

// long is some right element that has many within it, side by side and in each other.
func (d *dice) long(levels int) string {
	in := ""
	for range 3 + d.below(8) {
		in += d.element(levels - 1)
	}
	return d.around(in)
}

// change is a text in which a byte is another one, lacks, or is one too many; or the end lacks.
func (d *dice) change(b string) string {
	at := d.below(len(b))
	edge := "\x00\x01\x02\x03\x05\x06\x07\x0c\x10\x11\x17\x1f\x22\x24\x30\x31\x39\x5a\x7f\x80\x81\xa0\xc3\xed\xf4\xff"
	other := edge[d.below(len(edge)):][:1]
	switch d.below(8) {
	case 0:
		return b[:at]
	case 1:
		return b[:at] + b[at+1:]
	case 2:
		return b[:at] + other + b[at:]
	case 3:
		return b[:at] + oneByte(int(b[at])^1<<d.below(8)) + b[at+1:]
	case 4:
		// One more or one less: often a length that is no longer right.
		return b[:at] + oneByte(int(b[at])+2*d.below(2)-1) + b[at+1:]
	}
	return b[:at] + other + b[at+1:]
}
