package oid

import (
	"fmt"
	"math"
	"math/big"
	"slices"
	"strconv"
	"strings"
	"testing"
)

// split answers a content's numbers, each as its bytes; what stands behind the last whole one is another.
func split(content string) []string {
	var list []string
	from := 0
	for at := range len(content) {
		if content[at] < 128 {
			list = append(list, content[from:at+1])
			from = at + 1
		}
	}
	if from < len(content) {
		list = append(list, content[from:])
	}
	return list
}

// right tells what the chapter says of a content, number by number.
func right(content string) bool {
	for _, b := range split(content) {
		if b[0] == 128 {
			return false
		}
	}
	return content != "" && content[len(content)-1] < 128
}

// canBe tells whether some bytes behind these make a right content of n bytes. No promise hangs on what stands behind
// the next byte, but for the last one: so each next byte is tried, and behind it always the same ones.
func canBe(b string, n int) bool {
	left := n - len(b)
	if left <= 0 {
		return left == 0 && right(b)
	}
	for next := range 256 {
		for _, rest := range []string{"\x00", "\x7f", "\x80", "\x81", "\xff"} {
			for _, last := range []string{"\x00", "\x7f", "\x80", "\xff"} {
				c := b + string([]byte{byte(next)})
				if left > 1 {
					c += strings.Repeat(rest, left-2) + last
				}
				if right(c) {
					return true
				}
			}
		}
	}
	return false
}

// holdStart compares what Start tells with what it must, and answers the State. It ends the test, because most tests
// hold thousands of contents; Helper is called only then, because it takes far longer than what is compared.
func holdStart(t *testing.T, n int, want bool) State {
	s, ok := Start(n)
	if ok != want || !ok && s != (State{}) {
		t.Helper()
		t.Fatalf("Start(%d) = %v, %t, want %t", n, s, ok, want)
	}
	return s
}

// holdPush compares what Push tells of a byte with what it must, and ends the test likewise.
func holdPush(t *testing.T, s State, b byte, want bool) State {
	next, ok := s.Push(b)
	if ok != want || !ok && next != (State{}) {
		t.Helper()
		t.Fatalf("%v.Push(%x) = %v, %t, want %t", s, b, next, ok, want)
	}
	return next
}

// holdContent sees that each of the bytes is right where it stands, but the last one of them if that is wrong.
func holdContent(t *testing.T, n int, b string, wrong bool) State {
	t.Helper()
	s := holdStart(t, n, true)
	for i := range len(b) {
		s = holdPush(t, s, b[i], !wrong || i < len(b)-1)
	}
	return s
}

// holdWays compares what is told of each of the bytes, behind what came, with what the chapter says; and so on, up to
// so many more, from each State that is answered.
func holdWays(t *testing.T, n int, s State, came, bytes string, more int) {
	t.Helper()
	if more == 0 || len(came) == n {
		return
	}
	for i := range len(bytes) {
		b := came + bytes[i:i+1]
		ok := canBe(b, n)
		next := holdPush(t, s, bytes[i], ok)
		if ok {
			holdWays(t, n, next, b, bytes, more-1)
		}
	}
}

// holdModel does so from the beginning on of a content of n bytes.
func holdModel(t *testing.T, n int, bytes string, more int) {
	t.Helper()
	ok := canBe("", n)
	s := holdStart(t, n, ok)
	if ok {
		holdWays(t, n, s, "", bytes, more)
	}
}

// holdPut compares what Put tells with what it must, and ends the test likewise.
func holdPut(t *testing.T, arcs []uint64, want string, wantOk bool) {
	if b, ok := Put(arcs...); b != want || ok != wantOk {
		t.Helper()
		t.Fatalf("Put(%v) = %x, %t, want %x, %t", arcs, b, ok, want, wantOk)
	}
}

// holdGet compares what Get tells with what it must, and ends the test likewise.
func holdGet(t *testing.T, content string, want []uint64, wantOk bool) {
	if arcs, ok := Get(content); !slices.Equal(arcs, want) || ok != wantOk {
		t.Helper()
		t.Fatalf("Get(%x) = %v, %t, want %v, %t", content, arcs, ok, want, wantOk)
	}
}

// everyText goes to each text of at most so many bytes, all of them of those given.
func everyText(bytes string, most int, visit func(b string)) {
	var from func(b string)
	from = func(b string) {
		visit(b)
		if len(b) == most {
			return
		}
		for i := range len(bytes) {
			from(b + bytes[i:i+1])
		}
	}
	from("")
}

// everyByte is all bytes, one behind the other.
func everyByte() string {
	b := make([]byte, 256)
	for i := range b {
		b[i] = byte(i)
	}
	return string(b)
}

// lengths are how many bytes a content can have: few, about those of the greatest number, and as many as can be.
func lengths() []int {
	return []int{1, 2, 3, 4, 8, 9, 10, 11, 12, 20, 127, 128, 129, 1 << 16, 1 << 32, math.MaxInt - 1, math.MaxInt}
}

func TestP11_1_ExampleOfTheChapter(t *testing.T) {
	holdContent(t, 3, "\x2a\x80", true)
	holdContent(t, 3, "\x2a\x86\x48", false)
	holdContent(t, 2, "\x88\x37", false)
}

func TestP11_1_HowManyBytes(t *testing.T) {
	for _, n := range []int{math.MinInt, math.MinInt + 1, -1 << 32, -1<<32 + 1, -257, -256, -255, -3, -2, -1, 0} {
		holdStart(t, n, false)
	}
	for _, n := range lengths() {
		holdStart(t, n, true)
	}
}

func TestP11_1_OneByte(t *testing.T) {
	for b := range 256 {
		holdContent(t, 1, string([]byte{byte(b)}), b >= 128)
	}
}

func TestP11_1_EveryFirstByte(t *testing.T) {
	for _, n := range lengths()[1:] {
		for b := range 256 {
			holdContent(t, n, string([]byte{byte(b)}), b == 128)
		}
	}
}

func TestP11_1_EverySecondByte(t *testing.T) {
	for first := range 256 {
		if first == 128 {
			continue
		}
		for second := range 256 {
			b := string([]byte{byte(first), byte(second)})
			holdContent(t, 2, b, second >= 128)
			for _, n := range lengths()[2:] {
				holdContent(t, n, b, first < 128 && second == 128)
			}
		}
	}
}

func TestP11_1_EveryByteOfALaterNumber(t *testing.T) {
	for _, ahead := range []string{"\x2a", "\x2a\x00", "\x88\x37", "\x2a\x86\x48", "\x81\x80\x00", "\x00\x00\x00\x00", "\xff\xff\x7f\x7f"} {
		for b := range 256 {
			// As its first byte; as its second; and as its third, behind a byte 128.
			holdContent(t, 100, ahead+string([]byte{byte(b)}), b == 128)
			holdContent(t, 100, ahead+string([]byte{0x81, byte(b)}), false)
			holdContent(t, 100, ahead+string([]byte{0x81, 0x80, byte(b)}), false)
		}
	}
}

func TestP11_1_EveryLastByte(t *testing.T) {
	for _, ahead := range []string{
		"\x00", "\x7f", "\x81", "\xff", "\x2a\x86", "\x2a\x03", "\x81\x80", "\x81\x80\x80", "\x81\x00", "\xff\xff\xff\xff\xff\xff\xff\xff\xff\xff",
		strings.Repeat("\x00", 300), strings.Repeat("\xff", 300), strings.Repeat("\x86\x48", 300), strings.Repeat("\x86\x48", 300) + "\x86",
	} {
		for b := range 256 {
			c := ahead + string([]byte{byte(b)})
			holdContent(t, len(c), c, b >= 128)
			// With bytes behind it, it isn't the last one.
			fresh := ahead[len(ahead)-1] < 128
			holdContent(t, len(c)+1, c, fresh && b == 128)
			holdContent(t, len(c)+300, c, fresh && b == 128)
		}
	}
}

func TestP11_1_ByteOf128WithinANumber(t *testing.T) {
	for _, ahead := range []string{"", "\x2a", "\x2a\x86\x48", "\x88\x37"} {
		for first := 129; first < 256; first++ {
			for _, many := range []int{1, 2, 8, 9, 20, 300} {
				c := ahead + string([]byte{byte(first)}) + strings.Repeat("\x80", many)
				holdContent(t, len(c)+1, c+"\x00", false)
				holdContent(t, len(c)+1, c+"\x7f", false)
				holdContent(t, len(c)+2, c+"\x00\x80", true)
				holdContent(t, len(c), c, true)
			}
		}
	}
}

func TestP11_1_NumbersFarAboveAllArcs(t *testing.T) {
	const n = 1 << 16
	for _, groups := range []string{"\xff", "\x81", "\xc0", everyByte()[129:]} {
		long := strings.Repeat(groups, n)[:n-1]
		for _, ahead := range []string{"", "\x2a", "\xff\x7f"} {
			c := ahead + long
			holdContent(t, len(c)+1, c+"\x00", false)
			holdContent(t, len(c)+1, c+"\x7f", false)
			holdContent(t, len(c)+1, c+"\x80", true)
			holdContent(t, len(c)+1, c+"\xff", true)
			holdContent(t, len(c)+3, c+"\x00\x81\x00", false)
			holdContent(t, len(c)+3, c+"\x00\x80", true)
		}
	}
}

func TestP11_1_ManyNumbers(t *testing.T) {
	for _, number := range []string{"\x00", "\x01", "\x7f", "\x81\x00", "\xff\x7f", "\x81\x80\x80\x00"} {
		c := strings.Repeat(number, 5000)
		holdContent(t, len(c), c, false)
		holdContent(t, len(c)+1, c+"\x80", true)
		holdContent(t, len(c)+2, c+"\x80", true)
	}
}

func TestP11_1_EveryShortContent(t *testing.T) {
	for n := -1; n <= 4; n++ {
		holdModel(t, n, everyByte(), 2)
	}
}

func TestP11_1_LongerContents(t *testing.T) {
	for n := 1; n <= 12; n++ {
		holdModel(t, n, "\x00\x01\x7f\x80\x81\xff", 4)
		holdModel(t, n, "\x00\x80\x81", 6)
		holdModel(t, n, "\x7f\xff", 9)
	}
}

// content is a right one, as far as it came, and of how many bytes it is.
type content struct {
	n    int
	came string
}

// begun are contents in each state in which they can be.
func begun() []content {
	var list []content
	for _, came := range []string{"", "\x00", "\x2a", "\x7f", "\x81", "\xff", "\x81\x80", "\x81\x00", "\x2a\x86", "\x2a\x86\x48", "\x2a\x86\x48\x86", "\xff\xff\xff\xff\xff\xff\xff\xff\xff\xff\xff"} {
		for _, more := range []int{1, 2, 3, 1000} {
			list = append(list, content{len(came) + more, came})
		}
		list = append(list, content{math.MaxInt, came})
	}
	return list
}

// canGoOn tells whether the byte may come behind what came.
func canGoOn(c content, b byte) bool {
	if b == 128 && (c.came == "" || c.came[len(c.came)-1] < 128) {
		return false
	}
	return b < 128 || len(c.came) < c.n-1
}

func TestP11_1_PushChangesNoState(t *testing.T) {
	for _, c := range begun() {
		s := holdContent(t, c.n, c.came, false)
		was := s
		// Each byte comes behind each other one: what is told of it hangs on none that was pushed ahead of it.
		for first := range 256 {
			for second := range 256 {
				holdPush(t, s, byte(first), canGoOn(c, byte(first)))
				holdPush(t, s, byte(second), canGoOn(c, byte(second)))
			}
		}
		if s != was {
			t.Fatalf("of %v: %v, it was %v", c, s, was)
		}
	}
}

func TestP11_1_EitherStateGoesOn(t *testing.T) {
	// Some go on from one, by turns: what comes to one of them is nothing to the others.
	s := holdStart(t, 3, true)
	over, within := holdPush(t, s, 0x2a, true), holdPush(t, s, 0x86, true)
	other := holdPush(t, s, 0x00, true)
	holdPush(t, over, 0x80, false)
	holdPush(t, s, 0x80, false)
	last, again := holdPush(t, within, 0x80, true), holdPush(t, over, 0x86, true)
	holdPush(t, other, 0x80, false)
	behind := holdPush(t, other, 0x05, true)
	for _, b := range []byte("\x00\x7f") {
		holdPush(t, last, b, true)
		holdPush(t, again, b, true)
		holdPush(t, behind, b, true)
	}
	for _, b := range []byte("\x80\x81\xff") {
		holdPush(t, last, b, false)
		holdPush(t, again, b, false)
		holdPush(t, behind, b, false)
	}
	holdPush(t, s, 0x81, true)
	holdPush(t, over, 0x00, true)
	holdPush(t, within, 0x00, true)
}

func TestP11_1_StatesKnowNothingOfEachOther(t *testing.T) {
	within := holdContent(t, 3, "\x81", false)
	last := holdContent(t, 2, "\x2a", false)
	holdContent(t, 1, "\xff", true)
	holdContent(t, 4, "\x2a\x80", true)
	holdContent(t, math.MaxInt, "\xff\xff\x00", false)
	holdStart(t, 0, false)
	holdPush(t, within, 0x80, true)
	holdPush(t, last, 0x81, false)
	holdPush(t, last, 0x7f, true)
}

// groups answers a number's bytes as the chapter says them, its bits written out.
func groups(n *big.Int) string {
	bits := n.Text(2)
	for len(bits)%7 != 0 {
		bits = "0" + bits
	}
	var b []byte
	for ; bits != ""; bits = bits[7:] {
		group, err := strconv.ParseUint(bits[:7], 2, 8)
		if err != nil {
			panic(err)
		}
		b = append(b, byte(group)+128)
	}
	b[len(b)-1] -= 128
	return string(b)
}

// great is a number that may be greater than an arc.
func great(n uint64) *big.Int { return new(big.Int).SetUint64(n) }

// isArc tells whether a number is at most 2^64 - 1.
func isArc(n *big.Int) bool { return n.Cmp(new(big.Int).Lsh(big.NewInt(1), 64)) < 0 }

// spell answers the content of arcs, and true, as the chapter says it.
func spell(arcs []uint64) (string, bool) {
	if len(arcs) < 2 || arcs[0] > 2 || arcs[0] < 2 && arcs[1] >= 40 {
		return "", false
	}
	first := new(big.Int).Add(great(40*arcs[0]), great(arcs[1]))
	if !isArc(first) {
		return "", false
	}
	b := []string{groups(first)}
	for _, arc := range arcs[2:] {
		b = append(b, groups(great(arc)))
	}
	return strings.Join(b, ""), true
}

// value is the number whose bytes these are.
func value(b string) *big.Int {
	bits := ""
	for i := range len(b) {
		bits += fmt.Sprintf("%07b", b[i]%128)
	}
	n, _ := new(big.Int).SetString(bits, 2)
	return n
}

// arcsOf answers the arcs whose content this is, and true, as the chapter says them.
func arcsOf(content string) ([]uint64, bool) {
	if !right(content) {
		return nil, false
	}
	var arcs []uint64
	for i, b := range split(content) {
		n := value(b)
		if !isArc(n) {
			return nil, false
		}
		arc := n.Uint64()
		switch {
		case i > 0:
			arcs = append(arcs, arc)
		case arc < 40:
			arcs = append(arcs, 0, arc)
		case arc < 80:
			arcs = append(arcs, 1, arc-40)
		default:
			arcs = append(arcs, 2, arc-80)
		}
	}
	return arcs, true
}

// spelled is a list of arcs, and their content, written out.
type spelled struct {
	arcs []uint64
	b    string
}

// arcs is a list of them.
func arcs(list ...uint64) []uint64 { return list }

// spellings are arcs of each first one, where the second one's bounds are, and where a content grows.
func spellings() []spelled {
	return []spelled{
		{arcs(0, 0), "\x00"},
		{arcs(0, 1), "\x01"},
		{arcs(0, 39), "\x27"},
		{arcs(1, 0), "\x28"},
		{arcs(1, 39), "\x4f"},
		{arcs(2, 0), "\x50"},
		{arcs(2, 39), "\x77"},
		{arcs(2, 40), "\x78"},
		{arcs(2, 47), "\x7f"},
		{arcs(2, 48), "\x81\x00"},
		{arcs(2, 175), "\x81\x7f"},
		{arcs(2, 176), "\x82\x00"},
		{arcs(2, 999), "\x88\x37"},
		{arcs(2, 16303), "\xff\x7f"},
		{arcs(2, 16304), "\x81\x80\x00"},
		{arcs(2, 1<<63-81), "\xff\xff\xff\xff\xff\xff\xff\xff\x7f"},
		{arcs(2, 1<<63-80), "\x81\x80\x80\x80\x80\x80\x80\x80\x80\x00"},
		{arcs(2, math.MaxUint64-81), "\x81\xff\xff\xff\xff\xff\xff\xff\xff\x7e"},
		{arcs(2, math.MaxUint64-80), "\x81\xff\xff\xff\xff\xff\xff\xff\xff\x7f"},
		{arcs(0, 0, 0), "\x00\x00"},
		{arcs(0, 0, 0, 0, 0), "\x00\x00\x00\x00"},
		{arcs(1, 2, 840), "\x2a\x86\x48"},
		{arcs(1, 2, 840, 113549), "\x2a\x86\x48\x86\xf7\x0d"},
		{arcs(1, 2, 840, 113549, 1, 1, 11), "\x2a\x86\x48\x86\xf7\x0d\x01\x01\x0b"},
		{arcs(2, 5, 4, 3), "\x55\x04\x03"},
		{arcs(2, 5, 29, 20), "\x55\x1d\x14"},
		{arcs(1, 2, 0), "\x2a\x00"},
		{arcs(1, 2, 1), "\x2a\x01"},
		{arcs(1, 2, 127), "\x2a\x7f"},
		{arcs(1, 2, 128), "\x2a\x81\x00"},
		{arcs(1, 2, 129), "\x2a\x81\x01"},
		{arcs(1, 2, 16383), "\x2a\xff\x7f"},
		{arcs(1, 2, 16384), "\x2a\x81\x80\x00"},
		{arcs(1, 2, 1<<21-1), "\x2a\xff\xff\x7f"},
		{arcs(1, 2, 1<<21), "\x2a\x81\x80\x80\x00"},
		{arcs(1, 2, 1<<63-1), "\x2a\xff\xff\xff\xff\xff\xff\xff\xff\x7f"},
		{arcs(1, 2, 1<<63), "\x2a\x81\x80\x80\x80\x80\x80\x80\x80\x80\x00"},
		{arcs(1, 2, math.MaxUint64-1), "\x2a\x81\xff\xff\xff\xff\xff\xff\xff\xff\x7e"},
		{arcs(1, 2, math.MaxUint64), "\x2a\x81\xff\xff\xff\xff\xff\xff\xff\xff\x7f"},
		{arcs(0, 39, 16384, 0, 128, 0), "\x27\x81\x80\x00\x00\x81\x00\x00"},
		{arcs(1, 39, 40, 80, 2), "\x4f\x28\x50\x02"},
		{
			arcs(2, math.MaxUint64-80, math.MaxUint64, 0, math.MaxUint64),
			"\x81\xff\xff\xff\xff\xff\xff\xff\xff\x7f\x81\xff\xff\xff\xff\xff\xff\xff\xff\x7f\x00\x81\xff\xff\xff\xff\xff\xff\xff\xff\x7f",
		},
	}
}

// numbers are all small ones, those beside each power of 2, some between two of those, and the greatest.
func numbers() []uint64 {
	var list []uint64
	for n := range uint64(20000) {
		list = append(list, n, math.MaxUint64-n%300)
	}
	for bit := 14; bit <= 63; bit++ {
		power := uint64(1) << bit
		for beside := range uint64(130) {
			list = append(list, power-1-beside, power+beside)
		}
		for part := range uint64(47) {
			list = append(list, power+power/47*part)
		}
	}
	slices.Sort(list)
	return slices.Compact(list)
}

// lists are arcs of every kind: each first two of small numbers and of greater ones, and each number as a later one.
func lists() [][]uint64 {
	var list [][]uint64
	for first := range uint64(2) {
		for second := range uint64(40) {
			list = append(list, arcs(first, second), arcs(first, second, 40, 80), arcs(first, second, second, 1<<62))
		}
	}
	for _, n := range numbers() {
		list = append(list, arcs(1, 3, n), arcs(2, 999, n, 0), arcs(0, 0, 128, n, n))
		if n <= math.MaxUint64-80 {
			list = append(list, arcs(2, n), arcs(2, n, 0, n))
		}
	}
	return list
}

func TestP11_2_ExamplesOfTheChapter(t *testing.T) {
	for _, c := range []spelled{{arcs(1, 2, 840), "\x2a\x86\x48"}, {arcs(2, 999), "\x88\x37"}} {
		holdPut(t, c.arcs, c.b, true)
		holdGet(t, c.b, c.arcs, true)
	}
	holdGet(t, "\x2a\x80\x01", nil, false)
}

func TestP11_2_Spellings(t *testing.T) {
	for _, c := range spellings() {
		holdPut(t, c.arcs, c.b, true)
		holdGet(t, c.b, c.arcs, true)
	}
}

func TestP11_2_ArcsOneByOne(t *testing.T) {
	if b, ok := Put(1, 2, 840, 113549); b != "\x2a\x86\x48\x86\xf7\x0d" || !ok {
		t.Errorf("Put(1, 2, 840, 113549) = %x, %t", b, ok)
	}
	if b, ok := Put(); b != "" || ok {
		t.Errorf("Put() = %x, %t", b, ok)
	}
}

func TestP11_2_TooFewArcs(t *testing.T) {
	holdPut(t, nil, "", false)
	holdPut(t, []uint64{}, "", false)
	for _, n := range []uint64{0, 1, 2, 3, 39, 40, 42, 80, 127, 128, math.MaxUint64} {
		holdPut(t, arcs(n), "", false)
	}
}

func TestP11_2_FirstArcs(t *testing.T) {
	for _, first := range []uint64{3, 4, 39, 40, 80, 127, 128, 255, 256, 257, 258, 1 << 32, 1 << 61, 1<<63 + 1, 1<<63 + 2, math.MaxUint64} {
		for _, second := range []uint64{0, 1, 39, 40, 999, math.MaxUint64} {
			holdPut(t, arcs(first, second), "", false)
			holdPut(t, arcs(first, second, 1, 2), "", false)
		}
	}
}

func TestP11_2_SecondArcs(t *testing.T) {
	for second := range uint64(500) {
		for first := range uint64(2) {
			if second < 40 {
				holdPut(t, arcs(first, second), string([]byte{byte(40*first + second)}), true)
			} else {
				holdPut(t, arcs(first, second), "", false)
				holdPut(t, arcs(first, second, 5), "", false)
			}
		}
		want, _ := spell(arcs(2, second))
		holdPut(t, arcs(2, second), want, true)
	}
	for _, second := range []uint64{1 << 32, 1<<32 + 1, 1 << 63, math.MaxUint64 - 40, math.MaxUint64 - 39, math.MaxUint64} {
		holdPut(t, arcs(0, second), "", false)
		holdPut(t, arcs(1, second), "", false)
		holdPut(t, arcs(1, second, 5), "", false)
	}
}

func TestP11_2_FirstTwoArcsTogetherTooGreat(t *testing.T) {
	for more := range uint64(80) {
		holdPut(t, arcs(2, math.MaxUint64-more), "", false)
		holdPut(t, arcs(2, math.MaxUint64-more, 0), "", false)
		holdPut(t, arcs(2, math.MaxUint64-more, 1, 2, 3), "", false)
	}
	for less := uint64(80); less < 400; less++ {
		want, ok := spell(arcs(2, math.MaxUint64-less))
		holdPut(t, arcs(2, math.MaxUint64-less), want, ok)
		holdPut(t, arcs(2, math.MaxUint64-less, 7), want+"\x07", true)
	}
}

func TestP11_2_ManyArcs(t *testing.T) {
	for _, list := range lists() {
		want, ok := spell(list)
		holdPut(t, list, want, ok)
	}
}

func TestP11_2_P11_3_LongLists(t *testing.T) {
	all := numbers()
	var want strings.Builder
	want.WriteString("\x2a")
	for _, n := range all {
		want.WriteString(groups(great(n)))
	}
	list := append(arcs(1, 2), all...)
	holdPut(t, list, want.String(), true)
	holdGet(t, want.String(), list, true)
	// The last number is wrong behind all of those.
	holdGet(t, want.String()+"\x80\x01", nil, false)
	holdGet(t, want.String()+"\x81", nil, false)
	holdGet(t, want.String()+groups(new(big.Int).Lsh(big.NewInt(1), 64)), nil, false)
}

func TestP11_2_WrongContents(t *testing.T) {
	for _, b := range []string{
		"", "\x80", "\x81", "\xff", "\x80\x00", "\x80\x01", "\x80\x80\x01", "\x80\x81\x00", "\x2a\x80", "\x2a\x81", "\x2a\x80\x00", "\x2a\x80\x01",
		"\x2a\x86\x48\x80", "\x2a\x86\x48\x80\x01", "\x2a\x86\x48\x86", "\x2a\x03\x80\x01\x05", "\x88\x37\x80\x37", "\x81\x80", "\x81\x80\x80",
	} {
		holdGet(t, b, nil, false)
	}
	for _, c := range spellings() {
		holdGet(t, "\x80"+c.b, nil, false)
		holdGet(t, c.b+"\x80", nil, false)
		holdGet(t, c.b+"\xff", nil, false)
		holdGet(t, c.b+"\x80\x00"+c.b, nil, false)
		holdGet(t, "\x2a\x80"+c.b, nil, false)
	}
}

func TestP11_2_NumbersAbove64Bits(t *testing.T) {
	// Many of them wrap round to small ones.
	var list []string
	for bit := uint(64); bit < 200; bit++ {
		power := new(big.Int).Lsh(big.NewInt(1), bit)
		for more := range int64(200) {
			list = append(list, groups(new(big.Int).Add(power, big.NewInt(more))))
			list = append(list, groups(new(big.Int).Sub(new(big.Int).Lsh(power, 1), big.NewInt(more+1))))
		}
	}
	list = append(list, strings.Repeat("\xff", 1<<16)+"\x7f", "\x81"+strings.Repeat("\x80", 1<<16)+"\x00", "\x81"+strings.Repeat("\x80", 1<<16)+"\x2a")
	for _, b := range list {
		holdGet(t, b, nil, false)
		holdGet(t, b+"\x01", nil, false)
		holdGet(t, "\x2a"+b, nil, false)
		holdGet(t, "\x2a"+b+"\x03", nil, false)
		holdGet(t, "\x2a\x86\x48"+b+"\x86\x48", nil, false)
	}
}

// holdText compares what Get tells of a text with what the chapter says; what is got is put again.
func holdText(t *testing.T, b string) {
	want, ok := arcsOf(b)
	holdGet(t, b, want, ok)
	if ok {
		holdPut(t, want, b, true)
	}
}

func TestP11_2_P11_3_EveryShortContent(t *testing.T) {
	everyText(everyByte(), 2, func(b string) { holdText(t, b) })
	everyText("\x00\x27\x28\x4f\x50\x7f\x80\x81\xff", 4, func(b string) { holdText(t, b) })
	everyText("\x00\x7f\x80\x81\xff", 6, func(b string) { holdText(t, b) })
}

func TestP11_2_P11_3_ContentsAboutTheGreatestNumber(t *testing.T) {
	for _, ahead := range []string{"", "\x2a", "\x81", "\x82", "\x83", "\xff", "\x2a\x81", "\x2a\x82", "\x2a\x81\x80", "\x2a\xff"} {
		for many := 6; many <= 10; many++ {
			for _, middle := range []string{"\x80", "\xff", "\x81"} {
				everyText("\x00\x7f\x80\xff", 3, func(b string) { holdText(t, ahead+strings.Repeat(middle, many)+b) })
			}
		}
	}
}

func TestP11_2_P11_3_EveryByteAtEachPlace(t *testing.T) {
	for _, c := range spellings() {
		for at := range len(c.b) {
			for b := range 256 {
				holdText(t, c.b[:at]+string([]byte{byte(b)})+c.b[at+1:])
			}
		}
	}
}

func TestP11_2_GetGoesByStartAndPush(t *testing.T) {
	// A content is got, its numbers being small enough, if each of its bytes can come.
	everyText("\x00\x7f\x80\x81\xff", 6, func(b string) {
		s, can := Start(len(b))
		for i := 0; can && i < len(b); i++ {
			s, can = s.Push(b[i])
		}
		if _, ok := Get(b); ok != can {
			t.Fatalf("Get(%x): %t; byte by byte: %t", b, ok, can)
		}
	})
}

func TestP11_2_ArcsStayAsTheyAre(t *testing.T) {
	for _, c := range append(spellings(), spelled{arcs(3, 0), ""}, spelled{arcs(1, 40), ""}, spelled{arcs(5), ""}) {
		room := append(slices.Clone(c.arcs), 11, 12, 13)
		was := slices.Clone(room)
		holdPut(t, room[:len(c.arcs)], c.b, c.b != "")
		if !slices.Equal(room, was) {
			t.Fatalf("Put(%v) left %v, it was %v", c.arcs, room, was)
		}
	}
}

func TestP11_2_AnswersAreNewMemory(t *testing.T) {
	for _, c := range spellings() {
		one, _ := Get(c.b)
		other, _ := Get(c.b)
		for i := range one {
			one[i]++
		}
		_ = append(one, 9)
		if !slices.Equal(other, c.arcs) {
			t.Fatalf("Get(%x) shares memory: %v, want %v", c.b, other, c.arcs)
		}
		holdGet(t, c.b, c.arcs, true)
	}
}

func TestP11_3_WhatIsPutIsGot(t *testing.T) {
	for _, list := range lists() {
		b, ok := Put(list...)
		if !ok {
			t.Fatalf("Put(%v) = false", list)
		}
		holdGet(t, b, list, true)
	}
}

func TestP11_3_WhatIsGotIsPutAsItWas(t *testing.T) {
	everyText("\x00\x28\x7f\x80\x81\xff", 6, func(b string) {
		if got, ok := Get(b); ok {
			holdPut(t, got, b, true)
		}
	})
}

func TestP11_3_WhatIsPutIsRight(t *testing.T) {
	for _, list := range lists() {
		b, _ := Put(list...)
		holdContent(t, len(b), b, false)
	}
}

func TestP11_3_OneContent(t *testing.T) {
	of := make(map[string][]uint64)
	for _, list := range lists() {
		b, _ := Put(list...)
		if other, ok := of[b]; ok && !slices.Equal(other, list) {
			t.Fatalf("Put(%v) and Put(%v) = %x", other, list, b)
		}
		of[b] = list
	}
}
