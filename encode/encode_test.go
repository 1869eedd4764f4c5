package encode

import (
	"crypto/x509/pkix"
	"encoding/asn1"
	"fmt"
	"math"
	"math/big"
	"reflect"
	"slices"
	"strings"
	"testing"
	"time"

	"gantlet/api"
	"gantlet/order"
	"gantlet/value"
)

// brief is a text's beginning.
func brief(b string) string { return b[:min(len(b), 200)] }

// show is what was handed in, as far as it is worth telling.
func show(l any) string { return brief(fmt.Sprintf("%+q", l)) }

// holdElement compares what Element answers with what it must. It ends the test, because some tests hold thousands of
// calls; Helper is called only then, because it takes far longer than what is compared.
func holdElement(t *testing.T, h api.Head, content, want string) {
	if got := Element(h, content); got != want {
		t.Helper()
		t.Fatalf("Element(%+v, %d bytes) = %x, want %x", h, len(content), brief(got), brief(want))
	}
}

// holdName compares what Name answers with what it must, likewise, and sees that what was handed in stays as it is.
func holdName(t *testing.T, l [][]api.Attr, want string, wantOk bool) {
	before := cloneName(l)
	got, ok := Name(l)
	if got != want || ok != wantOk {
		t.Helper()
		t.Fatalf("Name(%s) = %x, %v, want %x, %v", show(l), brief(got), ok, brief(want), wantOk)
	}
	if !reflect.DeepEqual(l, before) {
		t.Helper()
		t.Fatalf("Name changed %s: %s", show(before), show(l))
	}
}

// holdExts does so for Exts.
func holdExts(t *testing.T, l []api.Ext, want string, wantOk bool) {
	before := cloneExts(l)
	got, ok := Exts(l)
	if got != want || ok != wantOk {
		t.Helper()
		t.Fatalf("Exts(%s) = %x, %v, want %x, %v", show(l), brief(got), ok, brief(want), wantOk)
	}
	if !reflect.DeepEqual(l, before) {
		t.Helper()
		t.Fatalf("Exts changed %s: %s", show(before), show(l))
	}
}

// holdNameAsModel, holdExtsAsModel and hold take what must be from the model.
func holdNameAsModel(t *testing.T, l [][]api.Attr) {
	t.Helper()
	want, ok := modelName(l)
	holdName(t, l, want, ok)
}

func holdExtsAsModel(t *testing.T, l []api.Ext) {
	t.Helper()
	want, ok := modelExts(l)
	holdExts(t, l, want, ok)
}

// holdBoth compares what Tbs and Encode answer with what they must, and sees that what was handed in stays as it is.
func holdBoth(t *testing.T, c api.Crl, tbs, list string, want api.Errno) {
	before := clone(c)
	if got, err := Tbs(c); got != tbs || err != want {
		t.Helper()
		t.Fatalf("Tbs(%s) = %x, %d, want %x, %d", show(c), brief(got), err, brief(tbs), want)
	}
	if got, err := Encode(c); got != list || err != want {
		t.Helper()
		t.Fatalf("Encode(%s) = %x, %d, want %x, %d", show(c), brief(got), err, brief(list), want)
	}
	if !reflect.DeepEqual(c, before) {
		t.Helper()
		t.Fatalf("%s was changed: %s", show(before), show(c))
	}
}

func hold(t *testing.T, c api.Crl) {
	t.Helper()
	tbs, err := modelTbs(c)
	list, _ := modelEncode(c)
	holdBoth(t, c, tbs, list, err)
}

// holdRight sees that a list is encoded, as the model has it.
func holdRight(t *testing.T, c api.Crl) {
	t.Helper()
	if _, err := Encode(c); err != api.OK {
		t.Fatalf("Encode(%s) = %d", show(c), err)
	}
	hold(t, c)
}

// holdError sees that a list isn't encoded.
func holdError(t *testing.T, c api.Crl, want api.Errno) {
	t.Helper()
	holdBoth(t, c, "", "", want)
}

// holdWhole sees that bytes are an element, and right.
func holdWhole(t *testing.T, b string) {
	if err, at := value.Whole(b, api.MaxDepth); err != api.OK || at != len(b) {
		t.Helper()
		t.Fatalf("Whole(%x) = %d at %d", brief(b), err, at)
	}
}

// orders calls do with a list's items in each order.
func orders[T any](l []T, do func(l []T)) {
	var swap func(n int)
	swap = func(n int) {
		if n < 2 {
			do(slices.Clone(l))
			return
		}
		for i := range n {
			l[i], l[n-1] = l[n-1], l[i]
			swap(n - 1)
			l[i], l[n-1] = l[n-1], l[i]
		}
	}
	swap(len(l))
}

func TestP19_1_TheChaptersExample(t *testing.T) {
	l := []api.Ext{{Oid: []uint64{2, 5, 29, 20}, Value: "\x02\x01\x01"}}
	holdExts(t, l, "\x30\x0c\x30\x0a\x06\x03\x55\x1d\x14\x04\x03\x02\x01\x01", true)
}

func TestP19_1_ElementOfEachHead(t *testing.T) {
	begins := map[int]string{0: "\x00", 1: "\x01", 16: "\x10", 30: "\x1e", 31: "\x1f\x1f", 127: "\x1f\x7f", 128: "\x1f\x81\x00", 16383: "\x1f\xff\x7f",
		16384: "\x1f\x81\x80\x00", api.MaxTag: "\x1f\xff\xff\xff\x7f"}
	for tag, begin := range begins {
		for class := range 4 {
			for _, cons := range []bool{false, true} {
				first := begin[0] + byte(class)<<6
				if cons {
					first += 32
				}
				front := string([]byte{first}) + begin[1:]
				// What the head says of the length plays no part.
				for _, n := range []int{0, 1, 2, -1, 127, 128, api.MaxLen, api.MaxLen + 1, math.MaxInt, math.MinInt} {
					h := api.Head{Class: class, Tag: tag, Cons: cons, Len: n}
					holdElement(t, h, "", front+"\x00")
					holdElement(t, h, "ab", front+"\x02ab")
					holdElement(t, h, "\x00", front+"\x01\x00")
				}
			}
		}
	}
}

func TestP19_1_ElementOfEachLength(t *testing.T) {
	sizes := map[int]string{0: "\x00", 1: "\x01", 2: "\x02", 126: "\x7e", 127: "\x7f", 128: "\x81\x80", 129: "\x81\x81", 255: "\x81\xff", 256: "\x82\x01\x00",
		257: "\x82\x01\x01", 65535: "\x82\xff\xff", 65536: "\x83\x01\x00\x00", 1<<24 - 1: "\x83\xff\xff\xff", 1 << 24: "\x84\x01\x00\x00\x00"}
	for n, size := range sizes {
		content := strings.Repeat("\xa5", n)
		holdElement(t, api.Head{Tag: 4}, content, "\x04"+size+content)
		holdElement(t, api.Head{Class: 2, Cons: true, Tag: 31, Len: 5}, content, "\xbf\x1f"+size+content)
		holdElement(t, api.Head{Tag: 4, Class: 4}, content, "")
	}
	for n := range 700 {
		content := strings.Repeat("\x00", n)
		holdElement(t, api.Head{Tag: 4}, content, lay(4, content))
	}
}

func TestP19_1_ElementsContentIsAny(t *testing.T) {
	// Also one that the tag can't have.
	holdElement(t, api.Head{Tag: 1}, "ab", "\x01\x02ab")
	holdElement(t, api.Head{Tag: 5}, "a", "\x05\x01a")
	holdElement(t, api.Head{Tag: 16}, "a", "\x10\x01a")
	holdElement(t, api.Head{Tag: 16, Cons: true}, "a", "\x30\x01a")
	for b := range 256 {
		content := string([]byte{byte(b)})
		holdElement(t, api.Head{Tag: 2}, content, "\x02\x01"+content)
	}
}

func TestP19_1_HeadsThatMayNotBe(t *testing.T) {
	var l []api.Head
	for _, class := range []int{-1, 4, 5, 64, 256, 257, 1 << 32, math.MaxInt, math.MinInt} {
		l = append(l, api.Head{Class: class, Tag: 2}, api.Head{Class: class, Tag: 2, Cons: true}, api.Head{Class: class, Tag: -1})
	}
	for _, tag := range []int{-1, -2, -31, api.MaxTag + 1, 1 << 29, 1<<32 + 2, math.MaxInt, math.MinInt} {
		l = append(l, api.Head{Tag: tag}, api.Head{Class: 3, Tag: tag, Cons: true})
	}
	for _, h := range l {
		for _, n := range lengths() {
			h.Len = n
			holdElement(t, h, strings.Repeat("a", n), "")
		}
	}
}

func TestP19_1_NamesByHand(t *testing.T) {
	cn := "\x06\x03\x55\x04\x03"
	holdName(t, [][]api.Attr{{attr(12, "a")}}, "\x30\x0c\x31\x0a\x30\x08"+cn+"\x0c\x01a", true)
	holdName(t, [][]api.Attr{{attr(19, "a")}}, "\x30\x0c\x31\x0a\x30\x08"+cn+"\x13\x01a", true)
	holdName(t, [][]api.Attr{{attr(22, "a")}}, "\x30\x0c\x31\x0a\x30\x08"+cn+"\x16\x01a", true)
	// Sets stay as they stand; a set's attributes are in order.
	holdName(t, [][]api.Attr{{attr(19, "b")}, {attr(12, "a")}},
		"\x30\x18\x31\x0a\x30\x08"+cn+"\x13\x01b\x31\x0a\x30\x08"+cn+"\x0c\x01a", true)
	holdName(t, [][]api.Attr{{attr(19, "b"), attr(12, "a")}},
		"\x30\x16\x31\x14\x30\x08"+cn+"\x0c\x01a\x30\x08"+cn+"\x13\x01b", true)
	holdName(t, [][]api.Attr{{{Oid: []uint64{2, 999}, Tag: 22, Text: "@"}, attr(12, "")}, {attr(12, "\xc3\xa4")}},
		"\x30\x21\x31\x12\x30\x07\x06\x02\x88\x37\x16\x01@\x30\x07"+cn+"\x0c\x00\x31\x0b\x30\x09"+cn+"\x0c\x02\xc3\xa4", true)
}

func TestP19_1_NameOfNoSet(t *testing.T) {
	for _, l := range [][][]api.Attr{nil, {}, make([][]api.Attr, 0, 3)} {
		holdName(t, l, "\x30\x00", true)
	}
}

func TestP19_1_NamesOfSomeSetsAndAttributes(t *testing.T) {
	attrs := rightAttrs()
	for sets := range 5 {
		for each := 1; each < 5; each++ {
			for from := range attrs {
				var l [][]api.Attr
				for i := range sets {
					var set []api.Attr
					for j := range each {
						set = append(set, attrs[(from+i*each+j)%len(attrs)])
					}
					l = append(l, set)
				}
				holdNameAsModel(t, l)
			}
		}
	}
	holdNameAsModel(t, slices.Repeat([][]api.Attr{{attr(12, "b"), attr(12, "a")}}, 3000))
	var many []api.Attr
	for i := range 3000 {
		many = append(many, attr(12, big.NewInt(int64(i*7919%3000)).String()))
	}
	holdNameAsModel(t, [][]api.Attr{many})
}

func TestP19_1_TextsOfEachTag(t *testing.T) {
	for _, tag := range tags() {
		front := "\x30\x0c\x31\x0a\x30\x08\x06\x03\x55\x04\x03" + string([]byte{byte(tag)}) + "\x01"
		for b := range 256 {
			text := string([]byte{byte(b)})
			if modelText(tag, text) {
				holdName(t, [][]api.Attr{{attr(tag, text)}}, front+text, true)
			} else {
				holdName(t, [][]api.Attr{{attr(tag, text)}}, "", false)
			}
			for b := range 256 {
				holdNameAsModel(t, [][]api.Attr{{attr(tag, text+string([]byte{byte(b)}))}})
			}
		}
		for _, n := range lengths() {
			holdNameAsModel(t, [][]api.Attr{{attr(tag, strings.Repeat("a", n))}, {attr(tag, "z")}})
			holdName(t, [][]api.Attr{{attr(tag, strings.Repeat("a", n)+"\xff")}}, "", false)
			holdName(t, [][]api.Attr{{attr(tag, "\xff"+strings.Repeat("a", n))}}, "", false)
		}
	}
	// As the model says it, so that this one is held too.
	for _, a := range rightAttrs() {
		if _, ok := Name([][]api.Attr{{a}}); !ok {
			t.Errorf("Name of %s: false", show(a))
		}
	}
	for _, a := range wrongAttrs() {
		holdName(t, [][]api.Attr{{a}}, "", false)
	}
}

func TestP19_1_ContentsOfASetAtEachLength(t *testing.T) {
	for n := range 300 {
		holdNameAsModel(t, [][]api.Attr{{attr(12, strings.Repeat("a", n))}})
		holdNameAsModel(t, [][]api.Attr{{attr(12, strings.Repeat("a", n)), attr(19, strings.Repeat("a", 299-n))}})
	}
}

func TestP19_1_AttributesInEachOrder(t *testing.T) {
	cn := "\x06\x03\x55\x04\x03"
	// One is the beginning of another one: its length comes first.
	want := "\x30\x2c\x31\x2a\x30\x07" + cn + "\x0c\x00\x30\x08" + cn + "\x0c\x01a\x30\x09" + cn + "\x0c\x02ab\x30\x0a" + cn + "\x0c\x03abc"
	count := 0
	orders([]api.Attr{attr(12, "abc"), attr(12, "ab"), attr(12, "a"), attr(12, "")}, func(l []api.Attr) {
		holdName(t, [][]api.Attr{l}, want, true)
		count++
	})
	if count != 24 {
		t.Fatalf("%d orders, want 24", count)
	}
	// The same one twice; and by tags, by OIDs, and by texts whose bytes would be below 0 with a sign.
	want = "\x30\x20\x31\x1e\x30\x08" + cn + "\x0c\x01a\x30\x08" + cn + "\x0c\x01a\x30\x08" + cn + "\x0c\x01b"
	orders([]api.Attr{attr(12, "a"), attr(12, "b"), attr(12, "a")}, func(l []api.Attr) { holdName(t, [][]api.Attr{l}, want, true) })
	want = "\x30\x20\x31\x1e\x30\x08" + cn + "\x0c\x01z\x30\x08" + cn + "\x13\x01y\x30\x08" + cn + "\x16\x01x"
	orders([]api.Attr{attr(22, "x"), attr(19, "y"), attr(12, "z")}, func(l []api.Attr) { holdName(t, [][]api.Attr{l}, want, true) })
	want = "\x30\x18\x31\x16\x30\x09" + cn + "\x0c\x02zz\x30\x09" + cn + "\x0c\x02\xc3\xa4"
	orders([]api.Attr{attr(12, "\xc3\xa4"), attr(12, "zz")}, func(l []api.Attr) { holdName(t, [][]api.Attr{l}, want, true) })
	// 128 bytes and more: a length of two bytes comes behind one of one.
	long := []api.Attr{attr(12, strings.Repeat("a", 128)), attr(12, strings.Repeat("b", 127)), attr(12, strings.Repeat("c", 256)), attr(19, "z"), attr(12, "")}
	orders(long, func(l []api.Attr) { holdNameAsModel(t, [][]api.Attr{l}) })
}

func TestP19_1_TheSameAttributeManyTimes(t *testing.T) {
	for n := 1; n < 40; n++ {
		holdNameAsModel(t, [][]api.Attr{slices.Repeat([]api.Attr{attr(12, "a")}, n)})
	}
	for _, a := range rightAttrs() {
		b, _ := modelAttr(a)
		holdName(t, [][]api.Attr{{a, a}}, seq(lay(0x31, b+b)), true)
	}
}

func TestP19_1_SetsWithoutAttributes(t *testing.T) {
	for _, none := range [][]api.Attr{nil, {}, make([]api.Attr, 0, 2)} {
		for n := range 5 {
			for at := range n + 1 {
				l := slices.Insert(slices.Repeat([][]api.Attr{{attr(12, "a")}}, n), at, none)
				holdName(t, l, "", false)
			}
		}
		holdName(t, [][]api.Attr{none, none}, "", false)
	}
}

func TestP19_1_WrongAttributesInEachPlace(t *testing.T) {
	for _, wrong := range wrongAttrs() {
		for sets := 1; sets < 4; sets++ {
			for each := 1; each < 4; each++ {
				for i := range sets {
					for j := range each {
						l := make([][]api.Attr, sets)
						for k := range l {
							l[k] = slices.Repeat([]api.Attr{attr(12, "a")}, each)
						}
						l[i][j] = wrong
						holdName(t, l, "", false)
					}
				}
			}
		}
		holdName(t, [][]api.Attr{{wrong, wrong}, {wrong}}, "", false)
	}
}

func TestP19_1_OtherTags(t *testing.T) {
	for _, tag := range otherTags() {
		for _, text := range []string{"", "a", "240101000000Z", "\xff", "\x00"} {
			holdName(t, [][]api.Attr{{attr(tag, text)}}, "", false)
			holdName(t, [][]api.Attr{{attr(12, "a"), attr(tag, text)}, {attr(12, "b")}}, "", false)
		}
	}
}

func TestP19_1_Oids(t *testing.T) {
	for _, arcs := range rightOids() {
		if _, ok := Exts([]api.Ext{{Oid: arcs}}); !ok {
			t.Fatalf("Exts of %d: false", arcs)
		}
		holdExtsAsModel(t, []api.Ext{{Oid: arcs}})
		holdExtsAsModel(t, []api.Ext{{Oid: arcs, Critical: true, Value: "v"}, {Oid: arcs}})
		for _, tag := range tags() {
			holdNameAsModel(t, [][]api.Attr{{{Oid: arcs, Tag: tag, Text: "a"}}})
		}
	}
	for _, arcs := range wrongOids() {
		for _, tag := range tags() {
			holdName(t, [][]api.Attr{{{Oid: arcs, Tag: tag, Text: "a"}}}, "", false)
		}
		for n := range 5 {
			for at := range n + 1 {
				l := slices.Repeat([]api.Ext{ext(n%2 == 0, "v")}, n)
				holdExts(t, slices.Insert(l, at, api.Ext{Oid: arcs, Value: "w"}), "", false)
				holdExts(t, slices.Insert(l, at, api.Ext{Oid: arcs, Critical: true}), "", false)
			}
		}
		holdExts(t, []api.Ext{{Oid: arcs}, {Oid: arcs}}, "", false)
	}
}

func TestP19_1_ExtsByHand(t *testing.T) {
	id := "\x06\x03\x55\x1d\x14"
	holdExts(t, []api.Ext{ext(false, "")}, "\x30\x09\x30\x07"+id+"\x04\x00", true)
	holdExts(t, []api.Ext{ext(true, "")}, "\x30\x0c\x30\x0a"+id+"\x01\x01\xff\x04\x00", true)
	holdExts(t, []api.Ext{ext(true, "ab")}, "\x30\x0e\x30\x0c"+id+"\x01\x01\xff\x04\x02ab", true)
	// They stay as they stand, the same one twice too.
	holdExts(t, []api.Ext{ext(true, "z"), ext(false, "a"), ext(true, "z")},
		"\x30\x24\x30\x0b"+id+"\x01\x01\xff\x04\x01z\x30\x08"+id+"\x04\x01a\x30\x0b"+id+"\x01\x01\xff\x04\x01z", true)
}

func TestP19_1_ExtsOfNone(t *testing.T) {
	for _, l := range [][]api.Ext{nil, {}, make([]api.Ext, 0, 3)} {
		holdExts(t, l, "", false)
	}
}

func TestP19_1_ExtensionsValues(t *testing.T) {
	for _, critical := range []bool{false, true} {
		for b := range 256 {
			holdExtsAsModel(t, []api.Ext{ext(critical, string([]byte{byte(b)}))})
		}
		for _, n := range lengths() {
			holdExtsAsModel(t, []api.Ext{ext(critical, strings.Repeat("\xff", n))})
			holdExtsAsModel(t, []api.Ext{ext(critical, strings.Repeat("\x00", n)), ext(!critical, "")})
		}
		for n := range 300 {
			holdExtsAsModel(t, []api.Ext{ext(critical, strings.Repeat("a", n))})
		}
	}
	var many []api.Ext
	for i := range 3000 {
		many = append(many, ext(i%3 == 0, strings.Repeat("x", i%5)))
	}
	holdExtsAsModel(t, many)
}

func TestP19_1_SpareRoomStays(t *testing.T) {
	arcs := []uint64{2, 5, 4, 3, 77, 78}
	attrs := []api.Attr{{Oid: arcs[:4], Tag: 12, Text: "b"}, {Oid: arcs[:3], Tag: 12, Text: "a"}, attr(19, "spare"), attr(22, "spare")}
	sets := [][]api.Attr{attrs[:2], attrs[1:2], {attr(12, "spare")}}
	exts := []api.Ext{{Oid: arcs[:4], Value: "b"}, {Oid: arcs[:2], Value: "a"}, ext(true, "spare")}
	wantSets, wantExts := cloneName(sets), cloneExts(exts)
	wantArcs, wantAttrs := slices.Clone(arcs), cloneName([][]api.Attr{attrs})[0]
	entries := []api.Entry{{Serial: "\x05", Date: "20240101000000", Exts: exts[:1]}, {Serial: "spare"}}
	wantEntries := slices.Clone(entries)
	for range 2 {
		holdNameAsModel(t, sets[:2])
		holdExtsAsModel(t, exts[:2])
		hold(t, api.Crl{Version2: true, Alg: arcs[:3], Issuer: sets[:2], This: "20240101000000", Entries: entries[:1], Exts: exts[:2]})
	}
	if !reflect.DeepEqual(sets, wantSets) || !reflect.DeepEqual(exts, wantExts) || !slices.Equal(arcs, wantArcs) ||
		!reflect.DeepEqual(attrs, wantAttrs) || !reflect.DeepEqual(entries, wantEntries) {
		t.Errorf("%+v, %+v, %d, %+v, %+v", sets, exts, arcs, attrs, entries)
	}
}

func TestP19_1_NothingIsKept(t *testing.T) {
	c := full()
	name, _ := Name(c.Issuer)
	exts, _ := Exts(c.Exts)
	list, _ := Encode(c)
	name, exts, list = strings.Clone(name), strings.Clone(exts), strings.Clone(list)
	d := full()
	for i := range c.Issuer {
		for j := range c.Issuer[i] {
			c.Issuer[i][j].Oid[0] = 9
			c.Issuer[i][j] = api.Attr{}
		}
	}
	for i := range c.Exts {
		c.Exts[i].Oid[0] = 9
	}
	c.Alg[0] = 9
	holdName(t, d.Issuer, name, true)
	holdExts(t, d.Exts, exts, true)
	tbs, _ := modelTbs(d)
	holdBoth(t, d, tbs, list, api.OK)
	holdError(t, c, api.ErrValue)
}

func TestP19_1_ThrownNamesAndExtensions(t *testing.T) {
	var d dice = 191
	for i := range 20000 {
		spoil := 0
		if i%2 == 0 {
			spoil = 12
		}
		holdNameAsModel(t, d.name(spoil))
		holdExtsAsModel(t, d.exts(4, spoil))
	}
}

func TestP19_2_ListsByHand(t *testing.T) {
	tbs := "\x30\x18\x30\x05\x06\x01\x2a\x05\x00\x30\x00\x17\x0d240101000000Z"
	holdBoth(t, plain(), tbs, "\x30\x24"+tbs+"\x30\x05\x06\x01\x2a\x05\x00\x03\x01\x00", api.OK)
	c := plain()
	c.Version2 = true
	tbs = "\x30\x1b\x02\x01\x01\x30\x05\x06\x01\x2a\x05\x00\x30\x00\x17\x0d240101000000Z"
	holdBoth(t, c, tbs, "\x30\x27"+tbs+"\x30\x05\x06\x01\x2a\x05\x00\x03\x01\x00", api.OK)
	c = api.Crl{
		Version2: true, Alg: []uint64{1, 2}, Issuer: [][]api.Attr{{attr(12, "b"), attr(12, "a")}}, This: "20240101000000", Next: "20500101000000",
		Entries: []api.Entry{
			{Serial: "\x05", Date: "20230101000000"},
			{Serial: "\x00\x80", Date: "20230101000000", Exts: []api.Ext{{Oid: []uint64{2, 5, 29, 21}, Critical: true, Value: "\x0a\x01\x01"}}},
		},
		Exts: []api.Ext{ext(false, "\x02\x01\x01")}, Signature: "s",
	}
	tbs = "\x30\x81\x8e" +
		"\x02\x01\x01" +
		"\x30\x05\x06\x01\x2a\x05\x00" +
		"\x30\x16\x31\x14\x30\x08\x06\x03\x55\x04\x03\x0c\x01a\x30\x08\x06\x03\x55\x04\x03\x0c\x01b" +
		"\x17\x0d240101000000Z" +
		"\x18\x0f20500101000000Z" +
		"\x30\x3a" +
		"\x30\x12\x02\x01\x05\x17\x0d230101000000Z" +
		"\x30\x24\x02\x02\x00\x80\x17\x0d230101000000Z\x30\x0f\x30\x0d\x06\x03\x55\x1d\x15\x01\x01\xff\x04\x03\x0a\x01\x01" +
		"\xa0\x0e\x30\x0c\x30\x0a\x06\x03\x55\x1d\x14\x04\x03\x02\x01\x01"
	holdBoth(t, c, tbs, "\x30\x81\x9c"+tbs+"\x30\x05\x06\x01\x2a\x05\x00\x03\x02\x00s", api.OK)
}

func TestP19_2_EachPartThereAndNot(t *testing.T) {
	next, entry, exts := "\x17\x0d250101000000Z", "\x02\x01\x05\x17\x0d230101000000Z", seq(seq("\x06\x01\x2a\x04\x01v"))
	for bits := range 32 {
		has := func(i int) bool { return bits>>i&1 == 1 }
		c := plain()
		parts := [7]string{1: seq("\x06\x01\x2a\x05\x00"), 2: "\x30\x00", 3: "\x17\x0d240101000000Z"}
		if c.Version2 = has(0); c.Version2 {
			parts[0] = "\x02\x01\x01"
		}
		if has(1) {
			c.Next, parts[4] = "20250101000000", next
		}
		if has(2) {
			c.Entries, parts[5] = []api.Entry{{Serial: "\x05", Date: "20230101000000"}}, seq(seq(entry))
		}
		if has(3) {
			c.Exts, parts[6] = []api.Ext{{Oid: []uint64{1, 2}, Value: "v"}}, lay(0xa0, exts)
		}
		if has(2) && has(4) {
			c.Entries[0].Exts, parts[5] = []api.Ext{{Oid: []uint64{1, 2}, Value: "v"}}, seq(seq(entry, exts))
		}
		if !has(0) && (has(3) || has(2) && has(4)) {
			holdError(t, c, api.ErrGrammar)
			continue
		}
		tbs := seq(parts[:]...)
		holdBoth(t, c, tbs, seq(tbs, parts[1], "\x03\x01\x00"), api.OK)
	}
}

func TestP19_2_EmptyListsAreNone(t *testing.T) {
	for _, version2 := range []bool{false, true} {
		c := plain()
		c.Version2 = version2
		want, _ := modelEncode(c)
		tbs, _ := modelTbs(c)
		c.Issuer, c.Entries, c.Exts = [][]api.Attr{}, []api.Entry{}, []api.Ext{}
		holdBoth(t, c, tbs, want, api.OK)
		c.Issuer, c.Entries, c.Exts = make([][]api.Attr, 0, 2), make([]api.Entry, 0, 2), make([]api.Ext, 0, 2)
		holdBoth(t, c, tbs, want, api.OK)
		c.Entries = []api.Entry{{Serial: "\x05", Date: "20230101000000"}}
		want, _ = modelEncode(c)
		tbs, _ = modelTbs(c)
		c.Entries[0].Exts = []api.Ext{}
		holdBoth(t, c, tbs, want, api.OK)
		c.Entries[0].Exts = make([]api.Ext, 0, 2)
		holdBoth(t, c, tbs, want, api.OK)
	}
}

func TestP19_2_TheFullList(t *testing.T) {
	holdRight(t, full())
	c := full()
	c.Entries = c.Entries[:1]
	holdRight(t, c)
	c.Entries = nil
	holdRight(t, c)
	c.Exts = nil
	holdRight(t, c)
	c.Version2 = false
	holdRight(t, c)
}

func TestP19_2_Times(t *testing.T) {
	for _, date := range rightDates() {
		c := full()
		c.This = date
		holdRight(t, c)
		c = full()
		c.Next = date
		holdRight(t, c)
		for i := range full().Entries {
			c = full()
			c.Entries[i].Date = date
			holdRight(t, c)
		}
	}
	for year := range 10000 {
		date := (big.NewInt(int64(10000+year)).String() + "0101000000")[1:]
		c := plain()
		c.This, c.Next = date, date
		c.Entries = []api.Entry{{Serial: "\x05", Date: date}}
		hold(t, c)
		if _, err := Tbs(c); (err == api.OK) != (year >= 1950) {
			t.Fatalf("%s: %d", date, err)
		}
	}
}

// A time may be of whichever date, ahead of another one too.
func TestP19_2_TimesInAnyOrder(t *testing.T) {
	for _, this := range rightDates() {
		for _, next := range rightDates() {
			for _, date := range rightDates() {
				c := plain()
				c.This, c.Next = this, next
				c.Entries = []api.Entry{{Serial: "\x05", Date: date}, {Serial: "\x05", Date: this}}
				holdRight(t, c)
			}
		}
	}
}

func TestP19_2_Serials(t *testing.T) {
	for _, serial := range append(rightSerials(), strings.Repeat("\x22", 65535), strings.Repeat("\x80", 65536), "\x00"+strings.Repeat("\xff", 1<<20)) {
		for i := range full().Entries {
			c := full()
			c.Entries[i].Serial = serial
			holdRight(t, c)
		}
		c := plain()
		c.Entries = []api.Entry{{Serial: serial, Date: "20240101000000"}}
		holdRight(t, c)
	}
	for x := range 256 {
		for y := range 256 {
			c := plain()
			b := string([]byte{byte(x), byte(y)})
			c.Entries = []api.Entry{{Serial: b, Date: "20240101000000"}}
			hold(t, c)
			c.Entries[0].Serial = b + "\x00"
			hold(t, c)
			c.Entries[0].Serial = b[:1]
			holdRight(t, c)
		}
	}
	for _, serial := range append(wrongSerials(), "\x00\x7f"+strings.Repeat("a", 65536)) {
		c := plain()
		c.Entries = []api.Entry{{Serial: serial, Date: "20240101000000"}}
		holdError(t, c, api.ErrValue)
	}
}

func TestP19_2_Signatures(t *testing.T) {
	for _, c := range []api.Crl{plain(), full()} {
		tbs, _ := modelTbs(c)
		id, _ := modelOid(c.Alg)
		for _, n := range append(lengths(), 1<<20) {
			for _, of := range []string{"\x00", "\x01", "\x80", "\xff"} {
				c.Signature = strings.Repeat(of, n)
				holdBoth(t, c, tbs, seq(tbs, seq(id, "\x05\x00"), lay(0x03, "\x00"+c.Signature)), api.OK)
			}
		}
		for b := range 256 {
			c.Signature = string([]byte{byte(b)})
			holdBoth(t, c, tbs, seq(tbs, seq(id, "\x05\x00"), "\x03\x02\x00"+c.Signature), api.OK)
		}
	}
}

func TestP19_2_Algorithms(t *testing.T) {
	for _, arcs := range rightOids() {
		c := full()
		c.Alg = arcs
		holdRight(t, c)
		c = plain()
		c.Alg = arcs
		holdRight(t, c)
	}
	for _, arcs := range wrongOids() {
		c := plain()
		c.Alg = arcs
		holdError(t, c, api.ErrValue)
	}
}

func TestP19_2_ContentsOfEachLength(t *testing.T) {
	for n := range 300 {
		c := full()
		c.Entries[1].Exts[0].Value = strings.Repeat("a", n)
		holdRight(t, c)
		c = full()
		c.Exts[1].Value = strings.Repeat("b", n)
		holdRight(t, c)
		c = full()
		c.Issuer[1][0].Text = strings.Repeat("c", n)
		holdRight(t, c)
		c = plain()
		c.Entries = slices.Repeat([]api.Entry{{Serial: "\x05", Date: "20230101000000"}}, n)
		holdRight(t, c)
	}
	for _, n := range lengths() {
		c := full()
		c.Entries[2].Exts[1].Value, c.Exts[0].Value, c.Issuer[2][1].Text = strings.Repeat("a", n), strings.Repeat("b", n), strings.Repeat("c", n)
		holdRight(t, c)
	}
}

func TestP19_2_EachWrongThing(t *testing.T) {
	for _, s := range spoilers() {
		c := full()
		s.spoil(&c)
		if _, err := Tbs(c); err != api.ErrValue {
			t.Fatalf("%s: Tbs(%s): %d", s.name, show(c), err)
		}
		holdError(t, c, api.ErrValue)
		// Also where only Version2 may have what else is there.
		c.Version2 = false
		holdError(t, c, api.ErrValue)
	}
}

func TestP19_2_TwoWrongThings(t *testing.T) {
	l := spoilers()
	var d dice = 192
	for range 5000 {
		c := full()
		c.Version2 = d.below(2) == 0
		first, second := l[d.below(len(l))], l[d.below(len(l))]
		// A set is emptied last: behind that no attribute of it can be made wrong.
		if first.name == emptySet {
			first, second = second, first
		}
		first.spoil(&c)
		second.spoil(&c)
		holdError(t, c, api.ErrValue)
	}
}

func TestP19_2_WrongEntriesAmongRightOnes(t *testing.T) {
	right := api.Entry{Serial: "\x05", Date: "20240101000000"}
	var wrong []api.Entry
	for _, serial := range wrongSerials() {
		wrong = append(wrong, api.Entry{Serial: serial, Date: right.Date})
	}
	for _, date := range wrongDates() {
		wrong = append(wrong, api.Entry{Serial: right.Serial, Date: date})
	}
	for _, arcs := range wrongOids() {
		wrong = append(wrong, api.Entry{Serial: right.Serial, Date: right.Date, Exts: []api.Ext{{Oid: arcs}}},
			api.Entry{Serial: right.Serial, Date: right.Date, Exts: []api.Ext{ext(true, "a"), {Oid: arcs}}},
			api.Entry{Serial: right.Serial, Date: right.Date, Exts: []api.Ext{{Oid: arcs}, ext(true, "a")}})
	}
	wrong = append(wrong, api.Entry{})
	for _, w := range wrong {
		for n := range 5 {
			for at := range n + 1 {
				for _, version2 := range []bool{false, true} {
					c := plain()
					c.Version2 = version2
					c.Entries = slices.Insert(slices.Repeat([]api.Entry{right}, n), at, w)
					holdError(t, c, api.ErrValue)
				}
			}
		}
	}
}

func TestP19_2_WhatOnlyVersion2MayHave(t *testing.T) {
	c := plain()
	c.Exts = []api.Ext{ext(false, "")}
	holdError(t, c, api.ErrGrammar)
	c.Version2 = true
	holdRight(t, c)
	for n := 1; n < 6; n++ {
		for at := range n {
			c = plain()
			c.Entries = slices.Repeat([]api.Entry{{Serial: "\x05", Date: "20240101000000"}}, n)
			holdRight(t, c)
			c.Entries[at].Exts = []api.Ext{ext(true, "a")}
			holdError(t, c, api.ErrGrammar)
			c.Version2 = true
			holdRight(t, c)
			c.Exts = []api.Ext{ext(true, "a")}
			holdRight(t, c)
			c.Version2 = false
			holdError(t, c, api.ErrGrammar)
		}
	}
	c = full()
	c.Version2 = false
	holdError(t, c, api.ErrGrammar)
}

func TestP19_2_ManyEntries(t *testing.T) {
	c := full()
	c.Entries = nil
	for i := range 100000 {
		e := api.Entry{Serial: "\x01" + string([]byte{byte(i >> 16), byte(i >> 8), byte(i)}), Date: "20240101000000"}
		if i%4 == 0 {
			e.Exts = []api.Ext{ext(false, "v")}
		}
		c.Entries = append(c.Entries, e)
	}
	holdRight(t, c)
	c.Entries[99999].Serial = ""
	holdError(t, c, api.ErrValue)
	c.Entries[99999] = api.Entry{Serial: "\x05", Date: "20240101000000"}
	c.Version2 = false
	holdError(t, c, api.ErrGrammar)
}

func TestP19_2_ThrownLists(t *testing.T) {
	var d dice = 193
	for i := range 9000 {
		switch i % 3 {
		case 0:
			hold(t, d.list(2, 0))
		case 1:
			hold(t, d.list(2, 40))
		case 2:
			hold(t, d.list(0, 100))
		}
	}
}

func TestP19_3_WhatIsEncodedIsRight(t *testing.T) {
	var d dice = 194
	count := 0
	for i := range 8000 {
		c := d.list(2*(i%2), 0)
		if name, ok := Name(c.Issuer); ok {
			holdWhole(t, name)
		} else {
			t.Fatalf("Name(%s): false", show(c.Issuer))
		}
		if exts, ok := Exts(c.Exts); ok {
			holdWhole(t, exts)
		}
		tbs, err := Tbs(c)
		if err != api.OK {
			continue
		}
		count++
		holdWhole(t, tbs)
		list, _ := Encode(c)
		holdWhole(t, list)
	}
	if count < 4000 {
		t.Errorf("%d lists", count)
	}
	for _, n := range lengths() {
		c := full()
		c.Signature, c.Exts[0].Value, c.Issuer[0][0].Text = strings.Repeat("a", n), strings.Repeat("b", n), strings.Repeat("c", n)
		c.Entries[0].Serial = "\x01" + strings.Repeat("\x00", n)
		list, _ := Encode(c)
		holdWhole(t, list)
	}
}

func TestP19_3_TheOrderOfAttributesPlaysNoPart(t *testing.T) {
	var d dice = 195
	for i := range 300 {
		var set []api.Attr
		for range 2 + i%4 {
			set = append(set, d.attr(0))
		}
		c := full()
		c.Issuer[1] = slices.Clone(set)
		list, err := Encode(c)
		if list == "" || err != api.OK {
			t.Fatalf("Encode(%s): %d", show(c), err)
		}
		tbs, _ := Tbs(c)
		name, _ := Name(c.Issuer)
		orders(set, func(l []api.Attr) {
			c.Issuer[1] = l
			holdBoth(t, c, tbs, list, api.OK)
			holdName(t, c.Issuer, name, true)
		})
	}
}

// A set's attributes are in order also by layer 16, which sees them byte by byte.
func TestP19_3_SetsAreInOrder(t *testing.T) {
	var d dice = 196
	for range 5000 {
		var set []api.Attr
		for range 1 + d.below(6) {
			set = append(set, d.attr(0))
		}
		name, _ := Name([][]api.Attr{set})
		var outer, inner, rest asn1.RawValue
		if _, err := asn1.Unmarshal([]byte(name), &outer); err != nil {
			t.Fatal(err)
		}
		if _, err := asn1.Unmarshal(outer.Bytes, &inner); err != nil {
			t.Fatal(err)
		}
		s, count := order.New(api.MaxCap), 0
		for b := inner.Bytes; len(b) > 0; count++ {
			left, err := asn1.Unmarshal(b, &rest)
			if err != nil {
				t.Fatal(err)
			}
			for _, x := range rest.FullBytes {
				s.Push(x)
			}
			if err := s.End(); err != api.OK {
				t.Fatalf("End() = %d in %x", err, name)
			}
			b = left
		}
		if count != len(set) {
			t.Fatalf("%d attributes, want %d", count, len(set))
		}
	}
}

// The library's own reader gets what the list says.
func TestP19_3_TheLibraryReadsIt(t *testing.T) {
	c := full()
	b, _ := Encode(c)
	var l pkix.CertificateList
	if left, err := asn1.Unmarshal([]byte(b), &l); err != nil || len(left) > 0 {
		t.Fatalf("%v, %x", err, left)
	}
	tbs, _ := Tbs(c)
	got := l.TBSCertList
	if string(got.Raw) != tbs || got.Version != 1 || !l.SignatureAlgorithm.Algorithm.Equal(asn1.ObjectIdentifier{1, 2, 840, 113549, 1, 1, 11}) ||
		!got.Signature.Algorithm.Equal(l.SignatureAlgorithm.Algorithm) || string(l.SignatureValue.Bytes) != "sig" || l.SignatureValue.BitLength != 24 {
		t.Errorf("%+v", l)
	}
	if !got.ThisUpdate.Equal(time.Date(2024, 1, 1, 0, 0, 0, 0, time.UTC)) || !got.NextUpdate.Equal(time.Date(2050, 1, 1, 0, 0, 0, 0, time.UTC)) {
		t.Errorf("%v, %v", got.ThisUpdate, got.NextUpdate)
	}
	if len(got.Issuer) != 3 || len(got.Issuer[0]) != 2 || got.Issuer[0][0].Value != "a" || got.Issuer[0][1].Value != "b" || got.Issuer[1][0].Value != "c@d" ||
		len(got.Issuer[2]) != 3 || got.Issuer[2][0].Value != "x" || got.Issuer[2][1].Value != "y" || got.Issuer[2][2].Value != "z" {
		t.Errorf("%+v", got.Issuer)
	}
	if len(got.RevokedCertificates) != 3 || got.RevokedCertificates[0].SerialNumber.Int64() != 5 || got.RevokedCertificates[1].SerialNumber.Int64() != 128 ||
		got.RevokedCertificates[0].RevocationTime.Year() != 1950 || len(got.RevokedCertificates[0].Extensions) != 0 ||
		len(got.RevokedCertificates[1].Extensions) != 1 || string(got.RevokedCertificates[1].Extensions[0].Value) != "\x0a\x01\x01" ||
		len(got.RevokedCertificates[2].Extensions) != 2 || !got.RevokedCertificates[2].Extensions[0].Critical || got.RevokedCertificates[2].Extensions[1].Critical {
		t.Errorf("%+v", got.RevokedCertificates)
	}
	if len(got.Extensions) != 2 || got.Extensions[0].Critical || !got.Extensions[1].Critical || string(got.Extensions[0].Value) != "\x02\x01\x01" {
		t.Errorf("%+v", got.Extensions)
	}
}
