package scan

import (
	"math"
	"slices"
	"sort"
	"strings"

	"gantlet/api"
	"gantlet/encode"
	"gantlet/head"
	"gantlet/oid"
	"gantlet/when"
)

// node is an element of a list, and the part that it is; 0, if it is none.
type node struct {
	part, class, tag int
	cons             bool
	// content is a primitive one's.
	content string
	// in is a constructed one's elements.
	in []node
}

// bytes are the element's.
func (n node) bytes() string {
	content := n.content
	if n.cons {
		var all strings.Builder
		for _, k := range n.in {
			all.WriteString(k.bytes())
		}
		content = all.String()
	}
	return n.headOf(len(content)) + content
}

// headOf is the bytes of the element's head, with a content of so many bytes.
func (n node) headOf(size int) string {
	b, err := head.Put(api.Head{Class: n.class, Tag: n.tag, Cons: n.cons, Len: size})
	if err != api.OK {
		panic("the test's own head is wrong")
	}
	return b
}

// ahead is how many bytes the element's head has.
func (n node) ahead() int {
	if !n.cons {
		return len(n.headOf(len(n.content)))
	}
	size := 0
	for _, k := range n.in {
		size += len(k.bytes())
	}
	return len(n.headOf(size))
}

// path is where a node stands in another one: from there on, which one of the elements, and so on.
type path []int

// paths are those of all elements in a node, each ahead of what is in it.
func (n node) paths() []path {
	var l []path
	for i, k := range n.in {
		l = append(l, path{i})
		for _, p := range k.paths() {
			l = append(l, append(path{i}, p...))
		}
	}
	return l
}

// at is the element at a path.
func (n node) at(p path) node {
	for _, i := range p {
		n = n.in[i]
	}
	return n
}

// find is the path of the first element of a part.
func (n node) find(part int) path {
	l := n.all(part)
	if len(l) == 0 {
		panic("no such part in the test's own list")
	}
	return l[0]
}

// all are the paths of the elements of a part.
func (n node) all(part int) []path {
	var l []path
	for _, p := range n.paths() {
		if n.at(p).part == part {
			l = append(l, p)
		}
	}
	return l
}

// from is the place of an element's first byte.
func (n node) from(p path) int {
	at := 0
	for _, i := range p {
		at += n.ahead()
		for _, k := range n.in[:i] {
			at += len(k.bytes())
		}
		n = n.in[i]
	}
	return at
}

// put is the node with another element at a path; nothing of it is changed.
func (n node) put(p path, k node) node {
	if len(p) == 0 {
		return k
	}
	n.in = slices.Clone(n.in)
	n.in[p[0]] = n.in[p[0]].put(p[1:], k)
	return n
}

// splice is the node with others in the place of those that stand from a path on, so many of them.
func (n node) splice(p path, many int, others ...node) node {
	around, i := p[:len(p)-1], p[len(p)-1]
	in := n.at(around)
	in.in = slices.Replace(slices.Clone(in.in), i, i+many, others...)
	return n.put(around, in)
}

// leaf is a universal primitive element, a part of the list.
func leaf(part, tag int, content string) node { return node{part: part, tag: tag, content: content} }

// seq is a sequence, a part of the list.
func seq(part int, in ...node) node { return node{part: part, tag: 16, cons: true, in: in} }

// setOf is a set of a name, of these attributes, in the order in which they stand.
func setOf(in ...node) node { return node{part: 8, tag: 17, cons: true, in: in} }

func identifierNode(arcs []uint64) node {
	content, ok := oid.Put(arcs...)
	if !ok {
		panic("the test's own arcs are wrong")
	}
	return leaf(5, 6, content)
}

func timeNode(part int, date string) node {
	tag, content, ok := when.Put(date)
	if !ok {
		panic("the test's own date is wrong")
	}
	return leaf(part, tag, content)
}

// algorithmNode is one with these behind its OID.
func algorithmNode(arcs []uint64, behind ...node) node {
	return seq(4, append([]node{identifierNode(arcs)}, behind...)...)
}

func nullNode() node { return leaf(6, 5, "") }

func attributeNode(a api.Attr) node {
	return seq(9, identifierNode(a.Oid), leaf(10, a.Tag, a.Text))
}

func setNode(attrs []api.Attr) node {
	n := setOf()
	for _, a := range attrs {
		n.in = append(n.in, attributeNode(a))
	}
	sort.SliceStable(n.in, func(i, j int) bool { return n.in[i].bytes() < n.in[j].bytes() })
	return n
}

func nameNode(sets [][]api.Attr) node {
	n := seq(7)
	for _, attrs := range sets {
		n.in = append(n.in, setNode(attrs))
	}
	return n
}

func extensionsNode(exts []api.Ext) node {
	n := seq(17)
	for _, e := range exts {
		k := seq(18, identifierNode(e.Oid))
		if e.Critical {
			k.in = append(k.in, leaf(19, 1, "\xff"))
		}
		k.in = append(k.in, leaf(20, 4, e.Value))
		n.in = append(n.in, k)
	}
	return n
}

func entriesNode(entries []api.Entry) node {
	n := seq(13)
	for _, e := range entries {
		k := seq(14, leaf(15, 2, e.Serial), timeNode(16, e.Date))
		if len(e.Exts) > 0 {
			k.in = append(k.in, extensionsNode(e.Exts))
		}
		n.in = append(n.in, k)
	}
	return n
}

func signedNode(c api.Crl) node {
	n := seq(2)
	if c.Version2 {
		n.in = append(n.in, leaf(3, 2, "\x01"))
	}
	n.in = append(n.in, algorithmNode(c.Alg, nullNode()), nameNode(c.Issuer), timeNode(11, c.This))
	if c.Next != "" {
		n.in = append(n.in, timeNode(12, c.Next))
	}
	if len(c.Entries) > 0 {
		n.in = append(n.in, entriesNode(c.Entries))
	}
	if len(c.Exts) > 0 {
		n.in = append(n.in, node{part: 21, class: 2, cons: true, in: []node{extensionsNode(c.Exts)}})
	}
	return n
}

// listNode is a list, element by element, with the part that each of them is.
func listNode(c api.Crl) node {
	return seq(1, signedNode(c), algorithmNode(c.Alg, nullNode()), leaf(22, 3, "\x00"+c.Signature))
}

// attr is an attribute of a common name.
func attr(tag int, text string) api.Attr {
	return api.Attr{Oid: []uint64{2, 5, 4, 3}, Tag: tag, Text: text}
}

// ext is an extension of a list's number.
func ext(critical bool, content string) api.Ext {
	return api.Ext{Oid: []uint64{2, 5, 29, 20}, Critical: critical, Value: content}
}

// plain is a list that has no more than each one must have.
func plain() api.Crl { return api.Crl{Alg: []uint64{1, 2}, This: "20240101000000"} }

// older is one of the version that isn't told, with all that this can have, more than once where it can.
func older() api.Crl {
	return api.Crl{
		Alg:     []uint64{1, 2, 840},
		Issuer:  [][]api.Attr{{attr(12, "a"), attr(19, "b")}, {attr(22, "c")}},
		This:    "20240101000000",
		Next:    "20500101000000",
		Entries: []api.Entry{{Serial: "\x05", Date: "19500101000000"}, {Serial: "\x00\x80", Date: "20500101000000"}},
	}
}

// full is one of version 2 that has each thing, more than once where it can, a serial number too.
func full() api.Crl {
	c := older()
	c.Version2 = true
	c.Issuer = append(c.Issuer, []api.Attr{attr(12, "x"), attr(12, "yy"), attr(12, "zzz")})
	c.Entries = append(c.Entries,
		api.Entry{Serial: "\x01", Date: "20491231235959", Exts: []api.Ext{ext(false, "v")}},
		api.Entry{Serial: "\x05", Date: "20240101000000", Exts: []api.Ext{ext(true, ""), ext(false, "")}},
		api.Entry{Serial: "\x00\x80", Date: "20240101000000"},
	)
	c.Exts = []api.Ext{ext(false, "\x02\x01\x01"), ext(true, "w")}
	c.Signature = "sig"
	return c
}

// small is one of version 2 that has each thing, most of them once.
func small() api.Crl {
	c := plain()
	c.Version2, c.Next = true, "20500101000000"
	c.Issuer = [][]api.Attr{{{Oid: []uint64{1, 2}, Tag: 12, Text: "a"}, {Oid: []uint64{1, 2}, Tag: 19, Text: "b"}}}
	c.Entries = []api.Entry{{Serial: "\x05", Date: "20240101000000", Exts: []api.Ext{{Oid: []uint64{1, 2}, Critical: true, Value: "v"}}}}
	c.Exts = []api.Ext{{Oid: []uint64{1, 2}, Critical: true}}
	return c
}

// lists are those that have, or lack, each of what a list may have.
func lists() []api.Crl {
	var l []api.Crl
	name, entries := full().Issuer, full().Entries
	for flags := range 1 << 3 {
		for sets := range 4 {
			for many := range 5 {
				c := plain()
				c.Version2, c.Issuer = flags&1 != 0, name[:sets]
				c.Entries = append([]api.Entry{}, entries[len(entries)-many:]...)
				if flags&2 != 0 {
					c.Next = "20500101000000"
				}
				if flags&4 != 0 {
					c.Exts = full().Exts[:1+many%2]
				}
				if !c.Version2 {
					c = withoutExts(c)
				}
				l = append(l, c)
			}
		}
	}
	return append(l, plain(), older(), small(), full())
}

// fewLists are some that are unlike each other.
func fewLists() []api.Crl { return []api.Crl{plain(), older(), small(), full()} }

// withoutExts is a list without extensions.
func withoutExts(c api.Crl) api.Crl {
	c.Exts, c.Entries = nil, slices.Clone(c.Entries)
	for i := range c.Entries {
		c.Entries[i].Exts = nil
	}
	return c
}

// encoded are a list's bytes, by layer 19.
func encoded(c api.Crl) string {
	b, err := encode.Encode(c)
	if err != api.OK {
		panic("the test's own list is wrong")
	}
	return b
}

// samples are each part that a list has, whole, and elements that no list has.
func samples() []node {
	l := []node{timeNode(0, "20240101000000"), timeNode(0, "20500101000000"), nullNode(), leaf(0, 1, "\x00"), leaf(0, 2, "\x02")}
	n := listNode(full())
	for _, part := range []int{2, 3, 4, 5, 7, 8, 9, 10, 13, 14, 15, 17, 18, 19, 20, 21, 22} {
		l = append(l, n.at(n.find(part)))
	}
	return append(l, n, listNode(plain()), leaf(0, 17, ""), leaf(0, 2, "\x00\x01"), node{tag: 4, cons: true}, node{class: 3, tag: 1, content: "p"})
}

// dice gives numbers that look thrown, and are always the same.
type dice uint64

// below throws a number from 0 on, below n.
func (d *dice) below(n int) int {
	*d = *d*6364136223846793005 + 1442695040888963407
	return int(uint64(*d)>>33) % n
}

// one throws one of a list.
func one[T any](d *dice, l []T) T { return l[d.below(len(l))] }

func (d *dice) text(most int) string {
	b := make([]byte, d.below(most+1))
	for i := range b {
		b[i] = "abcXYZ019 "[d.below(10)]
	}
	return string(b)
}

func (d *dice) arcs() []uint64 {
	return one(d, [][]uint64{{1, 2}, {2, 5, 4, 3}, {2, 5, 29, 20}, {1, 2, 840, 113549, 1, 1, 11}, {2, 999}, {0, 39, math.MaxUint64}})
}

func (d *dice) date() string {
	return one(d, []string{"19500101000000", "20240229235959", "20491231235959", "20500101000000", "99991231235959"})
}

func (d *dice) serial() string {
	return one(d, []string{"\x00", "\x7f", "\x80", "\x00\xff", "\x01\x02\x03", strings.Repeat("\x11", 20), strings.Repeat("\x11", 21)})
}

func (d *dice) exts() []api.Ext {
	var l []api.Ext
	for range d.below(4) {
		l = append(l, api.Ext{Oid: d.arcs(), Critical: d.below(2) == 0, Value: d.text(5)})
	}
	return l
}

// list throws a list; one with extensions is of version 2.
func (d *dice) list() api.Crl {
	c := api.Crl{Version2: d.below(3) > 0, Alg: d.arcs(), This: d.date(), Exts: d.exts(), Signature: d.text(9)}
	for range d.below(4) {
		var attrs []api.Attr
		for range 1 + d.below(3) {
			attrs = append(attrs, api.Attr{Oid: d.arcs(), Tag: one(d, []int{12, 19, 22}), Text: d.text(4)})
		}
		c.Issuer = append(c.Issuer, attrs)
	}
	if d.below(2) == 0 {
		c.Next = d.date()
	}
	for range d.below(5) {
		c.Entries = append(c.Entries, api.Entry{Serial: d.serial(), Date: d.date(), Exts: d.exts()})
	}
	if !c.Version2 {
		c = withoutExts(c)
	}
	return c
}

// config throws limits that are often just great enough, or too small, and queries.
func (d *dice) config(n node) api.Config {
	c := api.Config{Depth: 1 + d.below(8), Cap: d.below(api.MaxCap + 1), Element: d.below(api.MaxCap + 1)}
	if d.below(3) > 0 {
		c.Cap = d.below(len(n.at(n.find(7)).bytes()) + 3)
	}
	if d.below(3) > 0 {
		c.Element = d.below(30)
	}
	if d.below(3) > 0 {
		c.Depth = 64
	}
	for range d.below(6) {
		if q := d.serial(); len(q) <= api.MaxSerial {
			c.Queries = append(c.Queries, q)
		}
	}
	return c
}

// spoil throws a change of a list's elements: one more, one less, another one, or two that are changed round.
func (d *dice) spoil(n node) node {
	p := one(d, n.paths())
	switch d.below(6) {
	case 0:
		return n.splice(p, 1)
	case 1:
		return n.splice(p, 0, one(d, samples()))
	case 2:
		return n.splice(p, 1, one(d, samples()))
	case 3:
		return n.splice(p, 0, n.at(p))
	case 4:
		return n.splice(p, 1, n.at(one(d, n.paths())))
	}
	return d.turn(n, p)
}

// turn changes an element round with another one of those that it stands among.
func (d *dice) turn(n node, p path) node {
	last := len(p) - 1
	around := n.at(p[:last])
	i, j := p[last], d.below(len(around.in))
	q := append(slices.Clone(p[:last]), j)
	return n.put(p, around.in[j]).put(q, around.in[i])
}

// change throws bytes that aren't what they were: one changed, one less, one more, some at the end gone.
func (d *dice) change(b string) string {
	at := d.below(len(b))
	switch d.below(5) {
	case 0:
		return b[:at] + b[at+1:]
	case 1:
		return b[:at] + string([]byte{byte(d.below(256))}) + b[at:]
	case 2:
		return b[:at]
	case 3:
		return b[:at] + string([]byte{b[at] ^ 1<<d.below(8)}) + b[at+1:]
	}
	return b[:at] + string([]byte{byte(d.below(256))}) + b[at+1:]
}
