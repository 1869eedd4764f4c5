package grammar

import (
	"slices"
	"strings"
	"testing"

	"gantlet/api"
	"gantlet/event"
)

// eventsOf are those of a text, up to the byte that is wrong, if there is one.
func eventsOf(b string) []api.Event {
	events, _, _ := event.Whole(b, 64)
	return events
}

// rightEvents are those of a list that has each thing.
func rightEvents() []api.Event { return eventsOf(encoded(full())) }

// holdPush compares what Push tells of an event with what it must. It ends the test, because most tests hold thousands
// of events; Helper is called only then, because it takes far longer than what is compared.
func holdPush(t *testing.T, g *Grammar, e api.Event, want answer) {
	if part, err := g.Push(e); part != want.part || err != want.err {
		t.Helper()
		t.Fatalf("Push(%v) = %d, error %d, want %d, %d", e, part, err, want.part, want.err)
	}
}

// holdWrong sees that nothing but ErrGrammar is told any more.
func holdWrong(t *testing.T, g *Grammar, events []api.Event) {
	for _, e := range events {
		holdPush(t, g, e, answer{0, api.ErrGrammar})
	}
}

// hold compares what is told of a text's events with the model, and tells at which event it is wrong; none: how many
// there are.
func hold(t *testing.T, b string) int {
	events := eventsOf(b)
	g := New()
	m := newModel()
	for i, e := range events {
		part, err := m.push(e)
		if got, told := g.Push(e); got != part || told != err {
			t.Helper()
			t.Fatalf("%x: Push(%v) = %d, error %d, want %d, %d", b, e, got, told, part, err)
		}
		if err != api.OK {
			holdWrong(t, g, events[i+1:min(len(events), i+4)])
			return i
		}
	}
	return len(events)
}

// holdParts sees that a list is right, and that each event belongs to the part that it was built as.
func holdParts(t *testing.T, n node) {
	b := n.bytes()
	events, parts := eventsOf(b), n.parts()
	if len(events) != len(parts) {
		t.Helper()
		t.Fatalf("%d events of %x, want %d", len(events), b, len(parts))
	}
	g := New()
	for i, e := range events {
		if part, err := g.Push(e); part != parts[i] || err != api.OK {
			t.Helper()
			t.Fatalf("%x: Push(%v) = %d, error %d, want %d", b, e, part, err, parts[i])
		}
	}
	if at := hold(t, b); at != len(events) {
		t.Helper()
		t.Fatalf("the model tells that event %d of %x is wrong", at, b)
	}
}

// holdWrongAt sees that just that event is the first one that is wrong, and that it stays so, whatever comes.
func holdWrongAt(t *testing.T, n node, at int) {
	b := n.bytes()
	events, parts := eventsOf(b), n.parts()
	g := New()
	for i := range at {
		if part, err := g.Push(events[i]); part != parts[i] || err != api.OK {
			t.Helper()
			t.Fatalf("%x: Push(%v) = %d, error %d, want %d", b, events[i], part, err, parts[i])
		}
	}
	if part, err := g.Push(events[at]); part != 0 || err != api.ErrGrammar {
		t.Helper()
		t.Fatalf("%x: Push(%v) = %d, error %d, want error %d", b, events[at], part, err, api.ErrGrammar)
	}
	holdWrong(t, g, events[at:])
	holdWrong(t, g, rightEvents())
	if got := hold(t, b); got != at {
		t.Helper()
		t.Fatalf("the model tells that event %d of %x is wrong, want %d", got, b, at)
	}
}

// beginOf is the event with which an element begins.
func (n node) beginOf(p path) int {
	at := 0
	for _, i := range p {
		at++
		for _, k := range n.in[:i] {
			at += len(k.parts())
		}
		n = n.in[i]
	}
	return at
}

// exitOf is the event with which an element is over.
func (n node) exitOf(p path) int { return n.beginOf(p) + len(n.at(p).parts()) - 1 }

// behindOf is the place behind an element.
func behindOf(p path) path {
	behind := slices.Clone(p)
	behind[len(p)-1]++
	return behind
}

// small is a list of version 2 that has each thing once.
func small() node {
	c := plain()
	c.Version2, c.Next = true, "20500101000000"
	c.Issuer = [][]api.Attr{{{Oid: []uint64{1, 2}, Tag: 12, Text: "a"}}}
	c.Entries = []api.Entry{{Serial: "\x05", Date: "20240101000000", Exts: []api.Ext{{Oid: []uint64{1, 2}, Critical: true, Value: "v"}}}}
	c.Exts = []api.Ext{{Oid: []uint64{1, 2}, Critical: true}}
	return listNode(c)
}

func TestP20_1_ExamplesOfTheChapter(t *testing.T) {
	g := New()
	holdPush(t, g, api.Event{Kind: api.ELeaf, At: 1, Head: api.Head{Tag: api.TInteger, Len: 1}}, answer{0, api.ErrGrammar})
	holdWrong(t, g, rightEvents())
	g = New()
	holdPush(t, g, api.Event{Kind: api.EEnter, At: 1, Head: api.Head{Tag: api.TSequence, Cons: true}}, answer{1, api.OK})
	holdPush(t, g, api.Event{Kind: api.EExit, At: 1}, answer{0, api.ErrGrammar})
	holdWrong(t, g, rightEvents())
}

func TestP20_1_PartsWrittenOut(t *testing.T) {
	c := plain()
	c.Version2, c.Issuer = true, [][]api.Attr{{{Oid: []uint64{1, 2}, Tag: 19, Text: "ab"}}}
	c.Next = "20240101000000"
	c.Entries = []api.Entry{
		{Serial: "\x05", Date: "20240101000000"},
		{Serial: "\x05", Date: "20240101000000", Exts: []api.Ext{{Oid: []uint64{1, 2}, Critical: true, Value: "v"}}},
	}
	c.Exts = []api.Ext{{Oid: []uint64{1, 2}}, {Oid: []uint64{1, 2}, Value: "wx"}}
	time := func(part int) []int { return slices.Repeat([]int{part}, 15) }
	want := slices.Concat(
		[]int{1, 2, 3, 3, 3, 4, 5, 5, 5, 6, 6, 4},
		[]int{7, 8, 9, 5, 5, 5, 10, 10, 10, 10, 9, 8, 7},
		time(11), time(12),
		[]int{13, 14, 15, 15, 15}, time(16), []int{14},
		[]int{14, 15, 15, 15}, time(16),
		[]int{17, 18, 5, 5, 5, 19, 19, 19, 20, 20, 20, 18, 17, 14, 13},
		[]int{21, 17, 18, 5, 5, 5, 20, 20, 18, 18, 5, 5, 5, 20, 20, 20, 20, 18, 17, 21},
		[]int{2, 4, 5, 5, 5, 6, 6, 4, 22, 22, 22, 1},
	)
	if got := listNode(c).parts(); !slices.Equal(got, want) {
		t.Fatalf("the test's own parts are %v, want %v", got, want)
	}
	holdParts(t, listNode(c))
}

func TestP20_1_ListsOfBothVersions(t *testing.T) {
	for _, c := range lists() {
		n := listNode(c)
		if b := encoded(c); n.bytes() != b {
			t.Fatalf("the test's own bytes of %v are %x, want %x", c, n.bytes(), b)
		}
		holdParts(t, n)
	}
}

func TestP20_1_ThrownLists(t *testing.T) {
	d := dice(1)
	for range 1500 {
		c := d.list()
		n := listNode(c)
		if b := encoded(c); n.bytes() != b {
			t.Fatalf("the test's own bytes of %v are %x, want %x", c, n.bytes(), b)
		}
		holdParts(t, n)
	}
}

func TestP20_1_LongLists(t *testing.T) {
	c := full()
	c.Entries = slices.Repeat(c.Entries, 700)
	c.Exts = slices.Repeat(c.Exts, 300)
	c.Issuer = slices.Repeat(c.Issuer, 200)
	c.Signature = strings.Repeat("s", 70000)
	n := listNode(c)
	holdParts(t, n)
	// The last of them is wrong.
	exts := append(n.find(21), 0)
	last := append(exts, len(n.at(exts).in)-1)
	n = n.put(append(last, 1), leaf(19, 1, "\x00"))
	holdWrongAt(t, n, n.beginOf(append(last, 1))+1)
}

// TestP20_1_FirstOnesOnly keeps of each constructed element its first ones only: what it must have is told at its exit.
func TestP20_1_FirstOnesOnly(t *testing.T) {
	// How many of an element's it needs, if each that may be missing ahead of the last of these is there.
	needs := map[int]int{1: 3, 2: 4, 4: 1, 7: 0, 8: 1, 9: 2, 13: 1, 14: 2, 17: 1, 18: 2, 21: 1}
	for _, c := range []api.Crl{full(), older(), plain()} {
		n := listNode(c)
		for _, p := range append(n.paths(), path{}) {
			k := n.at(p)
			if !k.cons {
				continue
			}
			need := needs[k.part]
			if k.part == 2 && !c.Version2 {
				need--
			}
			if k.part == 18 && len(k.in) == 3 {
				need++
			}
			for many := range len(k.in) + 1 {
				less := k
				less.in = k.in[:many]
				m := n.put(p, less)
				if many < need {
					holdWrongAt(t, m, m.exitOf(p))
				} else {
					holdParts(t, m)
				}
			}
		}
	}
}

// TestP20_1_OneMissing takes each single element out of a list.
func TestP20_1_OneMissing(t *testing.T) {
	may := map[int]bool{6: true, 8: true, 12: true, 13: true, 17: true, 19: true, 21: true}
	many := map[int]bool{9: true, 14: true, 18: true}
	for _, c := range []api.Crl{full(), older(), plain()} {
		n := listNode(c)
		for _, p := range n.paths() {
			part, around := n.at(p).part, n.at(p[:len(p)-1])
			m := n.splice(p, 1)
			exit := m.exitOf(p[:len(p)-1])
			switch {
			case may[part] && around.part != 21 || many[part] && len(around.in) > 1:
				holdParts(t, m)
			case part == 11 && c.Next != "":
				// The other time is the first one then.
				m.in[0].in[p[1]].part = 11
				holdParts(t, m)
			case part == 3:
				// All is as in the older version, till the first extensions come.
				holdWrongAt(t, m, m.beginOf(m.find(17)))
			case p[len(p)-1] == len(around.in)-1:
				holdWrongAt(t, m, exit)
			default:
				// What is behind it can't stand there, or what is in that.
				if got := hold(t, m.bytes()); got > exit {
					t.Fatalf("%x: event %d is wrong, want none behind %d", m.bytes(), got, exit)
				}
			}
		}
	}
}

// TestP20_1_OneTwice doubles each single element of a list.
func TestP20_1_OneTwice(t *testing.T) {
	many := map[int]bool{8: true, 9: true, 14: true, 18: true}
	for _, c := range []api.Crl{full(), older(), plain()} {
		n := listNode(c)
		for _, p := range n.paths() {
			k, around := n.at(p), n.at(p[:len(p)-1])
			behind := behindOf(p)
			// Where the second one can stand as another part, what is in it can't, or what is behind it.
			ahead := 0
			switch {
			case many[k.part]:
				holdParts(t, n.splice(behind, 0, k))
				continue
			case k.part == 11 && c.Next == "":
				k.part = 12
				holdParts(t, n.splice(behind, 0, k))
				continue
			case k.part == 11:
				k.part = 12
				ahead = len(k.parts())
			case k.part == 5 && around.part == 4:
				k.part = 6
				ahead = len(k.parts())
			case k.part == 4 && around.part == 2:
				k.part, ahead = 7, 1
			case k.part == 2:
				k.part, ahead = 4, 1
			}
			m := n.splice(behind, 0, k)
			holdWrongAt(t, m, m.beginOf(behind)+ahead)
		}
	}
}

// TestP20_1_TwoChangedRound changes round each two elements that stand in the same one.
func TestP20_1_TwoChangedRound(t *testing.T) {
	for _, c := range []api.Crl{full(), older(), plain()} {
		n := listNode(c)
		for _, p := range n.paths() {
			around := n.at(p[:len(p)-1])
			for j := range p[len(p)-1] {
				q := append(slices.Clone(p[:len(p)-1]), j)
				one, other := around.in[j], n.at(p)
				right := one.part == other.part || one.part == 11 && other.part == 12
				one.part, other.part = other.part, one.part
				m := n.put(p, one).put(q, other)
				if right {
					holdParts(t, m)
				} else if got := hold(t, m.bytes()); got > m.exitOf(p[:len(p)-1]) {
					t.Fatalf("%x: event %d is wrong, want one within those changed round", m.bytes(), got)
				}
			}
		}
	}
}

// TestP20_1_OneInThePlaceOfAnother puts each element of a list in the place of each other one.
func TestP20_1_OneInThePlaceOfAnother(t *testing.T) {
	times := []int{11, 12, 16}
	for _, n := range []node{small(), listNode(older()), listNode(plain())} {
		for _, p := range n.paths() {
			k := n.at(p)
			for _, q := range n.paths() {
				other := n.at(q)
				m := n.put(p, other)
				// An attribute is an algorithm too: an OID, and anything.
				right := k.part == 6 || k.part == other.part || k.part == 15 && other.part == 3 || k.part == 4 && other.part == 9 ||
					slices.Contains(times, k.part) && slices.Contains(times, other.part)
				got, all := hold(t, m.bytes()), len(m.parts())
				if right != (got == all) {
					t.Fatalf("part %d in the place of part %d: right is %t, want %t", other.part, k.part, got == all, right)
				}
				if !right && (got < m.beginOf(p) || got > m.exitOf(p[:len(p)-1])) {
					t.Fatalf("part %d in the place of part %d: wrong at event %d, not between %d and %d", other.part, k.part,
						got, m.beginOf(p), m.exitOf(p[:len(p)-1]))
				}
			}
		}
	}
}

// TestP20_1_OtherElementsInEachPlace puts elements of all classes, forms and tags in the place of each element of a list,
// and ahead of it, and behind the last one.
func TestP20_1_OtherElementsInEachPlace(t *testing.T) {
	right, wrong := 0, 0
	count := func(n node) {
		if hold(t, n.bytes()) == len(n.parts()) {
			right++
		} else {
			wrong++
		}
	}
	for _, n := range []node{small(), listNode(plain())} {
		for _, p := range n.paths() {
			last := p[len(p)-1] == len(n.at(p[:len(p)-1]).in)-1
			for _, k := range foreign() {
				count(n.splice(p, 1, k))
				count(n.splice(p, 0, k))
				if last {
					count(n.splice(behindOf(p), 0, k))
				}
			}
		}
	}
	if right < 1000 || wrong < 10*right {
		t.Fatalf("%d of these are right and %d wrong: few tell anything", right, wrong)
	}
}

// TestP20_1_OtherHeads changes each single element's head: another class, another tag, another form.
func TestP20_1_OtherHeads(t *testing.T) {
	texts, times := []int{12, 19, 22}, []int{23, 24}
	for _, n := range []node{listNode(full()), listNode(older()), listNode(plain())} {
		for _, p := range append(n.paths(), path{}) {
			k := n.at(p)
			if k.part == 6 {
				continue
			}
			at := n.beginOf(p)
			for class := range 4 {
				for _, tag := range []int{0, 1, 2, 3, 4, 5, 6, 10, 12, 16, 17, 19, 22, 23, 24, 31, 256 + k.tag, 1<<16 + k.tag} {
					for _, cons := range []bool{false, true} {
						other := k
						other.class, other.tag, other.cons, other.in = class, tag, cons, nil
						if other.cons == k.cons {
							other.in = k.in
						}
						kind := class == 0 && !cons && (k.part == 10 && slices.Contains(texts, tag) ||
							slices.Contains(times, k.tag) && slices.Contains(times, tag))
						same := other.class == k.class && other.tag == k.tag && other.cons == k.cons
						m := n.put(p, other)
						switch {
						case kind || same:
							holdParts(t, m)
						case isOtherPart(n, p, other):
							hold(t, m.bytes())
						default:
							holdWrongAt(t, m, at)
						}
					}
				}
			}
		}
	}
}

// isOtherPart tells whether an element, in the place of one ahead of which, or instead of which, another one may be
// missing, is of that one's kind.
func isOtherPart(n node, p path, other node) bool {
	h := api.Head{Class: other.class, Tag: other.tag, Cons: other.cons}
	switch n.at(p).part {
	case 3:
		return isElement(4, h)
	case 12:
		return isElement(13, h) || n.at(path{0, 0}).part == 3 && isElement(21, h)
	case 13:
		return n.at(path{0, 0}).part == 3 && isElement(21, h) || p[1] > 0 && n.at(path{0, p[1] - 1}).part == 11 && isElement(12, h)
	case 19:
		return isElement(20, h)
	case 20:
		return p[len(p)-1] == 1 && isElement(19, h)
	}
	return false
}

func TestP20_1_Version(t *testing.T) {
	n := small()
	p := n.find(3)
	for b := range 256 {
		m := n.put(p, leaf(3, 2, string([]byte{byte(b)})))
		if b == 1 {
			holdParts(t, m)
		} else {
			holdWrongAt(t, m, m.beginOf(p)+1)
		}
	}
	for _, content := range []string{"", "\x00\x01", "\x01\x00", "\x01\x01", strings.Repeat("\x01", 127), strings.Repeat("\x01", 128), strings.Repeat("\x01", 256), strings.Repeat("\x01", 257)} {
		m := n.put(p, leaf(3, 2, content))
		holdWrongAt(t, m, m.beginOf(p))
	}
	// A serial number has as many bytes as it likes, and any.
	p = n.find(15)
	for _, content := range []string{"", "\x00", "\x02", "\x01", "\xff\x00\x01", strings.Repeat("\x05", 300)} {
		holdParts(t, n.put(p, leaf(15, 2, content)))
	}
	// A version alone makes no list; without it the first one's are lists too.
	alone := seq(1, seq(2, versionNode()))
	holdWrongAt(t, alone, alone.exitOf(path{0}))
	m := listNode(plain())
	holdParts(t, m.splice(path{0, 0}, 0, versionNode()))
	// It stands nowhere else in what is signed.
	for i := 1; i <= 3; i++ {
		late := m.splice(path{0, i}, 0, versionNode())
		holdWrongAt(t, late, late.beginOf(path{0, i}))
	}
}

func TestP20_1_Critical(t *testing.T) {
	n := listNode(full())
	for _, p := range n.paths() {
		if n.at(p).part != 19 {
			continue
		}
		for b := range 256 {
			m := n.put(p, leaf(19, 1, string([]byte{byte(b)})))
			if b == 255 {
				holdParts(t, m)
			} else {
				holdWrongAt(t, m, m.beginOf(p)+1)
			}
		}
		for _, content := range []string{"\xff\x00", "\xff\xfe"} {
			m := n.put(p, leaf(19, 1, content))
			holdWrongAt(t, m, m.beginOf(p)+2)
		}
		late := n.splice(p, 1).splice(behindOf(p), 0, leaf(0, 1, "\xff"))
		holdWrongAt(t, late, late.beginOf(behindOf(p)))
	}
	// Bytes of other parts are any.
	for _, part := range []int{5, 10, 11, 12, 15, 16, 20, 22} {
		p := n.find(part)
		k := n.at(p)
		for b := range 256 {
			k.content = string([]byte{byte(b), byte(b)})
			holdParts(t, n.put(p, k))
		}
	}
}

func TestP20_1_Names(t *testing.T) {
	n := listNode(plain())
	p := n.find(7)
	for sets := range 5 {
		for attrs := range 5 {
			name := [][]api.Attr{}
			for range sets {
				name = append(name, slices.Repeat([]api.Attr{attr(12, "a")}, attrs))
			}
			m := n.put(p, nameNode(name))
			if sets > 0 && attrs == 0 {
				first := append(slices.Clone(p), 0)
				holdWrongAt(t, m, m.exitOf(first))
			} else {
				holdParts(t, m)
			}
		}
	}
}

func TestP20_1_TextsAndTimes(t *testing.T) {
	n := listNode(full())
	for _, p := range n.paths() {
		k := n.at(p)
		kinds := []int{k.tag}
		switch k.part {
		case 10:
			kinds = []int{12, 19, 22}
		case 11, 12, 16:
			kinds = []int{23, 24}
		}
		for _, tag := range kinds {
			k.tag = tag
			holdParts(t, n.put(p, k))
		}
	}
	// Each two times side by side.
	for _, this := range []int{23, 24} {
		for _, next := range []int{23, 24} {
			m := listNode(plain()).splice(path{0, 2}, 1, leaf(11, this, "t"), leaf(12, next, "n"))
			holdParts(t, m)
			m = m.splice(path{0, 4}, 0, leaf(0, next, "n"))
			holdWrongAt(t, m, m.beginOf(path{0, 4}))
		}
	}
}

// wholeOf is an element in which all are anything.
func wholeOf(n node) node {
	n.part = 6
	n.in = slices.Clone(n.in)
	for i := range n.in {
		n.in[i] = wholeOf(n.in[i])
	}
	return n
}

func TestP20_1_Anything(t *testing.T) {
	n := listNode(full())
	places := []path{n.find(6), {1, 1}}
	for _, p := range places {
		holdParts(t, n.splice(p, 1))
		for _, k := range foreign() {
			holdParts(t, n.put(p, wholeOf(k)))
			many := wholeOf(seq(6, k, k, seq(6, k, nullNode()), k))
			holdParts(t, n.put(p, many))
			// One more behind it.
			m := n.splice(behindOf(p), 0, k)
			holdWrongAt(t, m, m.beginOf(behindOf(p)))
			// One ahead of the OID.
			first := append(slices.Clone(p[:len(p)-1]), 0)
			if k.class == 0 && !k.cons && k.tag == 6 {
				continue
			}
			m = n.splice(first, 0, k)
			holdWrongAt(t, m, m.beginOf(first))
		}
	}
}

func TestP20_1_AnythingThrown(t *testing.T) {
	d := dice(3)
	n := listNode(full())
	for range 600 {
		m := n.put(n.find(6), d.wild(7)).put(path{1, 1}, d.wild(7))
		holdParts(t, m)
	}
}

func TestP20_1_AnythingDeep(t *testing.T) {
	n := listNode(full())
	for _, p := range []path{n.find(6), {1, 1}} {
		// As many as can be open: the list is, and what is signed, and the algorithm.
		for levels := 64 - len(p); levels > 64-len(p)-3; levels-- {
			k := leaf(6, 2, "\x02")
			for level := range levels {
				k = node{part: 6, class: level % 4, tag: 16, cons: true, in: []node{nullNode(), k, nullNode()}}
			}
			holdParts(t, n.put(p, k))
		}
	}
}

// TestP20_1_NothingInAnythingCounts puts what has a meaning elsewhere within anything.
func TestP20_1_NothingInAnythingCounts(t *testing.T) {
	c := older()
	n := listNode(c)
	inside := wholeOf(seq(6, versionNode(), leaf(6, 2, "\x02"), leaf(6, 1, "\x00"), listNode(full()), versionNode()))
	m := n.put(n.find(6), inside)
	holdParts(t, m)
	// No version was told by that.
	c.Version2, c.Exts = true, full().Exts
	m = listNode(c)
	m = m.splice(m.find(3), 1)
	for _, k := range []node{inside, versionNode()} {
		m = m.put(m.find(6), wholeOf(k))
		holdWrongAt(t, m, m.beginOf(m.find(21)))
	}
	c.Exts, c.Entries[1].Exts = nil, full().Exts
	m = listNode(c)
	m = m.splice(m.find(3), 1)
	m = m.put(m.find(6), inside)
	holdWrongAt(t, m, m.beginOf(m.find(17)))
}

func TestP20_1_ExtensionsWithoutVersion(t *testing.T) {
	for _, c := range lists() {
		exts := len(c.Exts)
		for _, e := range c.Entries {
			exts += len(e.Exts)
		}
		if !c.Version2 || exts == 0 {
			continue
		}
		n := listNode(c)
		holdParts(t, n)
		m := n.splice(n.find(3), 1)
		first := 21
		if exts > len(c.Exts) {
			first = 17
		}
		holdWrongAt(t, m, m.beginOf(m.find(first)))
		// Neither an older version's number helps, nor a version behind.
		m = n.put(n.find(3), leaf(3, 2, "\x00"))
		holdWrongAt(t, m, m.beginOf(m.find(3))+1)
	}
}

func TestP20_1_Outermost(t *testing.T) {
	for _, k := range foreign() {
		if k.class == 0 && k.cons && k.tag == 16 {
			hold(t, k.bytes())
			continue
		}
		holdWrongAt(t, k, 0)
	}
	for _, c := range lists() {
		n := listNode(c)
		holdWrongAt(t, n.at(path{2}), 0)
		// What is signed is a sequence too, and an algorithm in it.
		k, at := n.at(path{0}), 1
		k.part = 1
		if !c.Version2 {
			k.in[0].part, at = 2, 2
		}
		holdWrongAt(t, k, at)
	}
	holdWrongAt(t, seq(1), 1)
	again := listNode(full())
	again.part, again.in[0].part = 2, 4
	holdWrongAt(t, seq(1, again), 3)
	for _, k := range []node{{class: 1, tag: 16}, {class: 2, tag: 16}, {class: 3, tag: 16}, {tag: 17}, {class: 2}, {tag: 16 + 256}} {
		k.cons, k.in = true, listNode(full()).in
		holdWrongAt(t, k, 0)
	}
}

// TestP20_1_EachRow lays up to so many elements in each constructed part, whatever comes behind each other, as long as
// none is wrong; how many are right in all is counted by hand.
func TestP20_1_EachRow(t *testing.T) {
	n := small()
	kinds := []node{
		versionNode(), algorithmNode([]uint64{1, 2}), seq(7), timeNode(0, "20240101000000"), n.at(n.find(13)), n.at(n.find(14)),
		n.at(n.find(18)), n.at(n.find(17)), n.at(n.find(21)), n.at(n.find(2)), n.at(n.find(22)), n.at(n.find(5)), n.at(n.find(8)),
		n.at(n.find(9)), n.at(n.find(10)), n.at(n.find(19)), n.at(n.find(20)), leaf(0, 2, "\x05"), nullNode(),
	}
	counts := map[int]int{
		// With an algorithm and with an attribute, which is one too: an OID, and anything.
		1: 2,
		// Likewise; the entries have extensions: without a version neither these can be nor the list's own.
		2: 2 * (8 + 2),
		// The OID alone, and with each behind it.
		4: 1 + len(kinds),
		7: 1 + 1 + 1 + 1,
		8: 3,
		9: 1,
		// Entries are told apart by none but their number.
		13: 3, 14: 2 * 2, 17: 3, 18: 2, 21: 1,
	}
	for part, want := range counts {
		p, most := path{}, 3
		if part > 1 {
			p = n.find(part)
		}
		if part == 2 {
			most = 7
		}
		if got := layAll(t, n, p, kinds, most); got != want {
			t.Fatalf("part %d: %d are right, want %d", part, got, want)
		}
	}
}

// layAll lays all that can be in a constructed element, and tells how many of these lists are right.
func layAll(t *testing.T, n node, p path, kinds []node, most int) int {
	k := n.at(p)
	k.in = nil
	return layMore(t, n, p, k, kinds, most)
}

func layMore(t *testing.T, n node, p path, k node, kinds []node, most int) int {
	m := n.put(p, k)
	right := 0
	got := hold(t, m.bytes())
	if got == len(m.parts()) {
		right++
	}
	// What is wrong ahead of the exit is so whatever is behind.
	if got < m.exitOf(p) || len(k.in) == most {
		return right
	}
	for _, other := range kinds {
		more := k
		more.in = append(slices.Clone(k.in), other)
		right += layMore(t, n, p, more, kinds, most)
	}
	return right
}

func TestP20_1_SpoiledLists(t *testing.T) {
	d := dice(5)
	right, wrong := 0, 0
	for range 3000 {
		n := d.spoil(listNode(d.list()))
		if d.below(4) == 0 {
			n = d.spoil(n)
		}
		if hold(t, n.bytes()) == len(n.parts()) {
			right++
		} else {
			wrong++
		}
	}
	if right < 200 || wrong < 1000 {
		t.Fatalf("%d of these are right and %d wrong: few tell anything", right, wrong)
	}
}

// TestP20_1_PlacesPlayNoPart pushes a list's events with other places.
func TestP20_1_PlacesPlayNoPart(t *testing.T) {
	n := listNode(full())
	parts := n.parts()
	for _, at := range []int{0, 1, -1, 1 << 40} {
		g := New()
		for i, e := range eventsOf(n.bytes()) {
			e.At = at
			holdPush(t, g, e, answer{parts[i], api.OK})
		}
	}
}

// changed are texts like this one in which a single byte is another one.
func changed(b string, others string) []string {
	var l []string
	for at := range len(b) {
		for i := range len(others) {
			if others[i] != b[at] {
				l = append(l, b[:at]+others[i:i+1]+b[at+1:])
			}
		}
	}
	return l
}

// everyByte is all bytes, one behind the other.
func everyByte() string {
	b := make([]byte, 256)
	for i := range b {
		b[i] = byte(i)
	}
	return string(b)
}

// edges are bytes that lists have, and neighbours of these.
const edges = "\x00\x01\x02\x03\x04\x05\x06\x0c\x0d\x10\x13\x16\x17\x18\x1f\x30\x31\x39\x5a\x7f\x80\x81\xa0\xa1\xb0\xfe\xff"

// together is how many events two lists begin with that are the same.
func together(a, b []api.Event) int {
	for i := range min(len(a), len(b)) {
		if a[i] != b[i] {
			return i
		}
	}
	return min(len(a), len(b))
}

// holdApart copies a grammar behind so many events, and pushes to both what is behind in their own lists, in turns.
func holdApart(t *testing.T, mine, other []api.Event, at int) {
	g := New()
	wants, others := answersOf(mine), answersOf(other)
	for i := range at {
		holdPush(t, g, mine[i], wants[i])
	}
	again := g.Copy()
	third := again.Copy()
	for i := at; i < max(len(mine), len(other)); i++ {
		if i < len(mine) {
			holdPush(t, g, mine[i], wants[i])
		}
		if i < len(other) {
			holdPush(t, again, other[i], others[i])
		}
	}
	// What was pushed to the others plays no part for one that waited.
	for i := at; i < min(len(mine), at+20); i++ {
		holdPush(t, third, mine[i], wants[i])
	}
}

func TestP20_2_CopiesWithTheSame(t *testing.T) {
	for _, n := range []node{small(), listNode(full()), listNode(plain()), small().splice(path{0, 0}, 1), small().splice(path{0, 3}, 1)} {
		events := eventsOf(n.bytes())
		for at := range len(events) + 1 {
			holdApart(t, events, events, at)
		}
	}
}

func TestP20_2_CopiesWithOthers(t *testing.T) {
	b := small().bytes()
	mine := eventsOf(b)
	for _, c := range changed(b, edges) {
		other := eventsOf(c)
		at := together(mine, other)
		holdApart(t, mine, other, at)
		holdApart(t, other, mine, at)
		holdApart(t, mine, other, at/2)
	}
}

// TestP20_2_CopiesWithOtherDepths lets one go out of elements, and into others, that the other one is still in.
func TestP20_2_CopiesWithOtherDepths(t *testing.T) {
	enter := api.Event{Kind: api.EEnter, Head: api.Head{Tag: 16, Cons: true}}
	set := api.Event{Kind: api.EEnter, Head: api.Head{Tag: 17, Cons: true}}
	exit := api.Event{Kind: api.EExit}
	id := []api.Event{{Kind: api.ELeaf, Head: api.Head{Tag: 6, Len: 1}}, {Kind: api.EByte, B: 1}, {Kind: api.EEnd}}
	g := New()
	for i, e := range slices.Concat([]api.Event{enter, enter, enter}, id, []api.Event{enter, enter}) {
		holdPush(t, g, e, answer{[]int{1, 2, 4, 5, 5, 5, 6, 6}[i], api.OK})
	}
	again := g.Copy()
	for _, part := range []int{6, 6, 4} {
		holdPush(t, g, exit, answer{part, api.OK})
	}
	for _, e := range []api.Event{set, set, enter} {
		holdPush(t, again, e, answer{6, api.OK})
	}
	holdPush(t, g, enter, answer{7, api.OK})
	third := g.Copy()
	holdPush(t, g, set, answer{8, api.OK})
	holdPush(t, third, exit, answer{7, api.OK})
	holdPush(t, g, enter, answer{9, api.OK})
	holdPush(t, third, enter, answer{0, api.ErrGrammar})
	holdPush(t, g, id[0], answer{5, api.OK})
	for _, part := range []int{6, 6, 6, 6, 6, 4} {
		holdPush(t, again, exit, answer{part, api.OK})
	}
	holdPush(t, again, enter, answer{7, api.OK})
	holdPush(t, again, exit, answer{7, api.OK})
	holdPush(t, third, exit, answer{0, api.ErrGrammar})
	holdPush(t, g, id[1], answer{5, api.OK})
}

// TestP20_2_CopiesWithAndWithoutVersion tells a version to one only.
func TestP20_2_CopiesWithAndWithoutVersion(t *testing.T) {
	n := small()
	events, without := eventsOf(n.bytes()), eventsOf(n.splice(n.find(3), 1).bytes())
	wants, others := answersOf(events), answersOf(without)
	g := New()
	holdPush(t, g, events[0], wants[0])
	holdPush(t, g, events[1], wants[1])
	again := g.Copy()
	for i := 2; i < len(events); i++ {
		holdPush(t, g, events[i], wants[i])
		if i < len(without) {
			holdPush(t, again, without[i], others[i])
		}
	}
	if others[len(without)-1].err != api.ErrGrammar || wants[len(wants)-1].err != api.OK {
		t.Fatal("the test's own lists are alike")
	}
}

func TestP20_2_CopiesOfWrongOnes(t *testing.T) {
	g := New()
	holdPush(t, g, api.Event{Kind: api.EEnter, Head: api.Head{Tag: 17, Cons: true}}, answer{0, api.ErrGrammar})
	again := g.Copy()
	holdWrong(t, again, rightEvents())
	// One that goes wrong spoils no copy of what it was.
	events := rightEvents()
	wants := answersOf(events)
	g = New()
	for i, e := range events {
		if head := e.Kind == api.EEnter || e.Kind == api.ELeaf; head && wants[i].part != 6 {
			again := g.Copy()
			holdPush(t, again, api.Event{Kind: api.EEnter, Head: api.Head{Class: 1, Cons: true}}, answer{0, api.ErrGrammar})
			holdPush(t, again, e, answer{0, api.ErrGrammar})
		}
		holdPush(t, g, e, wants[i])
	}
}

func TestP20_2_CopiesThrown(t *testing.T) {
	d := dice(7)
	for range 500 {
		b := listNode(d.list()).bytes()
		if d.below(2) == 0 {
			b = d.spoil(listNode(d.list())).bytes()
		}
		at := d.below(len(b))
		c := b[:at] + one(&d, strings.Split(edges, "")) + b[at+1:]
		mine, other := eventsOf(b), eventsOf(c)
		holdApart(t, mine, other, together(mine, other))
		holdApart(t, other, mine, d.below(together(mine, other)+1))
	}
}

// TestRules_NoneKnowsAnother pushes to two that were made anew, in turns.
func TestRules_NoneKnowsAnother(t *testing.T) {
	mine, other := eventsOf(small().bytes()), rightEvents()
	wants, others := answersOf(mine), answersOf(other)
	g, h := New(), New()
	for i := range max(len(mine), len(other)) {
		if i < len(mine) {
			holdPush(t, g, mine[i], wants[i])
		}
		if i < len(other) {
			holdPush(t, h, other[i], others[i])
		}
	}
}

// TestRules_NoEventPanics pushes events in whatever order, of kinds and with heads that there aren't too.
func TestRules_NoEventPanics(t *testing.T) {
	d := dice(9)
	all := append(rightEvents(), api.Event{}, api.Event{Kind: 6}, api.Event{Kind: -1, At: -1}, api.Event{Kind: 1 << 40},
		api.Event{Kind: api.EEnter, Head: api.Head{Class: -1, Tag: -16, Cons: true, Len: -1}},
		api.Event{Kind: api.ELeaf, Head: api.Head{Class: 1 << 40, Tag: 1 << 40, Len: 1 << 61}})
	for range 3000 {
		g := New()
		for range 40 {
			e := one(&d, all)
			part, err := g.Push(e)
			if err != api.OK && (part != 0 || err != api.ErrGrammar) || part < 0 || part > 22 {
				t.Fatalf("Push(%v) = %d, error %d", e, part, err)
			}
			if d.below(9) == 0 {
				g = g.Copy()
			}
		}
	}
	for _, e := range all {
		g := New()
		g.Push(e)
		g.Push(e)
		g.Copy().Push(e)
		// Behind a whole list.
		g = New()
		for _, right := range rightEvents() {
			g.Push(right)
		}
		for _, other := range all {
			again := g.Copy()
			again.Push(other)
			again.Push(e)
			again.Push(other)
		}
	}
}

// holdWhole compares what Whole tells of a text with the model, and with what is told event by event.
func holdWhole(t *testing.T, b string, depth int) told {
	want := tell(b, depth)
	if err, at := Whole(b, depth); err != want.err || at != want.at {
		t.Helper()
		t.Fatalf("Whole(%x, %d) = error %d, %d, want %d, %d", b, depth, err, at, want.err, want.at)
	}
	if got := tellByPush(b, depth); got != want {
		t.Helper()
		t.Fatalf("the events of %x, depth %d, tell error %d at %d, want %d, %d", b, depth, got.err, got.at, want.err, want.at)
	}
	return want
}

// holdTold is the same, and what is told is written out.
func holdTold(t *testing.T, b string, depth int, err api.Errno, at int) {
	t.Helper()
	if got := holdWhole(t, b, depth); got != (told{err, at}) {
		t.Fatalf("Whole(%x, %d) = error %d, %d, want %d, %d", b, depth, got.err, got.at, err, at)
	}
}

func TestP20_3_ExamplesOfTheChapter(t *testing.T) {
	holdTold(t, "\x02\x01\x01", 64, api.ErrGrammar, 1)
	holdTold(t, "\x30\x00", 64, api.ErrGrammar, 1)
	// Those of the whole.
	holdTold(t, "\x30\x80", 64, api.ErrLength, 1)
	holdTold(t, "\x30\x05\x30\x03\x02\x01\x02", 64, api.ErrGrammar, 6)
}

func TestP20_3_WhichErrorIsFirst(t *testing.T) {
	for _, x := range []struct {
		b   string
		err api.Errno
		at  int
	}{
		{"", api.ErrCut, 0},
		{"\x30", api.ErrCut, 1},
		{"\x02", api.ErrCut, 1},
		// Of one head: what event.Whole tells, then the content, then the grammar.
		{"\x10\x00", api.ErrValue, 1},
		{"\x10\x80", api.ErrLength, 1},
		{"\x24\x00", api.ErrValue, 1},
		{"\x04\x00", api.ErrGrammar, 1},
		{"\x31\x00", api.ErrGrammar, 1},
		{"\xb0\x00", api.ErrGrammar, 1},
		{"\x1f\x10\x00", api.ErrTag, 1},
		{"\x02\x00", api.ErrValue, 1},
		{"\x01\x02", api.ErrValue, 1},
		{"\x30\x02\x10\x01", api.ErrFit, 3},
		{"\x30\x02\x05\x01", api.ErrFit, 3},
		{"\x30\x02\x05\x00", api.ErrGrammar, 3},
		{"\x30\x04\x30\x02\x01\x00", api.ErrValue, 5},
		{"\x30\x05\x30\x03\x01\x01\x05", api.ErrGrammar, 5},
		{"\x30\x06\x30\x04\x02\x02\x00\x01", api.ErrGrammar, 5},
		{"\x30\x04\x30\x02\x02\x00", api.ErrValue, 5},
		// Of an exit and of what is behind.
		{"\x30\x02\x30\x00\x00", api.ErrGrammar, 3},
		{"\x30\x05\x30\x03\x02\x01\x01", api.ErrGrammar, 6},
		{"\x30\x05\x30\x03\x02\x01\x01\x05", api.ErrGrammar, 6},
		{"\x30\x06\x30\x03\x02\x01\x01\x05", api.ErrGrammar, 6},
		// Of an OID's byte, and of the exit that comes with it.
		{"\x30\x07\x30\x05\x30\x03\x06\x01\x80", api.ErrValue, 8},
		{"\x30\x07\x30\x05\x30\x03\x06\x01\x2a", api.ErrGrammar, 8},
		{"\x30\x09\x30\x05\x30\x03\x06\x01\x2a", api.ErrGrammar, 8},
		{"\x30\x09\x30\x07\x30\x03\x06\x01\x2a", api.ErrCut, 9},
		{"\x30\x09\x30\x07\x30\x03\x06\x01\x2a\x31\x00", api.ErrGrammar, 10},
		{"\x30\x09\x30\x07\x30\x03\x06\x01\x2a\x30\x00", api.ErrGrammar, 10},
		{"\x30\x09\x30\x07\x30\x03\x06\x01\x2a\x30\x01", api.ErrFit, 10},
	} {
		holdTold(t, x.b, 64, x.err, x.at)
	}
	// Too deep, and wrong too: a head of which both hold brings no event about.
	holdTold(t, "\x30\x02\x31\x00", 1, api.ErrDepth, 3)
	holdTold(t, "\x30\x02\x31\x00", 2, api.ErrGrammar, 3)
	holdTold(t, "\x31\x00", 0, api.ErrDepth, 1)
	holdTold(t, "\x30\x00", 0, api.ErrDepth, 1)
	holdTold(t, "\x04\x00", 0, api.ErrGrammar, 1)
	holdTold(t, "\x30\x02\x05\x00", 1, api.ErrGrammar, 3)
}

func TestP20_3_Depths(t *testing.T) {
	need := map[string]int{encoded(full()): 6, encoded(plain()): 3}
	for b, most := range need {
		for depth := -2; depth <= 66; depth++ {
			want := api.OK
			if depth < most {
				want = api.ErrDepth
			}
			if got := holdWhole(t, b, depth); got.err != want || want == api.OK && got.at != len(b) {
				t.Fatalf("depth %d: error %d at %d, want error %d", depth, got.err, got.at, want)
			}
		}
	}
	// 64 counts as the greatest one, 0 as the lowest.
	k := nullNode()
	for range 61 {
		k = seq(6, k)
	}
	n := listNode(plain())
	b := n.put(n.find(6), k).bytes()
	holdTold(t, b, 64, api.OK, len(b))
	holdTold(t, b, 1<<40, api.OK, len(b))
	if got := holdWhole(t, b, 63); got.err != api.ErrDepth {
		t.Fatalf("error %d, want %d", got.err, api.ErrDepth)
	}
	b = n.put(n.find(6), seq(6, k)).bytes()
	if got := holdWhole(t, b, 1<<40); got.err != api.ErrDepth {
		t.Fatalf("error %d, want %d", got.err, api.ErrDepth)
	}
}

// cuts are right lists, and wrong ones, of some kinds.
func cuts() []string {
	d := dice(11)
	l := []string{encoded(full()), encoded(older()), encoded(plain()), small().bytes()}
	for range 25 {
		l = append(l, d.spoil(listNode(d.list())).bytes())
	}
	return l
}

func TestP20_3_CutOffAtEachByte(t *testing.T) {
	for _, b := range cuts() {
		for _, depth := range []int{64, 6, 4, 2} {
			all := holdWhole(t, b, depth)
			for at := range len(b) + 1 {
				want := all
				if at <= all.at {
					want = told{api.ErrCut, at}
				}
				if at == len(b) {
					want = all
				}
				holdTold(t, b[:at], depth, want.err, want.at)
			}
		}
	}
}

func TestP20_3_MoreBehind(t *testing.T) {
	for _, b := range cuts() {
		for _, more := range []string{"\x00", "\x05\x00", "\x30\x80", "\xff", "\x31\x00", b} {
			all := holdWhole(t, b, 64)
			want := all
			if all.err == api.OK {
				want = told{api.ErrMore, len(b)}
			}
			holdTold(t, b+more, 64, want.err, want.at)
		}
	}
}

// TestP20_3_BytesChanged puts each byte in the place of each one of short lists, and some in those of a long one.
func TestP20_3_BytesChanged(t *testing.T) {
	found := map[api.Errno]int{}
	for _, c := range changed(encoded(plain()), everyByte()) {
		found[holdWhole(t, c, 64).err]++
	}
	for _, c := range changed(small().bytes(), edges) {
		found[holdWhole(t, c, 64).err]++
		found[holdWhole(t, c, 6).err]++
	}
	for _, c := range changed(encoded(full()), "\x01\x30") {
		found[holdWhole(t, c, 64).err]++
		found[holdWhole(t, c, 5).err]++
	}
	// Each error that there is comes first now and then; but ErrMore, because a list that ends early lacks something.
	for _, err := range []api.Errno{
		api.OK, api.ErrCut, api.ErrTag, api.ErrLength, api.ErrFit, api.ErrValue, api.ErrGrammar, api.ErrDepth,
	} {
		if found[err] == 0 {
			t.Errorf("error %d was never told", err)
		}
	}
	if len(found) != 8 {
		t.Fatalf("errors %v were told, want 8 of them", found)
	}
}

func TestP20_3_Thrown(t *testing.T) {
	d := dice(13)
	for range 3000 {
		n := listNode(d.list())
		if d.below(2) == 0 {
			n = d.spoil(n)
		}
		b := n.bytes()
		if at := d.below(len(b)); d.below(2) == 0 {
			b = b[:at] + one(&d, strings.Split(edges, "")) + b[at+1:]
		}
		holdWhole(t, b, []int{64, 64, 7, 6, 5, 4, 3}[d.below(7)])
	}
	// Bytes of no list.
	for range 3000 {
		b := ""
		for range d.below(12) {
			b += one(&d, []string{"\x30", "\x30", "\x31", "\x02", "\x06", "\x00", "\x01", "\x02", "\x03", "\x05", "\xa0", "\x17"})
		}
		holdWhole(t, b, d.below(9))
	}
}

func TestP20_3_LongTexts(t *testing.T) {
	c := full()
	c.Signature = strings.Repeat("s", 1<<16)
	c.Exts[1].Value = strings.Repeat("v", 70000)
	c.Entries = slices.Repeat(c.Entries, 300)
	b := encoded(c)
	holdTold(t, b, 7, api.OK, len(b))
	holdTold(t, b[:len(b)-1], 7, api.ErrCut, len(b)-1)
	holdTold(t, b+"\x00", 7, api.ErrMore, len(b))
}

func TestP20_4_WhatIsEncodedIsAList(t *testing.T) {
	for _, c := range lists() {
		b := encoded(c)
		holdTold(t, b, 7, api.OK, len(b))
	}
	d := dice(17)
	for range 1500 {
		b := encoded(d.list())
		holdTold(t, b, 7, api.OK, len(b))
	}
}

// TestP20_4_WhatStandsBehindPlaysNoPart lays other bytes behind each place of a text.
func TestP20_4_WhatStandsBehindPlaysNoPart(t *testing.T) {
	d := dice(19)
	for _, b := range cuts() {
		events := eventsOf(b)
		wants := answersOf(events)
		for at := range len(b) + 1 {
			other := b[:at] + one(&d, []string{"", "\x00\x00\x00", "\x30\x80\x80", "\xff\xff\xff", "\x05\x00\x05\x00"}) + b[at:]
			g := New()
			for i, e := range eventsOf(other) {
				if e.At >= at {
					break
				}
				holdPush(t, g, e, wants[i])
			}
			// And at once: what is wrong ahead is told alike.
			if all := tell(b, 64); all.at < at && all.err != api.OK && all.err != api.ErrCut {
				holdTold(t, other, 64, all.err, all.at)
			}
		}
	}
}
