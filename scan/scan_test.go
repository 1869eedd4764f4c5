package scan

import (
	"crypto/sha256"
	"math"
	"reflect"
	"runtime"
	"slices"
	"strings"
	"testing"

	"gantlet/api"
	"gantlet/encode"
	"gantlet/head"
	"gantlet/sha"
)

// wide is a configuration for which no short list is too great.
func wide(queries ...string) api.Config {
	return api.Config{Depth: api.MaxDepth, Cap: api.MaxCap, Element: api.MaxCap, Queries: queries}
}

// same tells whether two results are; no answers are the same, however a list says so.
func same(a, b api.Result) bool {
	if !slices.Equal(a.Answers, b.Answers) {
		return false
	}
	a.Answers, b.Answers = nil, nil
	return reflect.DeepEqual(a, b)
}

// start is a new scan; its configuration may be.
func start(t *testing.T, c api.Config) *Scan {
	s, err := New(c)
	if s == nil || err != api.OK {
		t.Helper()
		t.Fatalf("New(%v) = %v, error %d", c, s, err)
	}
	return s
}

// holdWhole compares what Whole tells with what it must. It ends the test, because most tests hold thousands of texts;
// Helper is called only then, because it takes far longer than what is compared.
func holdWhole(t *testing.T, c api.Config, b string, want told) {
	if result, err, at := Whole(c, b); !same(result, want.result) || err != want.err || at != want.at {
		t.Helper()
		t.Fatalf("Whole(%v, %x) = %+v, error %d at %d, want %+v, %d at %d", c, brief(b), result, err, at, want.result, want.err, want.at)
	}
}

// holdPush compares what a scan tells, byte by byte and at the end, with what it must.
func holdPush(t *testing.T, c api.Config, b string, want told) {
	s := start(t, c)
	for at := range len(b) {
		err := s.Push(b[at])
		if at == want.at && err == want.err && s.At() == at {
			break
		}
		if err != api.OK || at >= want.at || s.At() != at+1 {
			t.Helper()
			t.Fatalf("%v, %x: Push of byte %d tells error %d, At is %d, want %d at %d", c, brief(b), at, err, s.At(), want.err, want.at)
		}
	}
	holdEnd(t, s, want)
}

// holdEnd compares what a scan tells at the end with what it must.
func holdEnd(t *testing.T, s *Scan, want told) {
	if result, err := s.End(); !same(result, want.result) || err != want.err || s.At() != want.at {
		t.Helper()
		t.Fatalf("End() = %+v, error %d, At is %d, want %+v, %d at %d", result, err, s.At(), want.result, want.err, want.at)
	}
}

// holdWrong sees that a text is wrong just at a place, by Whole, by Push, and by the model.
func holdWrong(t *testing.T, c api.Config, b string, err api.Errno, at int) {
	want := told{err: err, at: at}
	if got := tell(c, b); !reflect.DeepEqual(got, want) {
		t.Helper()
		t.Fatalf("the model tells of %v, %x error %d at %d, want %d at %d", c, brief(b), got.err, got.at, err, at)
	}
	holdWhole(t, c, b, want)
	holdPush(t, c, b, want)
}

// hold compares all that is told of a text with the model, and answers that.
func hold(t *testing.T, c api.Config, b string) told {
	want := tell(c, b)
	holdWhole(t, c, b, want)
	holdPush(t, c, b, want)
	return want
}

// holdList sees that a list is right, and tells what was encoded; this by the list's values, and not by its bytes.
func holdList(t *testing.T, f api.Config, c api.Crl) {
	b := encoded(c)
	want := told{result: wantOf(c, f.Queries), at: len(b)}
	holdWhole(t, f, b, want)
	holdPush(t, f, b, want)
}

// wantOf is what a list must tell.
func wantOf(c api.Crl, queries []string) api.Result {
	tbs, _ := encode.Tbs(c)
	issuer, _ := encode.Name(c.Issuer)
	digest := sha256.Sum256([]byte(tbs))
	r := api.Result{Version2: c.Version2, Issuer: issuer, This: c.This, Next: c.Next, Count: len(c.Entries), Digest: string(digest[:])}
	for _, q := range queries {
		var a api.Answer
		if i := slices.IndexFunc(c.Entries, func(e api.Entry) bool { return e.Serial == q }); i >= 0 {
			a = api.Answer{Revoked: true, Date: c.Entries[i].Date}
		}
		r.Answers = append(r.Answers, a)
	}
	return r
}

// brief is a text's beginning.
func brief(b string) string { return b[:min(len(b), 400)] }

// come pushes bytes that aren't wrong.
func come(t *testing.T, s *Scan, b string) {
	for i := range len(b) {
		if err := s.Push(b[i]); err != api.OK {
			t.Helper()
			t.Fatalf("Push of byte %d of %x tells error %d", i, brief(b), err)
		}
	}
}

// holdSticky sees that a scan to which something wrong came tells that for ever, and nothing else happens.
func holdSticky(t *testing.T, s *Scan, want told, behind string) {
	for i := range len(behind) {
		if err := s.Push(behind[i]); err != want.err || s.At() != want.at {
			t.Helper()
			t.Fatalf("Push(%x) behind error %d tells %d, At is %d, want %d", behind[i], want.err, err, s.At(), want.at)
		}
	}
	holdEnd(t, s, want)
	holdEnd(t, s, want)
}

// allBytes are those that there are.
func allBytes() string {
	b := make([]byte, 256)
	for i := range b {
		b[i] = byte(i)
	}
	return string(b)
}

// askFor are all serial numbers that lists of these tests have, and some beside.
func askFor() []string {
	return []string{"\x05", "\x00\x80", "\x01", "\x06", "\x00", "\x80", "\x05\x00", "\x00\x80\x00", "\x05", strings.Repeat("\x11", 20)}
}

func TestP22_1_LimitsOfConfigurations(t *testing.T) {
	b := encoded(plain())
	depths := []int{math.MinInt, -64, -1, 0, 1, 2, 3, 63, 64, 65, 128, 1 << 32, 1<<32 + 1, math.MaxInt}
	sizes := []int{math.MinInt, -1 << 16, -1, 0, 1, 2, 65535, 65536, 65537, 1 << 17, 1 << 32, 1<<32 + 1, math.MaxInt}
	right := func(n, least, most int) bool { return n >= least && n <= most }
	for _, depth := range depths {
		for _, size := range sizes {
			for _, element := range sizes {
				c := api.Config{Depth: depth, Cap: size, Element: element}
				if right(depth, 1, 64) && right(size, 0, 65536) && right(element, 0, 65536) {
					s := start(t, c)
					holdEnd(t, s, told{err: api.ErrCut})
					hold(t, c, b)
					continue
				}
				holdCantBe(t, c)
			}
		}
	}
}

// holdCantBe sees that there is no scan of a configuration.
func holdCantBe(t *testing.T, c api.Config) {
	if s, err := New(c); s != nil || err != api.ErrRange {
		t.Helper()
		t.Fatalf("New(%v) = %v, error %d, want nil, %d", c, s, err, api.ErrRange)
	}
	for _, b := range []string{"", "\x30", "\x00", encoded(full()), "\x30\x80"} {
		if result, err, at := Whole(c, b); !same(result, api.Result{}) || err != api.ErrRange || at != 0 {
			t.Helper()
			t.Fatalf("Whole(%v, %x) = %+v, error %d at %d, want error %d at 0", c, b, result, err, at, api.ErrRange)
		}
	}
}

func TestP22_1_QueriesThatCantBe(t *testing.T) {
	wrong := []string{
		"", "\x00\x00", "\x00\x01", "\x00\x7f", "\xff\xff", "\xff\x80", strings.Repeat("\x00", 20), strings.Repeat("\xff", 20),
		strings.Repeat("\x11", 21), "\x00\x80" + strings.Repeat("\x00", 19), strings.Repeat("\x11", 300), "\x00\x7f" + strings.Repeat("\x11", 18),
	}
	for _, q := range wrong {
		holdCantBe(t, wide(q))
		for _, many := range []int{1, 2, 7, 63} {
			for _, at := range []int{0, many / 2, many} {
				holdCantBe(t, wide(slices.Insert(slices.Repeat([]string{"\x05"}, many), at, q)...))
			}
		}
	}
	for _, many := range []int{65, 66, 128, 1 << 16} {
		holdCantBe(t, wide(slices.Repeat([]string{"\x05"}, many)...))
	}
	// Wrong in both ways.
	holdCantBe(t, api.Config{Depth: 0, Cap: -1, Element: 65537, Queries: []string{""}})
	holdCantBe(t, api.Config{})
}

func TestP22_1_QueriesThatCanBe(t *testing.T) {
	for _, l := range [][]string{
		nil, {}, {"\x00"}, {"\x7f"}, {"\x80"}, {"\xff"}, {"\x00\x80"}, {"\xff\x7f"}, {strings.Repeat("\x11", 20)}, {"\x00\x80" + strings.Repeat("\x00", 18)},
		askFor(), slices.Repeat([]string{"\x05"}, 63), slices.Repeat([]string{"\x05"}, 64),
	} {
		for _, c := range fewLists() {
			holdList(t, wide(l...), c)
		}
	}
}

func TestP22_1_TheConfigurationIsNotKept(t *testing.T) {
	queries := askFor()
	s := start(t, wide(queries...))
	b := encoded(full())
	for at := range len(b) {
		queries[at%len(queries)] = "\x06"
		come(t, s, b[at:at+1])
	}
	holdEnd(t, s, told{result: wantOf(full(), askFor()), at: len(b)})
}

func TestP22_1_TheConfigurationStaysAsItIs(t *testing.T) {
	for _, b := range []string{encoded(full()), encoded(full()) + "x", "\x30\x80", ""} {
		room := append(askFor(), "spare", "\x05")
		again := slices.Clone(room)
		c := wide(room[:len(askFor())]...)
		s := start(t, c)
		for at := range len(b) {
			s.Push(b[at])
		}
		s.End()
		Whole(c, b)
		if !slices.Equal(room, again) {
			t.Fatalf("the queries are %x, they were %x", room, again)
		}
	}
}

func TestP22_1_ScansKnowNothingOfEachOther(t *testing.T) {
	l := fewLists()
	var scans []*Scan
	for range 2 {
		for range l {
			scans = append(scans, start(t, wide(askFor()...)))
		}
	}
	wrong := start(t, wide())
	for at := range 1000 {
		for i, s := range scans {
			if b := encoded(l[i%len(l)]); at < len(b) {
				come(t, s, b[at:at+1])
			}
		}
		wrong.Push(0x80)
	}
	for i, s := range scans {
		holdEnd(t, s, told{result: wantOf(l[i%len(l)], askFor()), at: len(encoded(l[i%len(l)]))})
	}
}

func TestP22_2_ExamplesOfTheChapterAndOfTheWhole(t *testing.T) {
	c := plain()
	c.Entries = []api.Entry{{Serial: "\x05", Date: "20230101000000"}}
	r, err, _ := Whole(wide("\x05"), encoded(c))
	if err != api.OK || r.Count != 1 || len(r.Answers) != 1 || r.Answers[0] != (api.Answer{Revoked: true, Date: "20230101000000"}) {
		t.Fatalf("error %d, %+v", err, r)
	}
	for _, l := range []struct {
		b   string
		err api.Errno
		at  int
	}{
		{"", api.ErrCut, 0},
		{"\x30", api.ErrCut, 1},
		{"\x30\x80", api.ErrLength, 1},
		{"\x30\x80\x00\x00\x00", api.ErrLength, 1},
		{"\x02\x02\x00\x05", api.ErrGrammar, 1},
		{"\x30\x05\x30\x03\x02\x01\x02", api.ErrGrammar, 6},
		{"\x30\x00", api.ErrGrammar, 1},
		{"\x02\x01\x01", api.ErrGrammar, 1},
		{"\x01\x02", api.ErrValue, 1},
		{"\x24\x00", api.ErrValue, 1},
		{"\x10\x00", api.ErrValue, 1},
		{"\x1f\x1e", api.ErrTag, 1},
		{"\x30\x02\x02\x01", api.ErrFit, 3},
	} {
		holdWrong(t, wide(), l.b, l.err, l.at)
	}
	// A UTCTime of 29 February 2023 is wrong with its sixth byte.
	n := listNode(plain())
	p := n.find(11)
	holdWrong(t, wide(), n.put(p, leaf(11, 23, "230229000000Z")).bytes(), api.ErrValue, n.from(p)+2+5)
}

// TestP22_2_AListWrittenOut has a list whose bytes stand here, digit by digit.
func TestP22_2_AListWrittenOut(t *testing.T) {
	issuer := "\x30\x0c\x31\x0a\x30\x08\x06\x03\x55\x04\x03\x0c\x01a"
	ahead := "\x02\x01\x01" + "\x30\x05\x06\x01\x2a\x05\x00" + issuer + "\x17\x0d240229235959Z" + "\x18\x0f20500101000000Z"
	first := "\x30\x12\x02\x01\x05\x17\x0d500101000000Z"
	// A time that is too short, of either kind, is wrong with its length.
	b := "\x30\x6f\x30\x60" + ahead + "\x30\x26" + first + "\x30\x10\x02\x02\x00\x80\x17\x0a"
	holdWrong(t, wide(), b+"2402292359", api.ErrValue, len(b)-1)
	b = "\x30\x70\x30\x61" + ahead + "\x30\x27" + first + "\x30\x11\x02\x02\x00\x80\x18\x0b"
	holdWrong(t, wide(), b+"99991231235", api.ErrValue, len(b)-1)
	tbs := "\x30\x65" + ahead + "\x30\x2b" + first + "\x30\x15\x02\x02\x00\x80\x18\x0f99991231235959Z"
	b = "\x30\x74" + tbs + "\x30\x05\x06\x01\x2a\x05\x00" + "\x03\x04\x00xyz"
	want := api.Result{
		Version2: true, Issuer: issuer, This: "20240229235959", Next: "20500101000000", Count: 2, Digest: sha.Sum(tbs),
		Answers: []api.Answer{{Revoked: true, Date: "99991231235959"}, {}, {Revoked: true, Date: "19500101000000"}},
	}
	c := wide("\x00\x80", "\x00", "\x05")
	if got := tell(c, b); !same(got.result, want) {
		t.Fatalf("the model tells %+v, error %d at %d", got.result, got.err, got.at)
	}
	holdWhole(t, c, b, told{result: want, at: len(b)})
	holdPush(t, c, b, told{result: want, at: len(b)})
}

func TestP22_2_ListsOfBothVersions(t *testing.T) {
	for _, c := range lists() {
		b := encoded(c)
		if n := listNode(c); n.bytes() != b {
			t.Fatalf("the test's own bytes of %v are %x, want %x", c, n.bytes(), b)
		}
		holdList(t, wide(askFor()...), c)
		if got := hold(t, wide(askFor()...), b); got.err != api.OK {
			t.Fatalf("the model tells error %d of %x", got.err, b)
		}
	}
}

func TestP22_2_ThrownLists(t *testing.T) {
	d := dice(22)
	for range 1500 {
		c := d.list()
		var queries []string
		for _, e := range c.Entries {
			if len(e.Serial) <= 20 && d.below(2) == 0 {
				queries = append(queries, e.Serial)
			}
		}
		for range d.below(4) {
			queries = append(queries, one(&d, askFor()))
		}
		holdList(t, wide(queries...), c)
	}
}

func TestP22_2_DatesOfBothKinds(t *testing.T) {
	dates := []string{
		"19500101000000", "19991231235959", "20000101000000", "20000229120000", "20491231235959", "20500101000000", "20500228000000", "99991231235959",
	}
	for _, date := range dates {
		for _, later := range append(dates, "") {
			c := full()
			c.This, c.Next = date, later
			for i := range c.Entries {
				c.Entries[i].Date = later
				if i%2 == 0 || later == "" {
					c.Entries[i].Date = date
				}
			}
			holdList(t, wide(askFor()...), c)
		}
	}
	// The earlier one may stand behind the later one.
	n := listNode(full())
	m := n.put(n.find(12), timeNode(12, "19500101000000"))
	if got := hold(t, wide(), m.bytes()); got.result.Next != "19500101000000" || got.result.This != full().This {
		t.Fatalf("%+v, error %d at %d", got.result, got.err, got.at)
	}
}

func TestP22_2_AnswersOfEntries(t *testing.T) {
	long, longer := strings.Repeat("\x11", 20), strings.Repeat("\x11", 21)
	serials := []string{"\x05", "\x06", "\x05", "\x00\x80", "\x05\x05", longer, "\x80", strings.Repeat("\x11", 300), long, "\x05", longer, long, "\x00\x80"}
	c := plain()
	for i, serial := range serials {
		c.Entries = append(c.Entries, api.Entry{Serial: serial, Date: "20240101" + strings.Repeat("0", 4) + string([]byte{'0' + byte(i/10), '0' + byte(i%10)})})
	}
	queries := []string{"\x05", "\x06", "\x05", "\x00\x80", "\x05\x05", long, "\x80", "\x00", "\x11", "\x05\x00", "\x05\x05\x05", long[1:]}
	// Each beginning of the entries, and each ending.
	for from := range c.Entries {
		for to := from; to <= len(c.Entries); to++ {
			l := c
			l.Entries = c.Entries[from:to]
			holdList(t, wide(queries...), l)
		}
	}
}

func TestP22_2_TheFirstDateStays(t *testing.T) {
	dates := []string{"20240101000000", "20230101000000", "20500101000000"}
	for i, first := range dates {
		for j, second := range dates {
			c := full()
			c.Entries = []api.Entry{{Serial: "\x06", Date: dates[(i+j)%3]}, {Serial: "\x05", Date: first}, {Serial: "\x05", Date: second}}
			r, err, _ := Whole(wide("\x05"), encoded(c))
			if err != api.OK || len(r.Answers) != 1 || r.Answers[0] != (api.Answer{Revoked: true, Date: first}) || r.Count != 3 {
				t.Fatalf("%+v, error %d, want %s", r, err, first)
			}
		}
	}
}

// TestP22_2_AnythingIsNoOtherPart has algorithms with parameters that look like other parts of a list.
func TestP22_2_AnythingIsNoOtherPart(t *testing.T) {
	b, a := attributeNode(attr(12, "b")), attributeNode(attr(12, "a"))
	turned := seq(7, setOf(b, a), setOf(b, b, a))
	great := seq(7, setOf(attributeNode(attr(12, strings.Repeat("x", 300)))))
	other := listNode(full())
	for _, c := range []api.Crl{plain(), older(), full()} {
		n := listNode(c)
		f := api.Config{Depth: 12, Cap: len(n.at(n.find(7)).bytes()), Element: 200, Queries: askFor()}
		want := wantOf(c, f.Queries)
		for _, k := range append(samples(), turned, great, other, other.in[0], setOf(b, a), setOf(great)) {
			outer := n.put(path{1}, algorithmNode(c.Alg, k))
			for _, m := range []node{outer, n.put(n.find(4), algorithmNode(c.Alg, k)), outer.put(n.find(4), algorithmNode(c.Alg, k, k)), n.put(path{1}, algorithmNode(c.Alg))} {
				got := hold(t, f, m.bytes())
				if got.err == api.OK {
					want.Digest = sha.Sum(m.in[0].bytes())
					if !same(got.result, want) {
						t.Fatalf("%x tells %+v, want %+v", m.bytes(), got.result, want)
					}
				}
			}
			if k.part != 0 {
				// Neither of them is wrong in any content, and so the list isn't.
				if got := tell(f, outer.bytes()); got.err != api.OK {
					t.Fatalf("%x tells error %d at %d", outer.bytes(), got.err, got.at)
				}
			}
		}
	}
	// What stands in an extension's value, or in the signature, is no element at all.
	c := full()
	c.Exts[0].Value, c.Entries[2].Exts[0].Value, c.Signature = turned.bytes(), other.bytes(), other.bytes()
	holdList(t, wide(askFor()...), c)
}

// TestP22_2_CutOffAnywhere asks for the end ahead of each byte: nothing comes of that.
func TestP22_2_CutOffAnywhere(t *testing.T) {
	for _, c := range []api.Crl{plain(), older(), small(), full()} {
		b := encoded(c)
		s := start(t, wide(askFor()...))
		for at := range len(b) {
			cut := told{err: api.ErrCut, at: at}
			holdWhole(t, wide(askFor()...), b[:at], cut)
			holdEnd(t, s, cut)
			holdEnd(t, s, cut)
			come(t, s, b[at:at+1])
		}
		holdEnd(t, s, told{result: wantOf(c, askFor()), at: len(b)})
	}
}

func TestP22_2_TheEndTwiceAndMoreBehind(t *testing.T) {
	for _, c := range fewLists() {
		b := encoded(c)
		for more := range 256 {
			s := start(t, wide(askFor()...))
			come(t, s, b)
			right := told{result: wantOf(c, askFor()), at: len(b)}
			for range more % 3 {
				holdEnd(t, s, right)
			}
			if err := s.Push(byte(more)); err != api.ErrMore {
				t.Fatalf("Push(%x) behind a list tells error %d", more, err)
			}
			holdSticky(t, s, told{err: api.ErrMore, at: len(b)}, "\x00\x30"+b)
			holdWrong(t, wide(), b+string([]byte{byte(more)})+b[:more%len(b)], api.ErrMore, len(b))
		}
		holdWrong(t, wide(), b+b, api.ErrMore, len(b))
	}
}

func TestP22_2_AnswersAreNewMemory(t *testing.T) {
	s := start(t, wide(askFor()...))
	b := encoded(full())
	come(t, s, b)
	want := told{result: wantOf(full(), askFor()), at: len(b)}
	first, _ := s.End()
	second, _ := s.End()
	first.Answers[0].Date, first.Answers[1] = "spoilt", api.Answer{}
	if !same(second, want.result) {
		t.Fatalf("one answer spoils another one: %+v", second)
	}
	first.Answers = append(first.Answers[:0], make([]api.Answer, cap(first.Answers))...)
	holdEnd(t, s, want)
}

// wrongText is a text that is wrong, for a configuration, and where.
type wrongText struct {
	c  api.Config
	b  string
	at int
}

// spoilt are wrong texts, one for each error that a byte can have.
func spoilt() map[api.Errno]wrongText {
	n := listNode(full())
	name, version, this := n.from(n.find(7)), n.from(n.find(3)), n.from(n.find(11))
	narrow, flat := wide(), wide()
	narrow.Cap, flat.Depth = 20, 2
	p := n.find(8)
	turned := n.put(p, setOf(n.at(p).in[1], n.at(p).in[0]))
	with := func(at int, b string) string { return n.bytes()[:at] + b + n.bytes()[at+len(b):] }
	return map[api.Errno]wrongText{
		api.ErrTag:     {wide(), with(version, "\x1f\x1e"), version + 1},
		api.ErrLength:  {wide(), with(version, "\x02\x80"), version + 1},
		api.ErrFit:     {wide(), with(version, "\x02\x82\x7f\xff"), version + 3},
		api.ErrMore:    {wide(), n.bytes() + "\x00", len(n.bytes())},
		api.ErrValue:   {wide(), with(this+2, "x"), this + 2},
		api.ErrGrammar: {wide(), with(version+2, "\x00"), version + 2},
		api.ErrOrder:   {wide(), turned.bytes(), turned.from(append(slices.Clone(p), 1)) + len(n.at(p).in[0].bytes()) - 1},
		api.ErrDepth:   {flat, n.bytes(), n.from(n.find(4)) + 1},
		api.ErrCap:     {narrow, n.bytes(), name + 20},
	}
}

func TestP22_2_OnceWrongItStaysSo(t *testing.T) {
	right := encoded(full())
	for err, l := range spoilt() {
		holdWrong(t, l.c, l.b, err, l.at)
		for _, behind := range []string{l.b[l.at+1:], right, right[min(l.at, len(right)):], allBytes(), "\x30\x00"} {
			s := start(t, l.c)
			come(t, s, l.b[:l.at])
			if got := s.Push(l.b[l.at]); got != err {
				t.Fatalf("Push tells error %d, want %d", got, err)
			}
			holdSticky(t, s, told{err: err, at: l.at}, behind)
		}
	}
}

// TestP22_2_EachByteChanged changes each byte of a list into each other one.
func TestP22_2_EachByteChanged(t *testing.T) {
	c := small()
	n := listNode(c)
	f := api.Config{Depth: 6, Cap: len(n.at(n.find(7)).bytes()), Element: 8, Queries: []string{"\x05"}}
	b := n.bytes()
	seen := map[api.Errno]int{}
	for at := range len(b) {
		for other := range 256 {
			got := hold(t, f, b[:at]+string([]byte{byte(other)})+b[at+1:])
			seen[got.err]++
		}
	}
	for _, err := range []api.Errno{api.OK, api.ErrTag, api.ErrLength, api.ErrFit, api.ErrValue, api.ErrGrammar, api.ErrOrder, api.ErrDepth, api.ErrCut} {
		if seen[err] == 0 {
			t.Errorf("none of these tells error %d", err)
		}
	}
}

// TestP22_2_EachByteOfALongerListChanged changes each byte into some that are near it, or edges.
func TestP22_2_EachByteOfALongerListChanged(t *testing.T) {
	for _, c := range []api.Crl{full(), older()} {
		b := encoded(c)
		for at := range len(b) {
			for _, other := range []byte{b[at] + 1, b[at] - 1, b[at] ^ 0x20, b[at] ^ 0x80, 0x00, 0x30, 0x80, 0xff} {
				hold(t, wide("\x05", "\x06", "\x04"), b[:at]+string([]byte{other})+b[at+1:])
			}
		}
	}
}

// TestP22_2_OtherElementsInEachPlace puts others in the place of each element of a list, ahead of it, and behind it.
func TestP22_2_OtherElementsInEachPlace(t *testing.T) {
	for _, n := range []node{listNode(small()), listNode(plain())} {
		for _, p := range n.paths() {
			behind := slices.Clone(p)
			behind[len(p)-1]++
			hold(t, wide("\x05"), n.splice(p, 1).bytes())
			for _, k := range samples() {
				hold(t, wide("\x05"), n.splice(p, 1, k).bytes())
				hold(t, wide("\x05"), n.splice(p, 0, k).bytes())
				hold(t, wide("\x05"), n.splice(behind, 0, k).bytes())
			}
		}
	}
}

// tooDeep is the place of the last byte of the first head that makes more elements open than can be; -1: none does.
func tooDeep(n node, depth int) int {
	for _, p := range append([]path{{}}, n.paths()...) {
		if n.at(p).cons && len(p) >= depth {
			return n.from(p) + n.at(p).ahead() - 1
		}
	}
	return -1
}

func TestP22_2_DepthJustAsGreatAndOneLess(t *testing.T) {
	l := lists()
	// Heads with longer lengths: of each constructed element within each other.
	long := full()
	long.Entries[3].Exts[0].Value = strings.Repeat("v", 300)
	l = append(l, long)
	for _, c := range l {
		n := listNode(c)
		f := wide(askFor()...)
		need := 64
		for depth := 64; depth > 0; depth-- {
			f.Depth = depth
			if at := tooDeep(n, depth); at >= 0 {
				holdWrong(t, f, n.bytes(), api.ErrDepth, at)
				continue
			}
			need = depth
			holdList(t, f, c)
		}
		if need < 3 || need > 6 {
			t.Fatalf("the test's own depth of %v is %d", c, need)
		}
	}
}

// TestP22_2_DepthOfAnything has parameters that are deeper than any other part.
func TestP22_2_DepthOfAnything(t *testing.T) {
	for levels := 1; levels < 70; levels++ {
		k := node{part: 6, class: 1, tag: 5, cons: true}
		for range levels - 1 {
			k = seq(6, k)
		}
		// In the second algorithm, which stands in the list itself.
		n := listNode(plain()).put(path{1}, algorithmNode([]uint64{1, 2}, k))
		for _, depth := range []int{levels - 1, levels + 1, levels + 2, levels + 3, 64} {
			f := wide()
			f.Depth = max(1, min(depth, 64))
			if at := tooDeep(n, f.Depth); at >= 0 {
				holdWrong(t, f, n.bytes(), api.ErrDepth, at)
			} else if got := hold(t, f, n.bytes()); got.err != api.OK {
				t.Fatalf("%d levels: error %d at %d", levels, got.err, got.at)
			}
		}
	}
}

// named is a list with a name of one attribute, whose text has so many bytes.
func named(text int) api.Crl {
	c := small()
	c.Issuer = [][]api.Attr{{attr(12, strings.Repeat("n", text))}}
	return c
}

// capPlace is the byte that is the first too much of an element that may have so many bytes; -1: none is.
func capPlace(n node, p path, most int) int {
	k := n.at(p)
	if len(k.bytes()) <= most {
		return -1
	}
	return n.from(p) + max(k.ahead()-1, most)
}

func TestP22_2_CapJustAsGreatAndLess(t *testing.T) {
	l := append(lists(), named(0), named(100), named(111), named(112), named(113), named(126), named(127), named(128), named(250), named(300))
	for _, c := range l {
		n := listNode(c)
		p := n.find(7)
		size := len(n.at(p).bytes())
		for most := range size + 3 {
			f := wide(askFor()...)
			f.Cap = most
			if at := capPlace(n, p, most); at >= 0 {
				holdWrong(t, f, n.bytes(), api.ErrCap, at)
			} else if most != size+1 {
				holdList(t, f, c)
			}
		}
	}
}

func TestP22_2_ElementJustAsGreatAndLess(t *testing.T) {
	l := append(lists(), named(0), named(100), named(118), named(119), named(120), named(127), named(128), named(250), named(260))
	for _, c := range l {
		n := listNode(c)
		attributes := n.all(9)
		greatest := 0
		for _, p := range attributes {
			greatest = max(greatest, len(n.at(p).bytes()))
		}
		for most := range greatest + 3 {
			f := wide(askFor()...)
			f.Element = most
			first := -1
			for _, p := range attributes {
				if first = capPlace(n, p, most); first >= 0 {
					break
				}
			}
			if first >= 0 {
				holdWrong(t, f, n.bytes(), api.ErrCap, first)
			} else if most != greatest+1 {
				holdList(t, f, c)
			}
		}
	}
}

// TestP22_2_AllLimitsAtOnce gives each list just what it needs, and of each one less.
func TestP22_2_AllLimitsAtOnce(t *testing.T) {
	for _, c := range lists() {
		n := listNode(c)
		f := api.Config{Depth: 6, Cap: len(n.at(n.find(7)).bytes()), Queries: askFor()}
		for _, p := range n.all(9) {
			f.Element = max(f.Element, len(n.at(p).bytes()))
		}
		for tooDeep(n, f.Depth-1) < 0 {
			f.Depth--
		}
		holdList(t, f, c)
		for _, less := range []api.Config{{Depth: 1}, {Cap: 1}, {Element: 1}, {Depth: 1, Cap: 1}, {Depth: 1, Element: 1}, {Cap: 1, Element: 1}, {Depth: 1, Cap: 1, Element: 1}} {
			l := f
			l.Depth, l.Cap, l.Element = f.Depth-less.Depth, f.Cap-less.Cap, max(f.Element-less.Element, 0)
			if got := hold(t, l, n.bytes()); got.err == api.OK && f.Element > 0 {
				t.Fatalf("%v: nothing is wrong with %x", l, n.bytes())
			}
		}
	}
}

// vast are the heads of a list, of what is signed, the algorithm, and the heads of a name, of a set in it, and of an
// attribute in that, all of which say that very many bytes come, and the place of each.
func vast(t *testing.T) (string, []int) {
	b := ""
	var from []int
	add := func(tag, bits int) {
		from = append(from, len(b))
		h, err := head.Put(api.Head{Tag: tag, Cons: true, Len: 1 << bits})
		if err != api.OK || len(h) != 2+(bits+8)/8 {
			t.Fatalf("the test's own head is %x, error %d", h, err)
		}
		b += h
	}
	add(16, 60)
	add(16, 59)
	b += "\x30\x05\x06\x01\x2a\x05\x00"
	add(16, 58)
	add(17, 57)
	add(16, 56)
	return b, from
}

// TestP22_2_LenPlaysNoPart has heads that say more than any limit is: it is bytes that are too many, and not before the
// head is whole.
func TestP22_2_LenPlaysNoPart(t *testing.T) {
	b, from := vast(t)
	name, attribute := from[2], from[4]
	text, err := head.Put(api.Head{Tag: 12, Len: 1 << 55})
	if err != api.OK {
		t.Fatal(err)
	}
	b += "\x06\x03\x55\x04\x03" + text + strings.Repeat("t", 100)
	for most := range 80 {
		f := wide()
		f.Cap = most
		holdWrong(t, f, b, api.ErrCap, name+max(9, most))
		holdWrong(t, f, b[:name+9], api.ErrCut, name+9)
		holdWrong(t, f, b[:name+max(9, most)], api.ErrCut, name+max(9, most))
		f = wide()
		f.Element = most
		holdWrong(t, f, b, api.ErrCap, attribute+max(9, most))
		holdWrong(t, f, b[:attribute+9], api.ErrCut, attribute+9)
		holdWrong(t, f, b[:attribute+max(9, most)], api.ErrCut, attribute+max(9, most))
	}
	holdWrong(t, wide(), b, api.ErrCut, len(b))
	// Whichever is passed first.
	f := api.Config{Depth: 5, Cap: attribute - name + 20, Element: 20}
	holdWrong(t, f, b, api.ErrCap, attribute+20)
	f.Element = 21
	holdWrong(t, f, b, api.ErrCap, attribute+20)
	f.Cap++
	holdWrong(t, f, b, api.ErrCap, attribute+21)
	// What is signed, the algorithm in that, the set, the attribute.
	for i, at := range []int{from[1] + 9, from[1] + 11, from[3] + 9, from[4] + 9} {
		f := wide()
		f.Depth = i + 1
		holdWrong(t, f, b, api.ErrDepth, at)
		holdWrong(t, f, b[:at], api.ErrCut, at)
	}
}

// TestP22_2_LimitsWithinInnerHeads sees that each byte of a name, or an attribute, counts, those of heads in it too.
func TestP22_2_LimitsWithinInnerHeads(t *testing.T) {
	c := plain()
	c.Issuer = [][]api.Attr{{attr(12, strings.Repeat("a", 200)), attr(19, strings.Repeat("b", 200))}, {attr(22, strings.Repeat("c", 300))}}
	n := listNode(c)
	name, first := n.find(7), n.find(9)
	inHeads := map[int]bool{}
	for _, p := range n.paths() {
		for i := range n.at(p).ahead() - 1 {
			inHeads[n.from(p)+i] = true
		}
	}
	within := 0
	for most := range len(n.at(name).bytes()) {
		f := wide()
		f.Cap = most
		at := capPlace(n, name, most)
		holdWrong(t, f, n.bytes(), api.ErrCap, at)
		if inHeads[at] {
			within++
		}
	}
	for most := range len(n.at(first).bytes()) {
		f := wide()
		f.Element = most
		at := capPlace(n, first, most)
		holdWrong(t, f, n.bytes(), api.ErrCap, at)
		if inHeads[at] {
			within++
		}
	}
	if within < 20 {
		t.Fatalf("%d of these are within a head that isn't whole", within)
	}
}

// orders are all orders of a list.
func orders[T any](l []T) [][]T {
	if len(l) == 0 {
		return [][]T{nil}
	}
	var all [][]T
	for i := range l {
		rest := slices.Delete(slices.Clone(l), i, i+1)
		for _, o := range orders(rest) {
			all = append(all, append([]T{l[i]}, o...))
		}
	}
	return all
}

func TestP22_2_OrderOfAttributes(t *testing.T) {
	attrs := []api.Attr{attr(12, "a"), attr(12, "b"), attr(12, "aa"), attr(22, "a"), {Oid: []uint64{1, 2}, Tag: 12, Text: "zz"}}
	n := listNode(full())
	// As the first set, in the middle, and as the last one; the others are right.
	for _, p := range n.all(8) {
		for many := range len(attrs) + 1 {
			for _, l := range orders(attrs[:many]) {
				if many == 0 {
					continue
				}
				k := setOf()
				for _, a := range l {
					k.in = append(k.in, attributeNode(a))
				}
				m := n.put(p, k)
				wrong := -1
				for i := len(k.in) - 1; i > 0; i-- {
					// None of these is the beginning of another one.
					if k.in[i].bytes() < k.in[i-1].bytes() {
						wrong = m.from(append(slices.Clone(p), i)) + len(k.in[i].bytes()) - 1
					}
				}
				if wrong >= 0 {
					holdWrong(t, wide(), m.bytes(), api.ErrOrder, wrong)
				} else if got := hold(t, wide(), m.bytes()); got.err != api.OK || got.result.Issuer != m.at(m.find(7)).bytes() {
					t.Fatalf("%x: error %d at %d", m.bytes(), got.err, got.at)
				}
			}
		}
	}
}

func TestP22_2_OrderIsOfOneSetAlone(t *testing.T) {
	a, b, z := attributeNode(attr(12, "a")), attributeNode(attr(12, "b")), attributeNode(attr(12, "zzz"))
	n := listNode(full())
	p := n.find(7)
	// Each set begins anew, and the same attribute may stand twice.
	for _, sets := range [][]node{
		{setOf(b), setOf(a)}, {setOf(z), setOf(b), setOf(a)}, {setOf(a, b), setOf(a, b)}, {setOf(b, z), setOf(a, z), setOf(a)},
		{setOf(a, a)}, {setOf(a, a, b, b, z, z)}, {setOf(z), setOf(a, a)},
	} {
		if got := hold(t, wide(), n.put(p, seq(7, sets...)).bytes()); got.err != api.OK {
			t.Fatalf("%v: error %d at %d", sets, got.err, got.at)
		}
	}
	// The wrong one is told with its last byte, in whichever set it stands.
	for _, sets := range [][]node{
		{setOf(b, a)}, {setOf(a, b), setOf(b, a)}, {setOf(a), setOf(b), setOf(a, z, b)}, {setOf(b, a), setOf(b, a)},
		{setOf(a, b, a)}, {setOf(a, a, z, a), setOf(a)}, {setOf(z, a, z)},
	} {
		m := n.put(p, seq(7, sets...))
		at := -1
		for i, s := range sets {
			for j := 1; j < len(s.in) && at < 0; j++ {
				if s.in[j].bytes() < s.in[j-1].bytes() {
					at = m.from(slices.Concat(p, path{i, j})) + len(s.in[j].bytes()) - 1
				}
			}
		}
		holdWrong(t, wide(), m.bytes(), api.ErrOrder, at)
		// The byte ahead tells nothing yet.
		holdWrong(t, wide(), m.bytes()[:at], api.ErrCut, at)
	}
}

// TestP22_2_TwoThingsWithOneByte sees which of two reasons is told.
func TestP22_2_TwoThingsWithOneByte(t *testing.T) {
	n := listNode(full())
	name := n.find(7)
	last := n.at(name).in[2]
	turned := n.put(name, seq(7, setOf(last.in[1], last.in[0])))
	at := turned.from(name) + len(turned.at(name).bytes()) - 1
	f := wide()
	holdWrong(t, f, turned.bytes(), api.ErrOrder, at)
	// The name is too long with the byte with which an attribute is over that comes first: the limit is ahead of order.
	f.Cap = len(turned.at(name).bytes()) - 1
	holdWrong(t, f, turned.bytes(), api.ErrCap, at)
	// Nothing comes behind the name in what is signed: grammar is ahead of both.
	cut := turned.put(path{0}, seq(2, turned.in[0].in[:3]...))
	at = cut.from(name) + len(cut.at(name).bytes()) - 1
	holdWrong(t, f, cut.bytes(), api.ErrGrammar, at)
	f.Cap++
	holdWrong(t, f, cut.bytes(), api.ErrGrammar, at)
	f.Cap, f.Element = 0, 0
	empty := n.put(path{0}, seq(2, n.in[0].in[0], n.in[0].in[1], seq(7)))
	holdWrong(t, f, empty.bytes(), api.ErrGrammar, empty.from(name)+1)
	// An attribute of no parts.
	f = wide()
	f.Element = 0
	bare := n.put(n.find(9), seq(9))
	at = bare.from(n.find(9)) + 1
	holdWrong(t, f, bare.bytes(), api.ErrGrammar, at)
	f.Element, f.Cap = api.MaxCap, at-bare.from(name)
	holdWrong(t, f, bare.bytes(), api.ErrGrammar, at)
	// A set of none.
	f.Cap = 3
	bare = n.put(name, seq(7, setOf()))
	holdWrong(t, f, bare.bytes(), api.ErrGrammar, bare.from(name)+3)
}

// TestP22_2_WrongBytesAtALimit changes a byte at which a limit is passed into each other one.
func TestP22_2_WrongBytesAtALimit(t *testing.T) {
	n := listNode(small())
	b := n.bytes()
	seen := map[api.Errno]int{}
	for _, limit := range []struct {
		p    path
		with func(most int) api.Config
	}{
		{n.find(7), func(most int) api.Config { f := wide(); f.Cap = most; return f }},
		{n.all(9)[0], func(most int) api.Config { f := wide(); f.Element = most; return f }},
		{n.all(9)[1], func(most int) api.Config { f := wide(); f.Element = most; return f }},
	} {
		from := n.from(limit.p)
		for most := 1; most < len(n.at(limit.p).bytes()); most++ {
			for change := range 2 * 256 {
				// The byte itself, or the one ahead.
				at := from + most - change/256
				m := b[:at] + string([]byte{byte(change)}) + b[at+1:]
				got, free := hold(t, limit.with(most), m), tell(wide(), m)
				if free.at == from+most && free.err != api.OK && free.err != api.ErrOrder && got.err != free.err && got.at == free.at {
					t.Fatalf("%x tells error %d at %d, want %d", m, got.err, got.at, free.err)
				}
				if got.at == from+most {
					seen[got.err]++
				}
			}
		}
	}
	for _, err := range []api.Errno{api.ErrCap, api.ErrValue, api.ErrGrammar, api.ErrLength, api.ErrTag, api.ErrFit} {
		if seen[err] == 0 {
			t.Errorf("none of these tells error %d at the limit", err)
		}
	}
}

func TestP22_2_TheMachineAheadOfAll(t *testing.T) {
	flat := wide()
	flat.Depth = 1
	for _, l := range []struct {
		c   api.Config
		b   string
		err api.Errno
		at  int
	}{
		// What isn't the part that comes, or can't be at all, is too deep before that.
		{flat, "\x30\x05\x31\x00", api.ErrDepth, 3},
		{wide(), "\x30\x05\x31\x00", api.ErrGrammar, 3},
		{flat, "\x30\x05\x24\x00", api.ErrDepth, 3},
		{wide(), "\x30\x05\x24\x00", api.ErrValue, 3},
		{flat, "\x30\x05\x02\x00", api.ErrValue, 3},
		{flat, "\x30\x05\x02\x01", api.ErrGrammar, 3},
		// A length that is none, or doesn't fit, is told before all else.
		{flat, "\x30\x05\x31\x80", api.ErrLength, 3},
		{flat, "\x30\x05\x31\x04", api.ErrFit, 3},
		{flat, "\x30\x05\x24\x04", api.ErrFit, 3},
		{wide(), "\x30\x05\x02\x04", api.ErrFit, 3},
		{wide(), "\x30\x05\x1f\x1e", api.ErrTag, 3},
		// No value and no part: value's first.
		{wide(), "\x24\x02", api.ErrValue, 1},
		{wide(), "\x01\x00", api.ErrValue, 1},
		{wide(), "\x21\x00", api.ErrValue, 1},
		{wide(), "\x31\x00", api.ErrGrammar, 1},
		{wide(), "\xa0\x00", api.ErrGrammar, 1},
	} {
		holdWrong(t, l.c, l.b, l.err, l.at)
	}
	n := listNode(full())
	// A set that is too deep with the byte that is too much for the name.
	f := api.Config{Depth: 3, Cap: 3, Element: 0}
	holdWrong(t, f, n.bytes(), api.ErrDepth, n.from(n.find(8))+1)
	f.Depth, f.Cap = 4, 5
	holdWrong(t, f, n.bytes(), api.ErrDepth, n.from(n.find(9))+1)
	f.Depth, f.Cap = 5, 6
	holdWrong(t, f, n.bytes(), api.ErrCap, n.from(n.find(9))+1)
}

// TestP22_2_ThrownTexts has lists that are spoilt by elements and by bytes, with limits that are thrown too.
func TestP22_2_ThrownTexts(t *testing.T) {
	d := dice(2202)
	seen := map[api.Errno]int{}
	for range 12000 {
		n := listNode(d.list())
		f := d.config(n)
		if d.below(3) == 0 {
			n = d.spoil(n)
		}
		if l := n.all(9); len(l) > 1 && d.below(2) == 0 {
			n = d.turn(n, one(&d, l))
		}
		b := n.bytes()
		if d.below(3) == 0 {
			b = d.change(b)
		}
		seen[hold(t, f, b).err]++
	}
	for _, err := range []api.Errno{api.OK, api.ErrCut, api.ErrTag, api.ErrLength, api.ErrFit, api.ErrMore, api.ErrValue, api.ErrGrammar, api.ErrOrder, api.ErrDepth, api.ErrCap} {
		if seen[err] == 0 {
			t.Errorf("none of these tells error %d", err)
		}
	}
}

// TestP22_2_ShortTexts has all texts of at most two bytes, and longer ones of edge bytes.
func TestP22_2_ShortTexts(t *testing.T) {
	f := api.Config{Depth: 2, Cap: 1, Element: 1}
	hold(t, f, "")
	for first := range 256 {
		hold(t, f, string([]byte{byte(first)}))
		for second := range 256 {
			hold(t, f, string([]byte{byte(first), byte(second)}))
		}
	}
	edges := "\x00\x01\x02\x05\x06\x30\x31\x80\x81\xff"
	for number := range 100000 {
		b := []byte("\x30")
		for rest := number; rest > 0; rest /= 10 {
			b = append(b, edges[rest%10])
		}
		hold(t, f, string(b))
	}
}

// TestP22_2_ShortTextsWithinAName has all texts of edge bytes behind a name's beginning, with narrow limits.
func TestP22_2_ShortTextsWithinAName(t *testing.T) {
	edges := "\x00\x01\x30\x31\x06\x0c\x05\x80"
	for _, size := range "\x00\x03\x05\x09" {
		ahead := "\x30\x20\x30\x1e\x30\x03\x06\x01\x2a\x30" + string(size)
		for number := range 1 << 15 {
			b := []byte(ahead)
			for rest := number; rest > 0; rest >>= 3 {
				b = append(b, edges[rest&7])
			}
			for _, f := range []api.Config{{Depth: 5, Cap: 3, Element: 2}, {Depth: 4, Cap: 4, Element: 1}} {
				holdWhole(t, f, string(b), tell(f, string(b)))
			}
		}
	}
}

// TestP22_3_WholeIsByteByByte compares Whole with New, Push and End, as the promise has it.
func TestP22_3_WholeIsByteByByte(t *testing.T) {
	d := dice(223)
	byPush := func(c api.Config, b string) told {
		s, err := New(c)
		if err != api.OK {
			return told{err: err}
		}
		for at := range len(b) {
			if err := s.Push(b[at]); err != api.OK {
				return told{err: err, at: at}
			}
		}
		result, err := s.End()
		return told{result, err, len(b)}
	}
	for range 6000 {
		n := listNode(d.list())
		f := d.config(n)
		switch d.below(12) {
		case 0:
			f.Depth = one(&d, []int{-1, 0, 65})
		case 1:
			f.Cap = one(&d, []int{-1, 65537})
		case 2:
			f.Element = one(&d, []int{-1, 65537})
		case 3:
			f.Queries = append(f.Queries, one(&d, []string{"", "\x00\x00", strings.Repeat("\x11", 21)}))
		}
		b := n.bytes()
		if d.below(2) == 0 {
			b = d.change(b)
		}
		holdWhole(t, f, b, byPush(f, b))
	}
}

func TestP22_3_PlacesOfErrors(t *testing.T) {
	for err, l := range spoilt() {
		holdWhole(t, l.c, l.b, told{err: err, at: l.at})
		// Ahead of that byte nothing is wrong but that more must come; with it nothing more need come.
		want := told{err: api.ErrCut, at: l.at}
		if err == api.ErrMore {
			want = told{result: wantOf(full(), nil), at: l.at}
		}
		holdWhole(t, l.c, l.b[:l.at], want)
		holdWhole(t, l.c, l.b[:l.at+1], told{err: err, at: l.at})
	}
	for _, c := range fewLists() {
		b := encoded(c)
		for at := range len(b) {
			holdWhole(t, wide(), b[:at], told{err: api.ErrCut, at: at})
		}
		holdWhole(t, wide(), b, told{result: wantOf(c, nil), at: len(b)})
	}
}

func TestP22_4_WhatStandsBehindPlaysNoPart(t *testing.T) {
	d := dice(224)
	tails := []string{"", "\x00", "\xff\xff", "\x30\x80", allBytes(), encoded(full())}
	for range 2000 {
		n := listNode(d.list())
		f := d.config(n)
		b := d.change(n.bytes())
		if l := n.all(9); len(l) > 1 && d.below(3) == 0 {
			b = d.turn(n, one(&d, l)).bytes()
		}
		_, err, at := Whole(f, b)
		if err == api.OK || err == api.ErrCut {
			continue
		}
		for _, tail := range append(tails, b[at+1:], b) {
			holdWhole(t, f, b[:at+1]+tail, told{err: err, at: at})
		}
		// And what stands ahead alone is right, or cut off there.
		if _, ahead, end := Whole(f, b[:at]); end != at || ahead != api.ErrCut && err != api.ErrMore {
			t.Fatalf("%v, %x: error %d at %d, and of what stands ahead %d at %d", f, b, err, at, ahead, end)
		}
	}
	for err, l := range spoilt() {
		for _, tail := range tails {
			holdWhole(t, l.c, l.b[:l.at+1]+tail, told{err: err, at: l.at})
		}
	}
}

// TestP22_4_GreaterLimits gives more than what was given: what was wrong beside the limits stays so; a limit is passed as
// before, or something else is told of that byte or of a later one.
func TestP22_4_GreaterLimits(t *testing.T) {
	d := dice(2240)
	seen := map[api.Errno]int{}
	for range 6000 {
		n := listNode(d.list())
		f := d.config(n)
		if d.below(3) == 0 {
			n = d.spoil(n)
		}
		if l := n.all(9); len(l) > 1 && d.below(2) == 0 {
			n = d.turn(n, one(&d, l))
		}
		b := n.bytes()
		if d.below(3) == 0 {
			b = d.change(b)
		}
		result, err, at := Whole(f, b)
		greater := f
		greater.Depth += d.below(api.MaxDepth - f.Depth + 1)
		greater.Cap += d.below(min(api.MaxCap-f.Cap, d.below(200)) + 1)
		greater.Element += d.below(min(api.MaxCap-f.Element, d.below(20)) + 1)
		if err != api.ErrDepth && err != api.ErrCap {
			holdWhole(t, greater, b, told{result, err, at})
			continue
		}
		_, other, later := Whole(greater, b)
		if later < at || later == at && (other == api.OK || other == api.ErrCut) {
			t.Fatalf("%x: error %d at %d with %v, %d at %d with %v", b, err, at, f, other, later, greater)
		}
		seen[other]++
	}
	for _, err := range []api.Errno{api.OK, api.ErrDepth, api.ErrCap, api.ErrOrder, api.ErrValue, api.ErrGrammar} {
		if seen[err] == 0 {
			t.Errorf("none of these tells error %d with greater limits", err)
		}
	}
}

// TestP22_4_EncodedListsWithinTheirLimits has what is encoded, with limits from just what it needs on.
func TestP22_4_EncodedListsWithinTheirLimits(t *testing.T) {
	d := dice(2241)
	for range 1500 {
		c := d.list()
		n := listNode(c)
		f := api.Config{Depth: 6, Cap: len(n.at(n.find(7)).bytes())}
		for _, p := range n.all(9) {
			f.Element = max(f.Element, len(n.at(p).bytes()))
		}
		f.Queries = append(f.Queries, "\x00", "\x00\xff", strings.Repeat("\x11", 20))
		for tooDeep(n, f.Depth-1) < 0 {
			f.Depth--
		}
		holdList(t, f, c)
		f.Depth, f.Cap, f.Element = f.Depth+d.below(3), f.Cap+d.below(3), f.Element+d.below(3)
		holdList(t, f, c)
	}
	// In whatever order attributes of a set are handed in.
	for _, attrs := range orders([]api.Attr{attr(12, "a"), attr(12, "b"), attr(22, "c"), attr(19, "dd")}) {
		c := plain()
		c.Issuer = [][]api.Attr{attrs, {attrs[0]}, attrs[1:3]}
		holdList(t, wide(), c)
	}
}

func TestP22_4_OneQueryByItselfAndAmongOthers(t *testing.T) {
	d := dice(2242)
	l := append(fewLists(), lists()...)
	for range 300 {
		l = append(l, d.list())
	}
	queries := append(askFor(), "\x7f", "\x00\xff", "\x01\x02\x03")
	for _, c := range l {
		b := encoded(c)
		all, err, _ := Whole(wide(queries...), b)
		if err != api.OK || len(all.Answers) != len(queries) {
			t.Fatalf("%x: error %d, %v", b, err, all.Answers)
		}
		for i, q := range queries {
			alone := all
			alone.Answers = all.Answers[i : i+1]
			holdWhole(t, wide(q), b, told{result: alone, at: len(b)})
		}
		// In another order, and none at all.
		slices.Reverse(all.Answers)
		again := slices.Clone(queries)
		slices.Reverse(again)
		holdWhole(t, wide(again...), b, told{result: all, at: len(b)})
		all.Answers = nil
		holdWhole(t, wide(), b, told{result: all, at: len(b)})
	}
}

// numbered are so many entries, each with another serial number and date.
func numbered(many int) []api.Entry {
	l := make([]api.Entry, many)
	for i := range l {
		digits := string([]byte{'0' + byte(i/10%6), '0' + byte(i%10), '0' + byte(i/600%6), '0' + byte(i/60%10)})
		l[i] = api.Entry{Serial: string([]byte{1, byte(i >> 16), byte(i >> 8), byte(i)}), Date: "2024010100" + digits}
	}
	return l
}

func TestP22_2_ManyEntries(t *testing.T) {
	const many = 20000
	c := full()
	c.Entries = numbered(many)
	first, last := c.Entries[0].Serial, c.Entries[many-1].Serial
	f := wide(first, last, c.Entries[many/2].Serial, "\x05", "\x01\x00")
	f.Depth, f.Cap, f.Element = 5, 100, 20
	holdList(t, f, c)
	// The first ones come again, with other dates.
	again := slices.Clone(c.Entries[:many/4])
	for i := range again {
		again[i].Date = "20500101000000"
	}
	c.Entries = append(c.Entries, again...)
	holdList(t, f, c)
	c.Entries = append(again, c.Entries...)
	holdList(t, f, c)
	b := encoded(c)
	for _, cut := range []int{len(b) / 2, len(b) - 1} {
		holdWhole(t, f, b[:cut], told{err: api.ErrCut, at: cut})
	}
	holdWhole(t, f, b+"\x00", told{err: api.ErrMore, at: len(b)})
}

func TestP22_2_LongNames(t *testing.T) {
	// One attribute, and very many, so that the name has just 65536 bytes, or a byte more, or less.
	for _, size := range []int{65535, 65536, 65537} {
		c := plain()
		c.Issuer = [][]api.Attr{{attr(12, strings.Repeat("n", size-21))}}
		holdLongName(t, c, size)
		c.Issuer = nil
		for range 4000 {
			c.Issuer = append(c.Issuer, []api.Attr{attr(19, "ab")})
		}
		c.Issuer = append(c.Issuer, []api.Attr{attr(22, "")})
		// So long a text takes two bytes more in each of three heads.
		c.Issuer[4000][0].Text = strings.Repeat("x", size-len(nameNode(c.Issuer).bytes())-6)
		holdLongName(t, c, size)
	}
}

// holdLongName looks at a list with a name of so many bytes.
func holdLongName(t *testing.T, c api.Crl, size int) {
	n := listNode(c)
	p := n.find(7)
	if got := len(n.at(p).bytes()); got != size {
		t.Helper()
		t.Fatalf("the test's own name has %d bytes, want %d", got, size)
	}
	b := n.bytes()
	for _, most := range []int{size - 1, size, size + 1} {
		if most > api.MaxCap {
			continue
		}
		f := wide()
		f.Cap = most
		if most < size {
			want := told{err: api.ErrCap, at: n.from(p) + most}
			holdWhole(t, f, b, want)
			holdPush(t, f, b, want)
		} else {
			holdList(t, f, c)
		}
	}
}

func TestP22_2_LongAttributes(t *testing.T) {
	// An attribute has 13 bytes beside so long a text, and the name 8 more.
	for _, size := range []int{300, 65520, 65528} {
		c := plain()
		c.Issuer = [][]api.Attr{{attr(12, strings.Repeat("n", size-13))}}
		n := listNode(c)
		p := n.find(9)
		if got := len(n.at(p).bytes()); got != size {
			t.Fatalf("the test's own attribute has %d bytes, want %d", got, size)
		}
		f := wide()
		f.Element = size
		holdList(t, f, c)
		f.Element--
		want := told{err: api.ErrCap, at: n.from(p) + size - 1}
		holdWhole(t, f, n.bytes(), want)
		holdPush(t, f, n.bytes(), want)
	}
	// Two of them that differ in the last byte alone.
	text := strings.Repeat("n", 30000)
	n := listNode(plain()).put(listNode(plain()).find(7), seq(7, setOf(attributeNode(attr(12, text+"b")), attributeNode(attr(12, text+"a")))))
	at := n.from(n.find(7)) + len(n.at(n.find(7)).bytes()) - 1
	holdWhole(t, wide(), n.bytes(), told{err: api.ErrOrder, at: at})
	f := wide()
	f.Cap = len(n.at(n.find(7)).bytes()) - 1
	holdWhole(t, f, n.bytes(), told{err: api.ErrCap, at: at})
}

func TestP22_2_LongContents(t *testing.T) {
	const size = 1 << 19
	c := full()
	c.Exts[0].Value = strings.Repeat("v", size)
	c.Entries[2].Exts[0].Value = strings.Repeat("w", size)
	c.Signature = strings.Repeat("s", size)
	c.Entries[1].Serial = strings.Repeat("\x11", size)
	f := wide(append(askFor(), "\x11")...)
	f.Cap, f.Element = 100, 20
	holdList(t, f, c)
}

// inUse is how many bytes are in use once what nobody holds is gone.
func inUse() uint64 {
	var stats runtime.MemStats
	runtime.GC()
	runtime.ReadMemStats(&stats)
	return stats.HeapAlloc
}

// TestRules_NoMoreIsKeptThanPromised pushes far more bytes than a scan may keep: within a content, and in many elements.
func TestRules_NoMoreIsKeptThanPromised(t *testing.T) {
	const size, bound = 1 << 21, 1 << 18
	vast := func(class, tag int, cons bool, bits int) string {
		h, err := head.Put(api.Head{Class: class, Tag: tag, Cons: cons, Len: 1 << bits})
		if err != api.OK {
			t.Fatal(err)
		}
		return h
	}
	outer := vast(0, 16, true, 60) + vast(0, 16, true, 59)
	head := outer + "\x02\x01\x01" + "\x30\x05\x06\x01\x2a\x05\x00" + "\x30\x00" + "\x17\x0d240101000000Z"
	for what, l := range map[string]struct{ ahead, again string }{
		"a serial number":    {head + vast(0, 16, true, 58) + vast(0, 16, true, 57) + vast(0, 2, false, 56) + "\x01", "\x11"},
		"a parameter":        {outer + vast(0, 16, true, 58) + "\x06\x01\x2a" + vast(0, 4, false, 56), "p"},
		"many parameters":    {outer + vast(0, 16, true, 58) + "\x06\x01\x2a" + vast(0, 16, true, 56), "\x30\x02\x05\x00"},
		"entries":            {head + vast(0, 16, true, 58), "\x30\x12\x02\x01\x05\x17\x0d500101000000Z"},
		"extensions":         {head + vast(2, 0, true, 58) + vast(0, 16, true, 57), "\x30\x06\x06\x01\x2a\x04\x01v"},
		"an extension":       {head + vast(2, 0, true, 58) + vast(0, 16, true, 57) + vast(0, 16, true, 56) + "\x06\x01\x2a" + vast(0, 4, false, 55), "v"},
		"an object's number": {outer + vast(0, 16, true, 58) + vast(0, 6, false, 57), "\x81"},
	} {
		s := start(t, wide(askFor()...))
		come(t, s, l.ahead)
		before := inUse()
		for s.At() < size {
			come(t, s, l.again)
		}
		if after := inUse(); after > before+bound {
			t.Errorf("%s: %d bytes are in use, %d were ahead", what, after, before)
		}
		holdEnd(t, s, told{err: api.ErrCut, at: s.At()})
	}
}
