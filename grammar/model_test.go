package grammar

import (
	"slices"
	"strconv"
	"strings"

	"gantlet/api"
	"gantlet/event"
	"gantlet/value"
)

// The model reads the chapter's table as it is written there, and keeps of each open element which parts came in it: of
// these, and of those that come, it asks whether they are what the row allows.

// table is the chapter's: each part's element, and its parts.
var table = map[int]struct{ element, parts string }{
	0:  {"", "1"},
	1:  {"sequence", "2, 4, 22"},
	2:  {"sequence", "3?, 4, 7, 11, 12?, 13?, 21?"},
	3:  {"integer", ""},
	4:  {"sequence", "5, 6?"},
	5:  {"OID", ""},
	6:  {"any element", "6*"},
	7:  {"sequence", "8*"},
	8:  {"set", "9+"},
	9:  {"sequence", "5, 10"},
	10: {"UTF8String, PrintableString, IA5String", ""},
	11: {"UTCTime, GeneralizedTime", ""},
	12: {"UTCTime, GeneralizedTime", ""},
	13: {"sequence", "14+"},
	14: {"sequence", "15, 16, 17?"},
	15: {"integer", ""},
	16: {"UTCTime, GeneralizedTime", ""},
	17: {"sequence", "18+"},
	18: {"sequence", "5, 19?, 20"},
	19: {"bool", ""},
	20: {"octets", ""},
	21: {"tagged", "17"},
	22: {"bit string", ""},
}

// kinds are the elements' kinds, as heads without Len.
var kinds = map[string]api.Head{
	"sequence":        {Tag: 16, Cons: true},
	"set":             {Tag: 17, Cons: true},
	"integer":         {Tag: 2},
	"OID":             {Tag: 6},
	"UTF8String":      {Tag: 12},
	"PrintableString": {Tag: 19},
	"IA5String":       {Tag: 22},
	"UTCTime":         {Tag: 23},
	"GeneralizedTime": {Tag: 24},
	"bool":            {Tag: 1},
	"octets":          {Tag: 4},
	"tagged":          {Class: 2, Tag: 0, Cons: true},
	"bit string":      {Tag: 3},
}

// spot is a part in a row, and how often it comes there: at least so often, and at most.
type spot struct{ part, least, most int }

const without = 1 << 40

var rows, heads = readRows(), readHeads()

// readHeads reads the table's elements.
func readHeads() map[int][]api.Head {
	all := map[int][]api.Head{}
	for part, row := range table {
		for _, name := range strings.Split(row.element, ", ") {
			if h, ok := kinds[name]; ok {
				all[part] = append(all[part], h)
			}
		}
	}
	return all
}

// readRows reads the table's rows.
func readRows() map[int][]spot {
	all := map[int][]spot{}
	for part, row := range table {
		for _, word := range strings.Fields(strings.ReplaceAll(row.parts, ",", " ")) {
			s := spot{least: 1, most: 1}
			digits := strings.TrimRight(word, "?+*")
			switch word[len(digits):] {
			case "?":
				s.least = 0
			case "+":
				s.most = without
			case "*":
				s.least, s.most = 0, without
			}
			s.part, _ = strconv.Atoi(digits)
			all[part] = append(all[part], s)
		}
	}
	return all
}

// runs are the parts that came, each with how often it came in a row.
type runs []spot

// add is one more part behind.
func (r runs) add(part int) runs {
	if len(r) > 0 && r[len(r)-1].part == part {
		r = slices.Clone(r)
		r[len(r)-1].most++
		return r
	}
	return append(slices.Clip(r), spot{part: part, most: 1})
}

// follows tells whether the parts that came are what a row allows, or, if it needn't be over, can become that.
func follows(row []spot, came runs, over bool) bool {
	for _, s := range row {
		if len(came) > 0 && came[0].part == s.part {
			if came[0].most > s.most {
				return false
			}
			came = came[1:]
			continue
		}
		if len(came) == 0 && !over {
			return true
		}
		if s.least > 0 {
			return false
		}
	}
	return len(came) == 0
}

// inside is an open element: its part, and the parts that came in it.
type inside struct {
	part int
	came runs
}

// model is a list as far as it came.
type model struct {
	open    []inside
	version bool
	leaf    int
	wrong   bool
}

func newModel() *model { return &model{open: []inside{{}}} }

// push is what the chapter says of an event.
func (m *model) push(e api.Event) (int, api.Errno) {
	part := 0
	if !m.wrong {
		part = m.partOf(e)
		m.wrong = part == 0
	}
	if m.wrong {
		return 0, api.ErrGrammar
	}
	return part, api.OK
}

// partOf is the part that an event belongs to; 0: it is wrong.
func (m *model) partOf(e api.Event) int {
	in := len(m.open) - 1
	switch e.Kind {
	case api.EEnter, api.ELeaf:
		part := m.next(e.Head)
		m.open[in].came = m.open[in].came.add(part)
		m.version = m.version || part == 3
		if e.Kind == api.EEnter {
			m.open = append(m.open, inside{part: part})
		}
		m.leaf = part
		return part
	case api.EByte:
		if m.leaf == 3 && e.B != 1 || m.leaf == 19 && e.B != 255 {
			return 0
		}
		return m.leaf
	case api.EEnd:
		return m.leaf
	}
	part, came := m.open[in].part, m.open[in].came
	m.open = m.open[:in]
	if !follows(rows[part], came, true) {
		return 0
	}
	return part
}

// next is the part that an element is; 0: none that may come next is it.
func (m *model) next(h api.Head) int {
	in := m.open[len(m.open)-1]
	for _, s := range rows[in.part] {
		if !m.version && (s.part == 21 || s.part == 17 && in.part == 14) {
			continue
		}
		if s.part == 3 && h.Len != 1 || !isElement(s.part, h) {
			continue
		}
		if follows(rows[in.part], in.came.add(s.part), false) {
			return s.part
		}
	}
	return 0
}

// isElement tells whether a head is that of a part's element.
func isElement(part int, h api.Head) bool {
	h.Len = 0
	return table[part].element == "any element" || slices.Contains(heads[part], h)
}

// answer is what comes of an event.
type answer struct {
	part int
	err  api.Errno
}

// answersOf are the model's for all of these.
func answersOf(events []api.Event) []answer {
	m := newModel()
	l := make([]answer, len(events))
	for i, e := range events {
		l[i].part, l[i].err = m.push(e)
	}
	return l
}

// told is what comes of a text: the error, and its place.
type told struct {
	err api.Errno
	at  int
}

// tell is what the chapters say of a text: as the model has it.
func tell(b string, depth int) told { return tellBy(b, depth, newModel().push) }

// tellByPush is the same, with this package's own Push.
func tellByPush(b string, depth int) told { return tellBy(b, depth, New().Push) }

// tellBy is what P20.3 says, with its own words, whatever tells the parts.
func tellBy(b string, depth int, push func(api.Event) (int, api.Errno)) told {
	events, err, at := event.Whole(b, depth)
	c := value.New()
	for _, e := range events {
		if err := c.Push(e); err != api.OK {
			return told{err, e.At}
		}
		if _, err := push(e); err != api.OK {
			return told{err, e.At}
		}
	}
	return told{err, at}
}
