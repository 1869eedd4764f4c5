package scan

import (
	"crypto/sha256"
	"slices"

	"gantlet/api"
	"gantlet/event"
	"gantlet/grammar"
	"gantlet/order"
	"gantlet/value"
)

// The model keeps all bytes and all elements that came, and goes through them with each byte. It takes the layers below
// for what their chapters say: which events a byte brings about, which part each belongs to, and which of two comes
// first; the rest it puts together by itself.

// span is an element, as far as it came.
type span struct {
	part, tag int
	// in is which of the elements it stands in; -1: in none.
	in int
	// from is the place of its head's first byte, content that of its content's first one, to the one behind its last.
	from, content, to int
	over              bool
}

// model is a list as far as it came.
type model struct {
	c       api.Config
	b       string
	machine *event.Machine
	checker *value.Checker
	grammar *grammar.Grammar
	spans   []span
	// open are those of the elements that aren't over.
	open []int
	// next is the place behind the last byte that was no head's, or a head's last one.
	next int
}

// told is what Whole answers.
type told struct {
	result api.Result
	err    api.Errno
	at     int
}

// tell is what the chapter says of a text, with a configuration that may be.
func tell(c api.Config, b string) told {
	m := &model{c: c, b: b, machine: event.New(c.Depth), checker: value.New(), grammar: grammar.New()}
	for at := range len(b) {
		if err := m.push(at); err != api.OK {
			return told{err: err, at: at}
		}
	}
	if !m.machine.Done() {
		return told{err: api.ErrCut, at: len(b)}
	}
	return told{result: m.result(), at: len(b)}
}

// push is what is wrong with the byte at a place: for the first of the chapter's reasons.
func (m *model) push(at int) api.Errno {
	events, err := m.machine.Push(m.b[at])
	if err != api.OK {
		return err
	}
	for _, e := range events {
		if err := m.checker.Push(e); err != api.OK {
			return err
		}
		part, err := m.grammar.Push(e)
		if err != api.OK {
			return err
		}
		m.note(e, part)
	}
	if len(events) > 0 {
		m.next = at + 1
	}
	for _, limit := range []struct{ part, most int }{{7, m.c.Cap}, {9, m.c.Element}} {
		if m.isBeyond(limit.part, limit.most, at+1) {
			return api.ErrCap
		}
	}
	if m.isOutOfOrder(at + 1) {
		return api.ErrOrder
	}
	return api.OK
}

// note writes an event down.
func (m *model) note(e api.Event, part int) {
	last := len(m.open) - 1
	switch e.Kind {
	case api.EEnter, api.ELeaf:
		in := -1
		if last >= 0 {
			in = m.open[last]
		}
		m.open = append(m.open, len(m.spans))
		m.spans = append(m.spans, span{part: part, tag: e.Head.Tag, in: in, from: m.next, content: e.At + 1})
	case api.EEnd, api.EExit:
		s := &m.spans[m.open[last]]
		s.to, s.over = e.At+1, true
		m.open = m.open[:last]
	}
}

// isBeyond tells whether so many bytes make an element of a part longer than it may be.
func (m *model) isBeyond(part, most, came int) bool {
	return slices.ContainsFunc(m.spans, func(s span) bool {
		return s.part == part && (!s.over || s.to == came) && came-s.from > most
	})
}

// isOutOfOrder tells whether an attribute is over with so many bytes, and the one ahead in its set comes behind it.
func (m *model) isOutOfOrder(came int) bool {
	ahead := -1
	for i, s := range m.spans {
		if s.part != 9 {
			continue
		}
		if s.over && s.to == came && ahead >= 0 && m.spans[ahead].in == s.in {
			a := m.spans[ahead]
			return order.Compare(m.b[a.from:a.to], m.b[s.from:s.to]) == 1
		}
		ahead = i
	}
	return false
}

// result is what the whole list tells.
func (m *model) result() api.Result {
	r := api.Result{Answers: make([]api.Answer, len(m.c.Queries))}
	for i, s := range m.spans {
		switch s.part {
		case 2:
			digest := sha256.Sum256([]byte(m.b[s.from:s.to]))
			r.Digest = string(digest[:])
		case 3:
			r.Version2 = true
		case 7:
			r.Issuer = m.b[s.from:s.to]
		case 11:
			r.This = m.date(s)
		case 12:
			r.Next = m.date(s)
		case 14:
			r.Count++
			m.answer(r.Answers, i)
		}
	}
	return r
}

// answer looks at one entry.
func (m *model) answer(answers []api.Answer, entry int) {
	serial, date := m.spans[entry+1], m.spans[entry+2]
	for i, asked := range m.c.Queries {
		if asked == m.b[serial.content:serial.to] && !answers[i].Revoked {
			answers[i] = api.Answer{Revoked: true, Date: m.date(date)}
		}
	}
}

// date is the fourteen digits that a time says.
func (m *model) date(s span) string {
	digits := m.b[s.content : s.to-1]
	switch {
	case s.tag == 24:
		return digits
	case digits < "5":
		return "20" + digits
	}
	return "19" + digits
}
