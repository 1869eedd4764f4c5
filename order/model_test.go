package order

import (
	"slices"
	"strings"

	"gantlet/api"
)

// The model writes the bytes 0 behind the shorter element out, and keeps all elements that came.

// sideOf is what Compare must tell.
func sideOf(a, b string) int {
	most := max(len(a), len(b))
	a += strings.Repeat("\x00", most-len(a))
	b += strings.Repeat("\x00", most-len(b))
	return strings.Compare(a, b)
}

// inOrder is what Sort must answer: each element is put behind all those that stand there already, but for those at the
// end that it comes ahead of.
func inOrder(l []string) []string {
	var sorted []string
	for _, x := range l {
		at := len(sorted)
		for at > 0 && sideOf(x, sorted[at-1]) < 0 {
			at--
		}
		sorted = slices.Insert(sorted, at, x)
	}
	return sorted
}

// model is what a Sorter must be.
type model struct {
	most int
	// elements are all that came, the last one as far as it came.
	elements []string
	err      api.Errno
}

func newModel(most int) *model {
	if most < 0 {
		most = 0
	}
	if most > 65536 {
		most = 65536
	}
	return &model{most: most, elements: []string{""}}
}

func (m *model) push(b byte) api.Errno {
	if m.err != api.OK {
		return m.err
	}
	last := len(m.elements) - 1
	m.elements[last] += string([]byte{b})
	if len(m.elements[last]) > m.most {
		m.err = api.ErrCap
	}
	return m.err
}

func (m *model) end() api.Errno {
	if m.err != api.OK {
		return m.err
	}
	last := len(m.elements) - 1
	if last > 0 && sideOf(m.elements[last], m.elements[last-1]) < 0 {
		m.err = api.ErrOrder
	}
	m.elements = append(m.elements, "")
	return m.err
}

func (m *model) reset() { *m = *newModel(m.most) }

// dice gives numbers that look thrown, and are always the same.
type dice uint64

// below throws a number from 0 on, below n.
func (d *dice) below(n int) int {
	*d = *d*6364136223846793005 + 1442695040888963407
	return int(uint64(*d)>>33) % n
}

// element throws one of at most so many bytes, each one of those.
func (d *dice) element(most int, bytes string) string {
	b := make([]byte, d.below(most+1))
	for i := range b {
		b[i] = bytes[d.below(len(bytes))]
	}
	return string(b)
}

// all are all elements of at most so many bytes, each one of those.
func all(most int, bytes string) []string {
	list, longest := []string{""}, []string{""}
	for range most {
		var longer []string
		for _, x := range longest {
			for i := range len(bytes) {
				longer = append(longer, x+bytes[i:i+1])
			}
		}
		list, longest = append(list, longer...), longer
	}
	return list
}

// zeros are so many bytes 0.
func zeros(n int) string { return strings.Repeat("\x00", n) }
