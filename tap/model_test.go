package tap

// The calls that a model writes down.
const (
	pushed = iota
	headed
	begun
	ended
)

// entry is one call: the byte, or the head, that came with it.
type entry struct {
	kind int
	b    string
}

// model is what a Tap must be. It only writes down what came, and goes through all of that whenever it is asked.
type model struct{ log []entry }

func (m *model) push(b byte)       { m.log = append(m.log, entry{pushed, string([]byte{b})}) }
func (m *model) begin(head string) { m.log = append(m.log, entry{begun, head}) }
func (m *model) end()              { m.log = append(m.log, entry{kind: ended}) }

func (m *model) head() string {
	head := m.since()
	m.log = append(m.log, entry{kind: headed})
	return head
}

// since is the bytes behind the last head.
func (m *model) since() string {
	b := ""
	for i := len(m.log) - 1; i >= 0 && m.log[i].kind != headed; i-- {
		if m.log[i].kind == pushed {
			b = m.log[i].b + b
		}
	}
	return b
}

// part is the bytes of the part that was begun last, and whether one was.
func (m *model) part() (string, bool) {
	for i := len(m.log) - 1; i >= 0; i-- {
		if m.log[i].kind == begun {
			return m.log[i].b + bytesUpToEnd(m.log[i+1:]), true
		}
	}
	return "", false
}

// bytesUpToEnd is the bytes that came with the calls ahead of the first end.
func bytesUpToEnd(log []entry) string {
	b := ""
	for _, e := range log {
		if e.kind == ended {
			break
		}
		if e.kind == pushed {
			b += e.b
		}
	}
	return b
}

// dice gives numbers that look thrown, and are always the same.
type dice uint64

// below throws a number from 0 on, below n.
func (d *dice) below(n int) int {
	*d = *d*6364136223846793005 + 1442695040888963407
	return int(uint64(*d)>>33) % n
}

// bytes throws a text of so many bytes.
func (d *dice) bytes(n int) string {
	b := make([]byte, n)
	for i := range b {
		b[i] = byte(d.below(256))
	}
	return string(b)
}
