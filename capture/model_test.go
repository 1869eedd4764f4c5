package capture

import "gantlet/api"

// model is what a Capture must be. It keeps all that came while it was on, however much that is, and looks at what came
// with a beginning at once.
type model struct {
	most int
	came string
	on   bool
}

func newModel(most int) *model {
	if most < 0 {
		most = 0
	}
	if most > 65536 {
		most = 65536
	}
	return &model{most: most}
}

func (m *model) begin(b string) api.Errno {
	m.came, m.on = b, true
	return m.look()
}

func (m *model) push(b byte) api.Errno {
	if !m.on {
		return api.OK
	}
	m.came += string([]byte{b})
	return m.look()
}

// look is what comes of it if more came than can be kept.
func (m *model) look() api.Errno {
	if len(m.came) > m.most {
		m.on = false
		return api.ErrCap
	}
	return api.OK
}

func (m *model) end() { m.on = false }

// text is the front of what came.
func (m *model) text() string {
	if len(m.came) > m.most {
		return m.came[:m.most]
	}
	return m.came
}

// dice gives numbers that look thrown, and are always the same.
type dice uint64

// below throws a number from 0 on, below n.
func (d *dice) below(n int) int {
	*d = *d*6364136223846793005 + 1442695040888963407
	return int(uint64(*d)>>33) % n
}

// bytes throws a text of at most so many bytes, each one of those.
func (d *dice) bytes(most int, of string) string {
	b := make([]byte, d.below(most+1))
	for i := range b {
		b[i] = of[d.below(len(of))]
	}
	return string(b)
}
