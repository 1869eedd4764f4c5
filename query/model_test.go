package query

import (
	"fmt"
	"strings"

	"gantlet/api"
)

// entry is what came with a date: all bytes since the last Begin, however many.
type entry struct{ serial, date string }

// model is what Queries must be. It keeps all that came, and answers by looking for the first entry of each.
type model struct {
	asked   []string
	entries []entry
	came    string
	begun   bool
}

func (m *model) begin() { m.came, m.begun = "", true }

func (m *model) push(b byte) { m.came += string([]byte{b}) }

func (m *model) date(date string) {
	if m.begun {
		m.entries = append(m.entries, entry{m.came, date})
	}
}

func (m *model) answers() []api.Answer {
	var all []api.Answer
	for _, s := range m.asked {
		all = append(all, m.answer(s))
	}
	return all
}

func (m *model) answer(serial string) api.Answer {
	for _, e := range m.entries {
		if e.serial == serial {
			return api.Answer{Revoked: true, Date: e.date}
		}
	}
	return api.Answer{}
}

// rightSerial tells whether a text is a serial number, by its first nine bits as they are written.
func rightSerial(content string) bool {
	if len(content) == 0 || len(content) > 20 {
		return false
	}
	var bits string
	for i := range min(len(content), 2) {
		bits += fmt.Sprintf("%08b", content[i])
	}
	return !strings.HasPrefix(bits, "000000000") && !strings.HasPrefix(bits, "111111111")
}

// dice gives numbers that look thrown, and are always the same.
type dice uint64

// below throws a number from 0 on, below n.
func (d *dice) below(n int) int {
	*d = *d*6364136223846793005 + 1442695040888963407
	return int(uint64(*d)>>33) % n
}

// bytes throws a text of so many bytes, each one of those.
func (d *dice) bytes(n int, of string) string {
	b := make([]byte, n)
	for i := range b {
		b[i] = of[d.below(len(of))]
	}
	return string(b)
}

// serial throws a serial number of so many bytes.
func (d *dice) serial(n int, of string) string {
	for {
		if s := d.bytes(n, of); rightSerial(s) {
			return s
		}
	}
}
