package encode

import (
	"fmt"
	"math/big"
	"regexp"
	"slices"
	"sort"
	"strings"
	"time"
	"unicode/utf8"

	"gantlet/api"
)

// The model puts bytes together by itself: first bytes as they are written, lengths and arcs by numbers of any size,
// dates, texts and serial numbers looked at by means of the library. Each function tells false of what can't be.

// lay is an element of the first byte.
func lay(first byte, content string) string {
	n := len(content)
	if n < 128 {
		return string([]byte{first, byte(n)}) + content
	}
	size := big.NewInt(int64(n)).Bytes()
	return string([]byte{first, byte(128 + len(size))}) + string(size) + content
}

func seq(parts ...string) string { return lay(0x30, strings.Join(parts, "")) }

// arcsOf is an OID's content.
func arcsOf(arcs []uint64) (string, bool) {
	if len(arcs) < 2 || arcs[0] > 2 || arcs[0] != 2 && arcs[1] > 39 {
		return "", false
	}
	first := new(big.Int).SetUint64(arcs[1])
	first.Add(first, big.NewInt(int64(40*arcs[0])))
	if first.BitLen() > 64 {
		return "", false
	}
	numbers := []*big.Int{first}
	for _, arc := range arcs[2:] {
		numbers = append(numbers, new(big.Int).SetUint64(arc))
	}
	var b []byte
	for _, n := range numbers {
		digits := groups(n)
		for i, d := range digits {
			if i+1 < len(digits) {
				d += 128
			}
			b = append(b, d)
		}
	}
	return string(b), true
}

// groups are a number's digits to the base 128, the highest first.
func groups(n *big.Int) []byte {
	var digits []byte
	for rest := new(big.Int).Set(n); ; {
		digit := new(big.Int)
		rest.DivMod(rest, big.NewInt(128), digit)
		digits = slices.Insert(digits, 0, byte(digit.Int64()))
		if rest.Sign() == 0 {
			return digits
		}
	}
}

func modelOid(arcs []uint64) (string, bool) {
	content, ok := arcsOf(arcs)
	return lay(0x06, content), ok
}

var fourteen = regexp.MustCompile(`\A[0-9]{14}\z`)

func modelTime(date string) (string, bool) {
	if !fourteen.MatchString(date) || date < "1950" {
		return "", false
	}
	if _, err := time.Parse("20060102150405", date); err != nil {
		return "", false
	}
	if date < "2050" {
		return lay(0x17, date[2:]+"Z"), true
	}
	return lay(0x18, date+"Z"), true
}

var printable = regexp.MustCompile(`\A[A-Za-z0-9 '()+,\-./:=?]*\z`)

var ascii = regexp.MustCompile(`\A[\x00-\x7f]*\z`)

func modelText(tag int, text string) bool {
	switch tag {
	case 12:
		return utf8.ValidString(text)
	case 19:
		return printable.MatchString(text)
	case 22:
		return ascii.MatchString(text)
	}
	return false
}

func modelAttr(a api.Attr) (string, bool) {
	id, ok := modelOid(a.Oid)
	if !ok || !modelText(a.Tag, a.Text) {
		return "", false
	}
	return seq(id, lay(byte(a.Tag), a.Text)), true
}

// modelName sorts a set's attributes as texts: none is the beginning of another one, and so no 0 behind one counts.
func modelName(l [][]api.Attr) (string, bool) {
	var sets []string
	for _, attrs := range l {
		var elements []string
		for _, a := range attrs {
			b, ok := modelAttr(a)
			if !ok {
				return "", false
			}
			elements = append(elements, b)
		}
		if len(elements) == 0 {
			return "", false
		}
		sort.Strings(elements)
		sets = append(sets, lay(0x31, strings.Join(elements, "")))
	}
	return seq(sets...), true
}

func modelExts(l []api.Ext) (string, bool) {
	var all []string
	for _, e := range l {
		id, ok := modelOid(e.Oid)
		if !ok {
			return "", false
		}
		critical := ""
		if e.Critical {
			critical = "\x01\x01\xff"
		}
		all = append(all, seq(id, critical, lay(0x04, e.Value)))
	}
	if len(all) == 0 {
		return "", false
	}
	return seq(all...), true
}

// modelSerial tells whether an integer's content is right, by its first nine bits as they are written.
func modelSerial(content string) bool {
	var bits string
	for i := range min(len(content), 2) {
		bits += fmt.Sprintf("%08b", content[i])
	}
	return bits != "" && !strings.HasPrefix(bits, "000000000") && !strings.HasPrefix(bits, "111111111")
}

func modelEntry(e api.Entry) (string, bool) {
	date, ok := modelTime(e.Date)
	if !ok || !modelSerial(e.Serial) {
		return "", false
	}
	exts := ""
	if len(e.Exts) != 0 {
		if exts, ok = modelExts(e.Exts); !ok {
			return "", false
		}
	}
	return seq(lay(0x02, e.Serial), date, exts), true
}

// modelSigned are the bytes of what is signed, whichever version it has.
func modelSigned(c api.Crl) (string, bool) {
	id, idOk := modelOid(c.Alg)
	name, nameOk := modelName(c.Issuer)
	this, thisOk := modelTime(c.This)
	if !idOk || !nameOk || !thisOk {
		return "", false
	}
	version, next, entries, exts := "", "", "", ""
	if c.Version2 {
		version = "\x02\x01\x01"
	}
	ok := true
	if c.Next != "" {
		if next, ok = modelTime(c.Next); !ok {
			return "", false
		}
	}
	if len(c.Entries) != 0 {
		var all []string
		for _, e := range c.Entries {
			b, ok := modelEntry(e)
			if !ok {
				return "", false
			}
			all = append(all, b)
		}
		entries = seq(all...)
	}
	if len(c.Exts) != 0 {
		if exts, ok = modelExts(c.Exts); !ok {
			return "", false
		}
		exts = lay(0xa0, exts)
	}
	return seq(version, seq(id, "\x05\x00"), name, this, next, entries, exts), true
}

func modelTbs(c api.Crl) (string, api.Errno) {
	b, ok := modelSigned(c)
	if !ok {
		return "", 7
	}
	exts := len(c.Exts)
	for _, e := range c.Entries {
		exts += len(e.Exts)
	}
	if exts > 0 && !c.Version2 {
		return "", 8
	}
	return b, 0
}

func modelEncode(c api.Crl) (string, api.Errno) {
	b, err := modelTbs(c)
	if err != 0 {
		return "", err
	}
	id, _ := modelOid(c.Alg)
	return seq(b, seq(id, "\x05\x00"), lay(0x03, "\x00"+c.Signature)), 0
}

// dice gives numbers that look thrown, and are always the same.
type dice uint64

// below throws a number from 0 on, below n.
func (d *dice) below(n int) int {
	*d = *d*6364136223846793005 + 1442695040888963407
	return int(uint64(*d)>>33) % n
}

// bytes throws a text of at most so many bytes, each one of those.
func (d *dice) bytes(most int, of string) string {
	b := make([]byte, d.below(most+1))
	for i := range b {
		b[i] = of[d.below(len(of))]
	}
	return string(b)
}

// pick throws one of a list; now and then, if spoil is above 0, one of those that are wrong: once in so many.
func pick[T any](d *dice, right, wrong []T, spoil int) T {
	if spoil > 0 && d.below(spoil) == 0 {
		return wrong[d.below(len(wrong))]
	}
	return right[d.below(len(right))]
}

// arcs throws an OID.
func (d *dice) arcs(spoil int) []uint64 { return pick(d, rightOids(), wrongOids(), spoil) }

// attr throws an attribute.
func (d *dice) attr(spoil int) api.Attr { return pick(d, rightAttrs(), wrongAttrs(), spoil) }

// exts throws at most so many extensions.
func (d *dice) exts(most, spoil int) []api.Ext {
	var l []api.Ext
	for range d.below(most + 1) {
		l = append(l, api.Ext{Oid: d.arcs(spoil), Critical: d.below(2) == 0, Value: d.bytes(6, "\x00\x05\x7f\x80\xff")})
	}
	return l
}

// name throws a name.
func (d *dice) name(spoil int) [][]api.Attr {
	var l [][]api.Attr
	for range d.below(4) {
		set := []api.Attr{d.attr(spoil)}
		for range d.below(4) {
			set = append(set, d.attr(spoil))
		}
		if spoil > 0 && d.below(spoil) == 0 {
			set = nil
		}
		l = append(l, set)
	}
	return l
}

// list throws a list of revoked certificates. Where it is asked for no extensions there are none.
func (d *dice) list(exts, spoil int) api.Crl {
	c := api.Crl{
		Version2: d.below(2) == 0, Alg: d.arcs(spoil), Issuer: d.name(spoil),
		This: pick(d, rightDates(), wrongDates(), spoil), Exts: d.exts(exts, spoil),
		Signature: d.bytes(5, "\x00\x01\x80\xff"),
	}
	if d.below(2) == 0 {
		c.Next = pick(d, rightDates(), wrongTimes(), spoil)
	}
	for range d.below(4) {
		e := api.Entry{Serial: pick(d, rightSerials(), wrongSerials(), spoil), Date: pick(d, rightDates(), wrongDates(), spoil)}
		if d.below(2) == 0 {
			e.Exts = d.exts(exts, spoil)
		}
		c.Entries = append(c.Entries, e)
	}
	return c
}
