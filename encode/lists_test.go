package encode

import (
	"math"
	"slices"
	"strings"

	"gantlet/api"
)

// What the tests hand in, right and wrong. Each call makes it anew, so that no test spoils another one's.

// lengths are those at which a length takes another byte, and their neighbours.
func lengths() []int { return []int{0, 1, 126, 127, 128, 129, 255, 256, 257, 65535, 65536, 65537} }

func rightOids() [][]uint64 {
	return [][]uint64{
		{2, 5, 4, 3}, {2, 5, 29, 20}, {1, 2, 840, 113549, 1, 1, 11}, {1, 2}, {0, 0}, {0, 39}, {1, 0}, {1, 39}, {2, 0},
		{2, 39}, {2, 40}, {2, 47}, {2, 48}, {2, 999}, {2, math.MaxUint64 - 80}, {1, 2, 0}, {1, 2, 127}, {1, 2, 128},
		{1, 2, 16383}, {1, 2, 16384}, {1, 2, 1 << 63}, {1, 2, math.MaxUint64}, {1, 2, 0, 0, 0}, slices.Repeat([]uint64{1}, 130),
	}
}

func wrongOids() [][]uint64 {
	return [][]uint64{
		nil, {}, {0}, {1}, {2}, {3}, {0, 40}, {1, 40}, {3, 0}, {3, 1, 2}, {1, 40, 5}, {0, 40, 1, 1}, {0, math.MaxUint64},
		{1, math.MaxUint64}, {2, math.MaxUint64}, {2, math.MaxUint64 - 79}, {2, math.MaxUint64 - 79, 1}, {math.MaxUint64, 1},
		{1 << 32, 1}, {256, 1}, {1, 256}, {1, 1 << 32},
	}
}

func tags() []int { return []int{api.TUtf8, api.TPrintable, api.TIa5} }

// otherTags are those that no attribute has, among them some whose lowest bits are like those of one that has.
func otherTags() []int {
	var l []int
	for tag := -40; tag < 300; tag++ {
		if tag != 12 && tag != 19 && tag != 22 {
			l = append(l, tag)
		}
	}
	for _, tag := range []int{12, 19, 22} {
		l = append(l, tag+1<<8, tag+1<<16, tag+1<<28, tag+1<<32, tag+math.MinInt, -tag)
	}
	return append(l, api.MaxTag, api.MaxTag+1, math.MaxInt, math.MinInt)
}

// attr is an attribute of a common name.
func attr(tag int, text string) api.Attr {
	return api.Attr{Oid: []uint64{2, 5, 4, 3}, Tag: tag, Text: text}
}

func rightAttrs() []api.Attr {
	return []api.Attr{
		attr(12, "a"), attr(12, "ab"), attr(12, "b"), attr(12, ""), attr(12, "\xc3\xa4\xe2\x82\xac\xf0\x9f\x98\x80"), attr(19, "a"),
		attr(19, "A9 '()+,-./:=?"), attr(19, ""), attr(22, "a@b.c"), attr(22, "\x00\x7f"), attr(22, ""),
		{Oid: []uint64{2, 5, 4, 10}, Tag: 12, Text: "a"}, {Oid: []uint64{2, 5, 4}, Tag: 12, Text: "abc"},
		{Oid: []uint64{1, 2, 840, 113549, 1, 9, 1}, Tag: 22, Text: "a@b"}, attr(12, strings.Repeat("n", 128)),
	}
}

func wrongAttrs() []api.Attr {
	return []api.Attr{
		{}, {Oid: []uint64{2, 5, 4, 3}}, {Tag: 12, Text: "a"}, {Oid: []uint64{2}, Tag: 12, Text: "a"}, {Oid: []uint64{1, 40}, Tag: 19, Text: "a"},
		attr(0, "a"), attr(4, "a"), attr(11, "a"), attr(13, "a"), attr(16, "a"), attr(18, "a"), attr(20, "a"), attr(23, "a"), attr(30, "a"), attr(-1, "a"),
		attr(12, "\x80"), attr(12, "a\xc3"), attr(12, "\xed\xa0\x80"), attr(12, "\xc0\x80"), attr(12, "\xf4\x90\x80\x80"), attr(12, "\xff"),
		attr(19, "a@"), attr(19, "a*"), attr(19, "\x00"), attr(19, "a_b"), attr(19, "\xc3\xa4"), attr(22, "\x80"), attr(22, "ab\xff"), attr(22, "\xc3\xa4"),
		{Oid: []uint64{3, 5}, Tag: 13, Text: "\xff"},
	}
}

func rightDates() []string {
	return []string{
		"19500101000000", "19500101000001", "19991231235959", "20000229000000", "20240101000000", "20240229235959", "20491231235959",
		"20500101000000", "20500228235959", "21000228000000", "24000229120000", "99991231235959",
	}
}

func wrongDates() []string { return append(wrongTimes(), "") }

// wrongTimes are wrong also where no time need be.
func wrongTimes() []string {
	return []string{
		"19491231235959", "19000101000000", "00000101000000", "09500101000000", "2024010100000", "202401010000000", "20240101000000Z",
		"240101000000Z", "240101000000", "20230229000000", "21000229000000", "20240230000000", "20240431000000", "20241301000000",
		"20240001000000", "20240100000000", "20240132000000", "20240101240000", "20240101006000", "20240101000060", "x", "Z", " ", "\x00",
		"2024010100000x", "x0240101000000", "20240101 00000", "2024010100000Z", "+2024010100000", "20240101000000\x00", "\x0020240101000000",
		"20240101000000.5", "20240101000000+0000", "2O240101000000", strings.Repeat("0", 14), strings.Repeat("9", 14), strings.Repeat("2", 300),
	}
}

func rightSerials() []string {
	l := []string{"\x00", "\x01", "\x05", "\x7f", "\x80", "\xff", "\x00\x80", "\x00\xff", "\xff\x00", "\xff\x7f", "\x01\x00", "\xfe\xff"}
	for _, n := range []int{20, 21, 22, 127, 128, 255, 256} {
		l = append(l, strings.Repeat("\x11", n), "\x00\x80"+strings.Repeat("\x00", n-2), "\xff\x7f"+strings.Repeat("\xff", n-2))
	}
	return l
}

func wrongSerials() []string {
	l := []string{"", "\x00\x00", "\x00\x01", "\x00\x7f", "\xff\xff", "\xff\x80", "\xff\xfe"}
	for _, n := range []int{3, 9, 20, 21, 22, 127, 128, 255, 256} {
		l = append(l, "\x00\x7f"+strings.Repeat("\xff", n-2), "\xff\x80"+strings.Repeat("\x00", n-2), strings.Repeat("\x00", n), strings.Repeat("\xff", n))
	}
	return l
}

// ext is an extension of a list's number.
func ext(critical bool, content string) api.Ext {
	return api.Ext{Oid: []uint64{2, 5, 29, 20}, Critical: critical, Value: content}
}

// plain is a list that has no more than each one must have.
func plain() api.Crl { return api.Crl{Alg: []uint64{1, 2}, This: "20240101000000"} }

// full is one that has each thing, more than once where it can.
func full() api.Crl {
	return api.Crl{
		Version2: true,
		Alg:      []uint64{1, 2, 840, 113549, 1, 1, 11},
		Issuer:   [][]api.Attr{{attr(19, "b"), attr(12, "a")}, {attr(22, "c@d")}, {attr(12, "z"), attr(12, "y"), attr(12, "x")}},
		This:     "20240101000000",
		Next:     "20500101000000",
		Entries: []api.Entry{
			{Serial: "\x05", Date: "19500101000000"},
			{Serial: "\x00\x80", Date: "20491231235959", Exts: []api.Ext{{Oid: []uint64{2, 5, 29, 21}, Value: "\x0a\x01\x01"}}},
			{Serial: strings.Repeat("\x11", 20), Date: "20500101000000", Exts: []api.Ext{ext(true, ""), ext(false, "v")}},
		},
		Exts:      []api.Ext{ext(false, "\x02\x01\x01"), ext(true, "")},
		Signature: "sig",
	}
}

const emptySet = "an empty set"

// spoiler makes a list wrong in a single thing.
type spoiler struct {
	name  string
	spoil func(c *api.Crl)
}

// spoilers are one for each wrong thing, in each place of the full list in which it can stand.
func spoilers() []spoiler {
	var l []spoiler
	add := func(name string, spoil func(c *api.Crl)) { l = append(l, spoiler{name, spoil}) }
	for _, arcs := range wrongOids() {
		add("the algorithm", func(c *api.Crl) { c.Alg = arcs })
		for i := range full().Exts {
			add("an extension's OID", func(c *api.Crl) { c.Exts[i].Oid = arcs })
		}
		for i := range full().Entries {
			for j := range full().Entries[i].Exts {
				add("an entry's extension's OID", func(c *api.Crl) { c.Entries[i].Exts[j].Oid = arcs })
			}
		}
	}
	for i := range full().Issuer {
		add(emptySet, func(c *api.Crl) { c.Issuer[i] = nil })
		add(emptySet, func(c *api.Crl) { c.Issuer[i] = []api.Attr{} })
		for j := range full().Issuer[i] {
			for _, a := range wrongAttrs() {
				add("an attribute", func(c *api.Crl) { c.Issuer[i][j] = a })
			}
		}
	}
	for _, date := range wrongDates() {
		add("the first time", func(c *api.Crl) { c.This = date })
		for i := range full().Entries {
			add("an entry's time", func(c *api.Crl) { c.Entries[i].Date = date })
		}
	}
	for _, date := range wrongTimes() {
		add("the second time", func(c *api.Crl) { c.Next = date })
	}
	for _, serial := range wrongSerials() {
		for i := range full().Entries {
			add("a serial number", func(c *api.Crl) { c.Entries[i].Serial = serial })
		}
	}
	return l
}

// The clones share nothing with what they are of; what is nil, or empty, is that in the clone too.

func cloneExts(l []api.Ext) []api.Ext {
	again := slices.Clone(l)
	for i := range again {
		again[i].Oid = slices.Clone(again[i].Oid)
	}
	return again
}

func cloneName(l [][]api.Attr) [][]api.Attr {
	again := slices.Clone(l)
	for i := range again {
		again[i] = slices.Clone(again[i])
		for j := range again[i] {
			again[i][j].Oid = slices.Clone(again[i][j].Oid)
		}
	}
	return again
}

func clone(c api.Crl) api.Crl {
	c.Alg, c.Issuer, c.Exts, c.Entries = slices.Clone(c.Alg), cloneName(c.Issuer), cloneExts(c.Exts), slices.Clone(c.Entries)
	for i := range c.Entries {
		c.Entries[i].Exts = cloneExts(c.Entries[i].Exts)
	}
	return c
}
