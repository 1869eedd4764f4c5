package value

import (
	"strings"

	"gantlet/api"
)

// Where a content is wrong that isn't so with one of its bytes.
const (
	nowhere   = -1
	badLength = -2 // with its head's last byte
)

// spelling is a content of a universal tag, and the place at which it is wrong.
type spelling struct {
	tag int
	b   string
	at  int
}

// spellings are contents of each tag that a layer has.
func spellings() []spelling {
	return append(append(numberSpellings(), stringSpellings()...), timeSpellings()...)
}

func numberSpellings() []spelling {
	return []spelling{
		{api.TBool, "\x00", nowhere}, {api.TBool, "\xff", nowhere},
		{api.TBool, "\x05", 0}, {api.TBool, "\x01", 0}, {api.TBool, "\xfe", 0},
		{api.TBool, "", badLength}, {api.TBool, "\x00\x00", badLength},

		{api.TInteger, "\x00", nowhere}, {api.TInteger, "\xff", nowhere},
		{api.TInteger, "\x00\x80", nowhere}, {api.TInteger, "\xff\x7f", nowhere},
		{api.TInteger, "\x00\x7f", 1}, {api.TInteger, "\xff\x80", 1},
		{api.TInteger, "\x00\x05", 1}, {api.TInteger, "\x00\x00\x80\x00\x00", 1},
		{api.TInteger, "\x00\xff\xff\xff\xff\xff\xff\xff\xff", nowhere},
		{api.TInteger, "\x7f" + strings.Repeat("\x00", 19), nowhere},
		{api.TInteger, "", badLength},

		{api.TEnum, "\x0a", nowhere}, {api.TEnum, "\xff\x00", nowhere},
		{api.TEnum, "\x00\x0a", 1}, {api.TEnum, "\xff\xff\x00", 1}, {api.TEnum, "", badLength},

		{api.TNull, "", nowhere}, {api.TNull, "\x00", badLength}, {api.TNull, "\x05\x00", badLength},

		{api.TOid, "\x2a", nowhere}, {api.TOid, "\x2a\x86\x48", nowhere}, {api.TOid, "\x88\x37", nowhere},
		{api.TOid, "\x2a\x80\x01", 1}, {api.TOid, "\x80", 0}, {api.TOid, "\x80\x2a\x48", 0},
		{api.TOid, "\x2a\x86\x80", 2}, {api.TOid, "\x2a\x86", 1}, {api.TOid, "\x88", 0},
		{api.TOid, "\x2a\x81\x80\x80\x00", nowhere}, {api.TOid, "", badLength},

		{api.TBits, "\x00", nowhere}, {api.TBits, "\x05\xa0", nowhere}, {api.TBits, "\x07\xff\x80", nowhere},
		{api.TBits, "\x05\xb0", 1}, {api.TBits, "\x01", 0}, {api.TBits, "\x08\x00", 0},
		{api.TBits, "\x01\x01\x01\x01", 3}, {api.TBits, "\x01\x01\x01\x02", nowhere}, {api.TBits, "", badLength},
	}
}

func stringSpellings() []spelling {
	return []spelling{
		{api.TUtf8, "", nowhere}, {api.TUtf8, "Gr\xc3\xbc\xc3\x9fe!", nowhere}, {api.TUtf8, "\xf0\x9f\x98\x80", nowhere},
		{api.TUtf8, "\xc3", 0}, {api.TUtf8, "\x80a", 0}, {api.TUtf8, "\xe0\x80\x80", 1}, {api.TUtf8, "\xed\xa0\x80", 1},
		{api.TUtf8, "\xf4\x90\x80\x80", 1}, {api.TUtf8, "a\xc3\x28", 2}, {api.TUtf8, "\xf0\x9f\x98\x28", 3}, {api.TUtf8, "abc\xe2", 3},

		{api.TPrintable, "", nowhere}, {api.TPrintable, printable, nowhere},
		{api.TPrintable, "a@", 1}, {api.TPrintable, "*ab", 0}, {api.TPrintable, "a_b", 1},
		{api.TPrintable, "ab\x00", 2}, {api.TPrintable, "\xc3\xbc", 0},

		{api.TIa5, "", nowhere}, {api.TIa5, everyByte()[:128], nowhere},
		{api.TIa5, "\x80", 0}, {api.TIa5, "a\xc3\xbc", 1}, {api.TIa5, "ab\xff", 2},

		// Of other tags each content is right.
		{api.TOctets, "", nowhere}, {api.TOctets, everyByte(), nowhere}, {api.TOctets, "\x30\x80", nowhere},
		{7, everyByte(), nowhere}, {20, "\xff\xfe\x80", nowhere}, {28, "\xff", nowhere}, {api.MaxTag, "\x00\x05", nowhere},
	}
}

func timeSpellings() []spelling {
	return []spelling{
		{api.TUtc, "240229235959Z", nowhere}, {api.TUtc, "500101000000Z", nowhere}, {api.TUtc, "491231235959Z", nowhere},
		{api.TUtc, "230229000000Z", 5}, {api.TUtc, "x30228000000Z", 0}, {api.TUtc, "231328000000Z", 3},
		{api.TUtc, "230228000000z", 12}, {api.TUtc, "2302280000000", 12}, {api.TUtc, "230228006000Z", 8},
		{api.TUtc, "240229235959", badLength}, {api.TUtc, "240229235959ZZ", badLength}, {api.TUtc, "", badLength},
		{api.TUtc, "2402292359Z", badLength}, {api.TUtc, "20500101000000Z", badLength}, {api.TUtc, "240229235959+0000", badLength},

		{api.TGeneralized, "20500101000000Z", nowhere}, {api.TGeneralized, "99991231235959Z", nowhere},
		{api.TGeneralized, "20491231235959Z", 2}, {api.TGeneralized, "19991231235959Z", 0}, {api.TGeneralized, "21000229000000Z", 7},
		{api.TGeneralized, "20501231235960Z", 12}, {api.TGeneralized, "205012312359590", 14},
		{api.TGeneralized, "20500101000000", badLength}, {api.TGeneralized, "20500101000000.Z", badLength}, {api.TGeneralized, "", badLength},
		{api.TGeneralized, "240229235959Z", badLength}, {api.TGeneralized, "20500101000000.0Z", badLength},
	}
}

// element is a spelling's element, and what is told of it, if so many bytes stand ahead.
func (s spelling) element(ahead int) (string, told) {
	b := leaf(s.tag, s.b)
	begin := ahead + len(b) - len(s.b)
	switch s.at {
	case nowhere:
		return b, told{api.OK, ahead + len(b)}
	case badLength:
		return b, told{api.ErrValue, begin - 1}
	}
	return b, told{api.ErrValue, begin + s.at}
}
