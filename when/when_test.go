package when

import (
	"fmt"
	"math"
	"slices"
	"strings"
	"sync"
	"testing"
	"time"
	"unsafe"

	"gantlet/api"
)

// written is how a date is written, fourteen digits, with the library's calendar.
const written = "20060102150405"

// isDate tells what the chapter says of a date: that a moment of the calendar is written so.
func isDate(date string) bool {
	moment, err := time.Parse(written, date)
	return err == nil && moment.Format(written) == date
}

// dateOf is the date that a right content says; the empty text of others.
func dateOf(tag int, content string) string {
	digits, ok := strings.CutSuffix(content, "Z")
	switch {
	case !ok:
		return ""
	case tag == api.TUtc && len(digits) == 12 && digits < "50" && isDate("20"+digits):
		return "20" + digits
	case tag == api.TUtc && len(digits) == 12 && digits >= "50" && isDate("19"+digits):
		return "19" + digits
	case tag == api.TGeneralized && digits >= "2050" && isDate(digits):
		return digits
	}
	return ""
}

// putAs is what a date is put as: its tag, and its content; none of those of other years, and of other texts.
func putAs(date string) (int, string) {
	switch {
	case !isDate(date) || date < "1950":
		return 0, ""
	case date < "2050":
		return api.TUtc, date[2:] + "Z"
	}
	return api.TGeneralized, date + "Z"
}

// addBeginnings adds a text and all that it begins with.
func addBeginnings(set map[string]bool, text string) {
	for n := range len(text) + 1 {
		set[text[:n]] = true
	}
}

// shortYears and longYears are the years that a UTCTime and a GeneralizedTime can say, as they are written there.
var shortYears = sync.OnceValue(func() map[string]int {
	years := make(map[string]int)
	for year := 1950; year <= 2049; year++ {
		years[fmt.Sprint(year)[2:]] = year
	}
	return years
})

var longYears = sync.OnceValue(func() map[string]int {
	years := make(map[string]int)
	for year := 2050; year <= 9999; year++ {
		years[fmt.Sprint(year)] = year
	}
	return years
})

// beginYears are the beginnings of such years.
func beginYears(years map[string]int) map[string]bool {
	set := make(map[string]bool)
	for year := range years {
		addBeginnings(set, year)
	}
	return set
}

var beginShortYears = sync.OnceValue(func() map[string]bool { return beginYears(shortYears()) })

var beginLongYears = sync.OnceValue(func() map[string]bool { return beginYears(longYears()) })

// beginClocks are the beginnings of what stands behind a day, with all seconds that a day has.
var beginClocks = sync.OnceValue(func() map[string]bool {
	set := make(map[string]bool)
	for second := range 24 * 60 * 60 {
		addBeginnings(set, time.Unix(int64(second), 0).UTC().Format("150405")+"Z")
	}
	return set
})

// daysOf are the beginnings of a year's days, month and day, with all that the calendar has; kept by year.
var daysOf = make(map[int]map[string]bool)

func beginDays(year int) map[string]bool {
	if set, ok := daysOf[year]; ok {
		return set
	}
	set := make(map[string]bool)
	for day := time.Date(year, 1, 1, 0, 0, 0, 0, time.UTC); day.Year() == year; day = day.AddDate(0, 0, 1) {
		addBeginnings(set, day.Format("0102"))
	}
	daysOf[year] = set
	return set
}

// canBe tells whether some bytes behind these make a right content of n bytes: whether a year begins so, and then one of
// its days, and then one of a day's seconds.
func canBe(tag, n int, b string) bool {
	years, begin, digits := shortYears(), beginShortYears(), 2
	switch tag {
	case api.TUtc:
	case api.TGeneralized:
		years, begin, digits = longYears(), beginLongYears(), 4
	default:
		return false
	}
	if n != digits+4+6+1 {
		return false
	}
	if len(b) < digits {
		return begin[b]
	}
	year, ok := years[b[:digits]]
	rest := b[digits:]
	day := rest[:min(len(rest), 4)]
	return ok && beginDays(year)[day] && beginClocks()[rest[len(day):]]
}

// size is how many bytes a tag's contents have; 0 of other tags.
func size(tag int) int {
	switch tag {
	case api.TUtc:
		return 13
	case api.TGeneralized:
		return 15
	}
	return 0
}

// timeTags are the tags of the chapter.
func timeTags() []int { return []int{api.TUtc, api.TGeneralized} }

// otherTags are those of which no content is right: the other ones of api, those beside the chapter's, and some that
// are none.
func otherTags() []int {
	return []int{
		api.TBool, api.TInteger, api.TBits, api.TOctets, api.TNull, api.TOid, api.TEnum, api.TUtf8, api.TSequence, api.TSet,
		api.TPrintable, api.TIa5, 0, 7, 13, 15, 18, 20, 21, 25, 26, 30, 31, 255, 256, 256 + 23, 256 + 24, 1<<16 + 23, 1<<16 + 24,
		api.MaxTag, api.MaxTag + 1, 1<<32 + 23, 1<<32 + 24, math.MaxInt, -1, -23, -24, -256 + 23, -256 + 24, -1<<32 + 24, math.MinInt,
	}
}

// holdStart compares what Start tells with what it must, and answers the State. It ends the test, because most tests
// hold thousands of contents; Helper is called only then, because it takes far longer than what is compared.
func holdStart(t *testing.T, tag, n int, want bool) State {
	s, ok := Start(tag, n)
	if ok != want || !ok && s != (State{}) {
		t.Helper()
		t.Fatalf("Start(%d, %d) = %v, %t, want %t", tag, n, s, ok, want)
	}
	return s
}

// holdPush compares what Push tells of a byte with what it must, and ends the test likewise.
func holdPush(t *testing.T, s State, b byte, want bool) State {
	next, ok := s.Push(b)
	if ok != want || !ok && next != (State{}) {
		t.Helper()
		t.Fatalf("%v.Push(%q) = %v, %t, want %t", s, b, next, ok, want)
	}
	return next
}

// holdContent sees that each of the bytes is right where it stands, but the last one of them if that is wrong.
func holdContent(t *testing.T, tag int, b string, wrong bool) State {
	t.Helper()
	s := holdStart(t, tag, size(tag), true)
	for i := range len(b) {
		s = holdPush(t, s, b[i], !wrong || i < len(b)-1)
	}
	return s
}

// holdWays compares what is told of each of the bytes, behind what came, with what the chapter says; and so on, up to
// so many more, from each State that is answered.
func holdWays(t *testing.T, tag int, s State, came, bytes string, more int) {
	t.Helper()
	if more == 0 || len(came) == size(tag) {
		return
	}
	for i := range len(bytes) {
		b := came + bytes[i:i+1]
		ok := canBe(tag, size(tag), b)
		next := holdPush(t, s, bytes[i], ok)
		if ok {
			holdWays(t, tag, next, b, bytes, more-1)
		}
	}
}

// holdFrom does so from behind what came on.
func holdFrom(t *testing.T, tag int, came, bytes string, more int) {
	t.Helper()
	holdWays(t, tag, holdContent(t, tag, came, false), came, bytes, more)
}

// holdPut compares what Put tells with what it must, and ends the test likewise.
func holdPut(t *testing.T, date string, want int, wantContent string, wantOk bool) {
	if tag, content, ok := Put(date); tag != want || content != wantContent || ok != wantOk {
		t.Helper()
		t.Fatalf("Put(%q) = %d, %q, %t, want %d, %q, %t", date, tag, content, ok, want, wantContent, wantOk)
	}
}

// holdGet compares what Get tells with what it must, and ends the test likewise.
func holdGet(t *testing.T, tag int, content, want string, wantOk bool) {
	if date, ok := Get(tag, content); date != want || ok != wantOk {
		t.Helper()
		t.Fatalf("Get(%d, %q) = %q, %t, want %q, %t", tag, content, date, ok, want, wantOk)
	}
}

// holdDays compares what Days tells with what it must, and ends the test likewise.
func holdDays(t *testing.T, year, month, want int) {
	if days := Days(year, month); days != want {
		t.Helper()
		t.Fatalf("Days(%d, %d) = %d, want %d", year, month, days, want)
	}
}

// holdText compares what is told of a text as a content, of each tag, with what the chapter says; what is got is put
// again.
func holdText(t *testing.T, content string) {
	for _, tag := range timeTags() {
		date := dateOf(tag, content)
		holdGet(t, tag, content, date, date != "")
		if date != "" {
			holdPut(t, date, tag, content, true)
		}
	}
}

// holdDate compares what is told of a text as a date with what the chapter says; what is put is got again.
func holdDate(t *testing.T, date string) {
	tag, content := putAs(date)
	holdPut(t, date, tag, content, content != "")
	if content != "" {
		holdGet(t, tag, content, date, true)
	}
}

// everyText goes to each text of at most so many bytes, all of them of those given.
func everyText(bytes string, most int, visit func(b string)) {
	var from func(b string)
	from = func(b string) {
		visit(b)
		if len(b) == most {
			return
		}
		for i := range len(bytes) {
			from(b + bytes[i:i+1])
		}
	}
	from("")
}

// everyByte is all bytes, one behind the other.
func everyByte() string {
	b := make([]byte, 256)
	for i := range b {
		b[i] = byte(i)
	}
	return string(b)
}

// digits are all of them, and the bytes beside them.
const digits = "/0123456789:"

// with is a text with another byte at a place.
func with(text string, at, b int) string {
	return text[:at] + string([]byte{byte(b)}) + text[at+1:]
}

// spelled is a date, its tag and its content.
type spelled struct {
	date    string
	tag     int
	content string
}

// spellings are dates at the edges of the chapter, written out, rising.
func spellings() []spelled {
	return []spelled{
		{"19500101000000", api.TUtc, "500101000000Z"},
		{"19500101000001", api.TUtc, "500101000001Z"},
		{"19520229120000", api.TUtc, "520229120000Z"},
		{"19991231235959", api.TUtc, "991231235959Z"},
		{"20000101000000", api.TUtc, "000101000000Z"},
		{"20000229235959", api.TUtc, "000229235959Z"},
		{"20010131000059", api.TUtc, "010131000059Z"},
		{"20100930095900", api.TUtc, "100930095900Z"},
		{"20191010101010", api.TUtc, "191010101010Z"},
		{"20200229000000", api.TUtc, "200229000000Z"},
		{"20230228235959", api.TUtc, "230228235959Z"},
		{"20230301000000", api.TUtc, "230301000000Z"},
		{"20240229235959", api.TUtc, "240229235959Z"},
		{"20300430190909", api.TUtc, "300430190909Z"},
		{"20491231235959", api.TUtc, "491231235959Z"},
		{"20500101000000", api.TGeneralized, "20500101000000Z"},
		{"20520229000000", api.TGeneralized, "20520229000000Z"},
		{"20991231235959", api.TGeneralized, "20991231235959Z"},
		{"21000228235959", api.TGeneralized, "21000228235959Z"},
		{"21111111111111", api.TGeneralized, "21111111111111Z"},
		{"24000229200000", api.TGeneralized, "24000229200000Z"},
		{"30000131030405", api.TGeneralized, "30000131030405Z"},
		{"99960229235959", api.TGeneralized, "99960229235959Z"},
		{"99991231235959", api.TGeneralized, "99991231235959Z"},
	}
}

// dates are many, rising: in each year the first and the last second, and those about the end of each month, at an hour
// that goes with the day.
func dates() []string {
	var list []string
	for year := 1950; year <= 9999; year++ {
		for month := time.January; month <= time.December; month++ {
			if year > 2460 && month != time.January && month != time.February && month != time.December {
				continue
			}
			first := time.Date(year, month, 1, 0, 0, 0, 0, time.UTC)
			last := time.Date(year, month+1, 1, 0, 0, -1, 0, time.UTC)
			between := first.AddDate(0, 0, year%28).Add(time.Duration(year*int(month)*997%86400) * time.Second)
			list = append(list, first.Format(written), between.Format(written), last.Format(written))
		}
	}
	slices.Sort(list)
	return slices.Compact(list)
}

func TestP13_1_ExamplesOfTheChapter(t *testing.T) {
	holdContent(t, api.TUtc, "240229235959Z", false)
	// And the fifth example of the whole.
	holdContent(t, api.TUtc, "230229", true)
	holdContent(t, api.TGeneralized, "204", true)
}

func TestP13_1_HowManyBytes(t *testing.T) {
	list := []int{
		math.MinInt, math.MinInt + 13, math.MinInt + 15, -1 << 32, -1<<32 + 13, -1<<32 + 15, -256 + 13, -256 + 15, -15, -13,
		127, 128, 255, 256, 256 + 13, 256 + 15, 1<<16 + 13, 1<<16 + 15, 1 << 28, 1<<32 - 1, 1 << 32, 1<<32 + 13, 1<<32 + 15,
		api.MaxLen, api.MaxLen + 14, api.MaxLen + 16, math.MaxInt - 1, math.MaxInt,
	}
	for n := -3; n <= 40; n++ {
		list = append(list, n)
	}
	for _, n := range list {
		holdStart(t, api.TUtc, n, n == 13)
		holdStart(t, api.TGeneralized, n, n == 15)
		for _, tag := range otherTags() {
			holdStart(t, tag, n, false)
		}
	}
}

func TestP13_1_EachTagBesideOthers(t *testing.T) {
	for tag := -300; tag <= 600; tag++ {
		for n := range 20 {
			holdStart(t, tag, n, tag == 23 && n == 13 || tag == 24 && n == 15)
		}
	}
}

func TestP13_1_Spellings(t *testing.T) {
	for _, c := range spellings() {
		holdContent(t, c.tag, c.content, false)
	}
}

func TestP13_1_EveryByteAtEachPlace(t *testing.T) {
	for _, c := range spellings() {
		for at := range len(c.content) {
			holdFrom(t, c.tag, c.content[:at], everyByte(), 1)
		}
	}
}

func TestP13_1_YearsOfAUtcTime(t *testing.T) {
	for year := range 100 {
		holdContent(t, api.TUtc, fmt.Sprintf("%02d", year), false)
	}
	for b := range 256 {
		wrong := b < '0' || b > '9'
		holdContent(t, api.TUtc, string([]byte{byte(b)}), wrong)
		for first := range 10 {
			holdContent(t, api.TUtc, fmt.Sprint(first)+string([]byte{byte(b)}), wrong)
		}
	}
}

func TestP13_1_YearsOfAGeneralizedTime(t *testing.T) {
	for year := 2050; year <= 9999; year++ {
		holdContent(t, api.TGeneralized, fmt.Sprint(year), false)
	}
	// Each digit with which no year from 2050 on can come.
	for _, b := range []string{"0", "1", "200", "201", "202", "203", "204"} {
		holdContent(t, api.TGeneralized, b, true)
	}
	for _, b := range []string{"2", "3", "9", "20", "21", "30", "90", "99", "205", "209", "210", "300", "999", "2050", "2059", "2100", "3000", "9999"} {
		holdContent(t, api.TGeneralized, b, false)
	}
	holdFrom(t, api.TGeneralized, "", digits, 4)
}

func TestP13_1_Months(t *testing.T) {
	for _, c := range []struct {
		tag  int
		year string
	}{{api.TUtc, "00"}, {api.TUtc, "23"}, {api.TUtc, "49"}, {api.TUtc, "50"}, {api.TUtc, "99"}, {api.TGeneralized, "2050"}, {api.TGeneralized, "2400"}, {api.TGeneralized, "9999"}} {
		for month := range 20 {
			holdContent(t, c.tag, c.year+fmt.Sprintf("%02d", month), month < 1 || month > 12)
		}
		for first := 2; first <= 9; first++ {
			holdContent(t, c.tag, c.year+fmt.Sprint(first), true)
		}
	}
}

// yearKind is a year as a content begins with it, and whether it has a 29 February.
type yearKind struct {
	tag  int
	year string
	leap bool
}

// yearKinds are years that 4, 100 and 400 divide, and others.
func yearKinds() []yearKind {
	return []yearKind{
		{api.TUtc, "00", true}, // 2000
		{api.TUtc, "01", false},
		{api.TUtc, "04", true},
		{api.TUtc, "23", false},
		{api.TUtc, "24", true},
		{api.TUtc, "48", true},
		{api.TUtc, "49", false}, // 2049
		{api.TUtc, "50", false}, // 1950
		{api.TUtc, "52", true},
		{api.TUtc, "96", true},
		{api.TUtc, "98", false},
		{api.TUtc, "99", false},
		{api.TGeneralized, "2050", false},
		{api.TGeneralized, "2052", true},
		{api.TGeneralized, "2096", true},
		{api.TGeneralized, "2100", false},
		{api.TGeneralized, "2104", true},
		{api.TGeneralized, "2200", false},
		{api.TGeneralized, "2300", false},
		{api.TGeneralized, "2399", false},
		{api.TGeneralized, "2400", true},
		{api.TGeneralized, "2402", false},
		{api.TGeneralized, "2800", true},
		{api.TGeneralized, "3000", false},
		{api.TGeneralized, "4000", true},
		{api.TGeneralized, "9600", true},
		{api.TGeneralized, "9900", false},
		{api.TGeneralized, "9996", true},
		{api.TGeneralized, "9998", false},
		{api.TGeneralized, "9999", false},
	}
}

// lastDays is each month's last day, behind a place that no month has.
func lastDays(leap bool) []int {
	if leap {
		return []int{0, 31, 29, 31, 30, 31, 30, 31, 31, 30, 31, 30, 31}
	}
	return []int{0, 31, 28, 31, 30, 31, 30, 31, 31, 30, 31, 30, 31}
}

func TestP13_1_DaysOfEachMonth(t *testing.T) {
	for _, c := range yearKinds() {
		for month, last := range lastDays(c.leap) {
			if month == 0 {
				continue
			}
			begin := c.year + fmt.Sprintf("%02d", month)
			for first := range 10 {
				holdContent(t, c.tag, begin+fmt.Sprint(first), first > last/10)
			}
			for day := range last/10*10 + 10 {
				holdContent(t, c.tag, begin+fmt.Sprintf("%02d", day), day < 1 || day > last)
			}
		}
	}
}

func TestP13_1_FirstDigitOfADayInFebruary(t *testing.T) {
	for _, c := range yearKinds() {
		holdContent(t, c.tag, c.year+"02"+"3", true)
		holdContent(t, c.tag, c.year+"02"+"2", false)
		holdContent(t, c.tag, c.year+"02"+"29", !c.leap)
		holdContent(t, c.tag, c.year+"01"+"3", false)
		holdContent(t, c.tag, c.year+"03"+"3", false)
		holdContent(t, c.tag, c.year+"04"+"31", true)
	}
}

func TestP13_1_HoursMinutesAndSeconds(t *testing.T) {
	for _, day := range []struct {
		tag int
		day string
	}{{api.TUtc, "230131"}, {api.TUtc, "000229"}, {api.TGeneralized, "20500101"}, {api.TGeneralized, "99991231"}} {
		for hour := range 30 {
			holdContent(t, day.tag, day.day+fmt.Sprintf("%02d", hour), hour > 23)
		}
		for sixty := range 60 {
			holdContent(t, day.tag, day.day+"23"+fmt.Sprintf("%02d", sixty), false)
			holdContent(t, day.tag, day.day+"0059"+fmt.Sprintf("%02d", sixty), false)
		}
		for first := 3; first <= 9; first++ {
			holdContent(t, day.tag, day.day+fmt.Sprint(first), true)
		}
		// There is no second 60 either.
		for first := 6; first <= 9; first++ {
			holdContent(t, day.tag, day.day+"23"+fmt.Sprint(first), true)
			holdContent(t, day.tag, day.day+"2359"+fmt.Sprint(first), true)
		}
	}
}

func TestP13_1_TheLastByte(t *testing.T) {
	for _, c := range spellings() {
		begin := c.content[:len(c.content)-1]
		for b := range 256 {
			holdContent(t, c.tag, begin+string([]byte{byte(b)}), b != 'Z')
		}
	}
}

func TestP13_1_ZAheadOfTheLastByte(t *testing.T) {
	for _, c := range spellings() {
		for at := range len(c.content) - 1 {
			holdContent(t, c.tag, c.content[:at]+"Z", true)
			holdContent(t, c.tag, c.content[:at]+"z", true)
		}
	}
}

func TestP13_1_BytesBesideTheDigits(t *testing.T) {
	wrong := "/:.,+- \x00\x09\x0a\x1f;@AaZz\x7f\x80\xb0\xb2\xb9\xc0\xff"
	for _, c := range spellings() {
		for at := range len(c.content) - 1 {
			for _, b := range []byte(wrong) {
				holdContent(t, c.tag, c.content[:at]+string([]byte{b}), true)
			}
		}
	}
}

func TestP13_1_EveryTwoFirstBytes(t *testing.T) {
	for _, tag := range timeTags() {
		holdFrom(t, tag, "", everyByte(), 2)
	}
}

func TestP13_1_EveryDayOfAUtcTime(t *testing.T) {
	holdFrom(t, api.TUtc, "", digits, 6)
}

func TestP13_1_EveryDayOfManyYears(t *testing.T) {
	// Leap years come again after 400.
	for year := 2050; year <= 2460; year++ {
		holdFrom(t, api.TGeneralized, fmt.Sprint(year), digits, 4)
	}
	for year := 2500; year <= 9900; year += 100 {
		for _, near := range []int{year - 1, year, year + 4, year + 99} {
			holdFrom(t, api.TGeneralized, fmt.Sprint(near)+"0", digits, 3)
		}
	}
}

func TestP13_1_EverySecondOfADay(t *testing.T) {
	holdFrom(t, api.TUtc, "240229", digits+"Zz", 7)
	holdFrom(t, api.TGeneralized, "20501231", digits+"Zz", 7)
}

// begun are contents in each state in which they can be.
func begun() []spelled {
	var list []spelled
	for _, c := range spellings() {
		for at := range len(c.content) {
			list = append(list, spelled{c.date, c.tag, c.content[:at]})
		}
	}
	return list
}

func TestP13_1_PushChangesNoState(t *testing.T) {
	for _, c := range begun() {
		var can [256]bool
		for b := range can {
			can[b] = canBe(c.tag, size(c.tag), c.content+string([]byte{byte(b)}))
		}
		s := holdContent(t, c.tag, c.content, false)
		was := s
		// Each byte comes behind each other one: what is told of it hangs on none that was pushed ahead of it.
		for first := range 256 {
			for second := range 128 {
				holdPush(t, s, byte(first), can[first])
				holdPush(t, s, byte(second), can[second])
			}
		}
		if s != was {
			t.Fatalf("behind %q: %v, it was %v", c.content, s, was)
		}
	}
}

func TestP13_1_EitherStateGoesOn(t *testing.T) {
	// Two go on from one, by turns: what comes to one of them is nothing to the other.
	s := holdContent(t, api.TUtc, "2", false)
	three, four := holdPush(t, s, '3', true), holdPush(t, s, '4', true)
	holdPush(t, s, ':', false)
	for _, b := range []byte("022") {
		three, four = holdPush(t, three, b, true), holdPush(t, four, b, true)
		holdPush(t, three, 'Z', false)
	}
	holdPush(t, three, '9', false)
	holdPush(t, four, '9', true)
	holdPush(t, three, '8', true)
	holdPush(t, s, '0', true)
	// The same, with months one of which is shorter, and years of both tags.
	s = holdContent(t, api.TGeneralized, "21000", false)
	february, march := holdPush(t, s, '2', true), holdPush(t, s, '3', true)
	holdPush(t, february, '3', false)
	march = holdPush(t, march, '3', true)
	february = holdPush(t, february, '2', true)
	holdPush(t, march, '2', false)
	holdPush(t, february, '9', false)
	holdPush(t, march, '1', true)
	holdPush(t, february, '8', true)
}

func TestP13_1_StatesKnowNothingOfEachOther(t *testing.T) {
	fresh := holdStart(t, api.TGeneralized, 15, true)
	leap := holdContent(t, api.TUtc, "24022", false)
	last := holdContent(t, api.TUtc, "491231235959", false)
	hour := holdContent(t, api.TGeneralized, "999912312", false)
	holdContent(t, api.TUtc, "230229", true)
	holdContent(t, api.TUtc, "23013", false)
	holdContent(t, api.TGeneralized, "1", true)
	holdContent(t, api.TGeneralized, "205001010000001", true)
	holdStart(t, api.TUtc, 15, false)
	holdPush(t, leap, '9', true)
	holdPush(t, last, '0', false)
	holdPush(t, last, 'Z', true)
	holdPush(t, hour, '4', false)
	holdPush(t, hour, '3', true)
	holdPush(t, fresh, '1', false)
	holdPush(t, fresh, '2', true)
}

func TestP13_2_ExamplesOfTheChapter(t *testing.T) {
	holdGet(t, api.TUtc, "240229235959Z", "20240229235959", true)
	holdPut(t, "20240229235959", api.TUtc, "240229235959Z", true)
	holdGet(t, api.TUtc, "230229000000Z", "", false)
	holdGet(t, api.TGeneralized, "20401231000000Z", "", false)
}

func TestP13_2_Spellings(t *testing.T) {
	for _, c := range spellings() {
		holdPut(t, c.date, c.tag, c.content, true)
		holdGet(t, c.tag, c.content, c.date, true)
		holdGet(t, api.TUtc+api.TGeneralized-c.tag, c.content, "", false)
	}
}

func TestP13_2_WhichTagAYearHas(t *testing.T) {
	for year := range 10000 {
		four := fmt.Sprintf("%04d", year)
		for _, rest := range []string{"0101000000", "0615123456", "1231235959"} {
			switch {
			case year < 1950:
				holdPut(t, four+rest, 0, "", false)
			case year < 2050:
				holdPut(t, four+rest, api.TUtc, four[2:]+rest+"Z", true)
			default:
				holdPut(t, four+rest, api.TGeneralized, four+rest+"Z", true)
			}
		}
	}
}

func TestP13_2_WhichYearTwoDigitsSay(t *testing.T) {
	for year := range 100 {
		two := fmt.Sprintf("%02d", year)
		century := "20"
		if year >= 50 {
			century = "19"
		}
		holdGet(t, api.TUtc, two+"0703011122Z", century+two+"0703011122", true)
	}
}

func TestP13_2_WhichYearsFourDigitsSay(t *testing.T) {
	for year := range 10000 {
		date := fmt.Sprintf("%04d0703011122", year)
		if year < 2050 {
			holdGet(t, api.TGeneralized, date+"Z", "", false)
			continue
		}
		holdGet(t, api.TGeneralized, date+"Z", date, true)
	}
}

func TestP13_2_DatesAheadOf1950(t *testing.T) {
	for _, date := range []string{
		"00000101000000", "00000229000000", "00491231235959", "00500101000000", "00990101000000", "10000101000000", "18991231235959",
		"19000228235959", "19240229235959", "19491231235959", "19491231000000", "19490101000000", "15820101000000", "16000229000000",
	} {
		if !isDate(date) {
			t.Fatalf("%q isn't a date", date)
		}
		holdPut(t, date, 0, "", false)
	}
}

func TestP13_2_ManyDates(t *testing.T) {
	for _, date := range dates() {
		holdDate(t, date)
	}
}

// wrongDates are texts that are no dates, though as long: each part just beyond its bounds, in years of each kind.
func wrongDates() []string {
	var list []string
	for _, year := range []string{"1950", "1952", "1999", "2000", "2023", "2024", "2049", "2050", "2052", "2100", "2400", "9999"} {
		for _, rest := range []string{
			"0001000000", "1301000000", "2001000000", "9901000000", "0100000000", "0132000000", "0230000000", "0231000000", "0299000000",
			"0332000000", "0431000000", "0532000000", "0631000000", "0732000000", "0832000000", "0931000000", "1032000000", "1131000000",
			"1232000000", "0101240000", "0101250000", "0101300000", "0101990000", "0101006000", "0101009900", "0101000060", "0101000061",
			"0101000099", "1231235960", "1231240000", "0000000000", "9999999999",
		} {
			list = append(list, year+rest)
		}
	}
	for _, year := range []string{"1950", "1951", "1953", "2001", "2023", "2049", "2050", "2099", "2100", "2200", "2300", "2500", "9900", "9999"} {
		list = append(list, year+"0229000000", year+"0229235959")
	}
	return list
}

func TestP13_2_WrongDates(t *testing.T) {
	for _, date := range wrongDates() {
		holdPut(t, date, 0, "", false)
		holdGet(t, api.TGeneralized, date+"Z", "", false)
		// Its two digits may say a year that has the day, as 2000 where the date says 2100.
		holdText(t, date[2:]+"Z")
		if date >= "1950" && date < "2050" {
			holdGet(t, api.TUtc, date[2:]+"Z", "", false)
		}
	}
}

func TestP13_2_DatesOfOtherLengths(t *testing.T) {
	holdPut(t, "", 0, "", false)
	for _, c := range spellings() {
		for n := range len(c.date) {
			holdPut(t, c.date[:n], 0, "", false)
			holdPut(t, c.date[n+1:], 0, "", false)
		}
		for _, more := range []string{"0", "1", "9", "Z", "z", " ", "\x00", ".0", "00", "+0000", strings.Repeat("0", 242), strings.Repeat("0", 256)} {
			holdPut(t, c.date+more, 0, "", false)
			holdPut(t, more+c.date, 0, "", false)
		}
		// Contents aren't dates, though one of them may be as long.
		holdPut(t, c.content, 0, "", false)
		holdPut(t, "0"+c.content, 0, "", false)
		holdPut(t, c.content+"Z", 0, "", false)
	}
}

func TestP13_2_EveryByteAtEachPlaceOfADate(t *testing.T) {
	for _, c := range spellings() {
		for at := range len(c.date) {
			for b := range 256 {
				holdDate(t, with(c.date, at, b))
			}
		}
	}
}

func TestP13_2_EveryByteAtTwoPlacesOfADate(t *testing.T) {
	for at := range 13 {
		for first := range 256 {
			for _, second := range []int{0, '/', '0', '5', '9', ':', 'Z', 0xb0, 0xff} {
				holdDate(t, with(with("20240229235959", at, first), at+1, second))
				holdDate(t, with(with("20500131000000", at, first), at+1, second))
			}
		}
	}
}

func TestP13_2_CenturiesOfADate(t *testing.T) {
	// Behind each text of two bytes, digits or not, the same rest: only few of them are centuries.
	for first := range 256 {
		for second := range 256 {
			century := string([]byte{byte(first), byte(second)})
			for _, rest := range []string{"240229235959", "500101000000", "491231235959"} {
				holdDate(t, century+rest)
			}
		}
	}
}

func TestP13_2_OtherTags(t *testing.T) {
	for _, tag := range otherTags() {
		holdGet(t, tag, "", "", false)
		for _, c := range spellings() {
			holdGet(t, tag, c.content, "", false)
			holdGet(t, tag, c.date, "", false)
		}
	}
}

func TestP13_2_ContentsOfOtherLengths(t *testing.T) {
	for _, tag := range timeTags() {
		holdGet(t, tag, "", "", false)
		for _, c := range spellings() {
			for n := range len(c.content) {
				holdGet(t, tag, c.content[:n], "", false)
				if n+1 != size(tag) {
					holdGet(t, tag, c.content[:n]+"Z", "", false)
				}
			}
			for _, more := range []string{"Z", "0", "00", "0Z", "00Z", ".0Z", "+0000", "\x00", strings.Repeat("0", 255) + "Z", strings.Repeat("Z", 256)} {
				holdGet(t, tag, c.content+more, "", false)
				holdGet(t, tag, c.date+more+more, "", false)
			}
			holdGet(t, tag, "Z"+c.content, "", false)
			holdGet(t, tag, c.date, "", false)
		}
	}
}

func TestP13_2_OtherWaysToSayATime(t *testing.T) {
	// Without seconds, with parts of a second, with another zone, or with none.
	for _, content := range []string{
		"2402292359Z", "2402292359+0000", "240229235959+0000", "240229235959-0100", "240229235959", "240229235959z", "240229235959 ",
		"24022923595Z0", "24 229235959Z", "+40229235959Z", "-40229235959Z", "24.229235959Z", "0240229235959Z",
		"2050010100Z", "205001010000Z", "20500101000000", "20500101000000z", "20500101000000.0Z", "20500101000000.Z", "20500101000000,5Z",
		"20500101000000+0000", "2050010100000.Z", "205001010000.5Z", "20500101 00000Z", "+2050010100000Z", "02050010100000Z",
	} {
		for _, tag := range timeTags() {
			holdGet(t, tag, content, "", false)
		}
		holdText(t, content)
	}
}

func TestP13_2_P13_3_EveryByteAtEachPlace(t *testing.T) {
	for _, c := range spellings() {
		for at := range len(c.content) {
			for b := range 256 {
				holdText(t, with(c.content, at, b))
			}
		}
	}
}

func TestP13_2_P13_3_EveryTwoDigits(t *testing.T) {
	for _, c := range spellings() {
		for at := range len(c.content) - 2 {
			for two := range 100 {
				holdText(t, c.content[:at]+fmt.Sprintf("%02d", two)+c.content[at+2:])
			}
		}
	}
}

func TestP13_2_ShortTexts(t *testing.T) {
	everyText("012Z", 5, func(b string) {
		holdText(t, b)
		holdDate(t, b)
	})
	for b := range 256 {
		holdText(t, string([]byte{byte(b)}))
		for _, n := range []int{13, 14, 15} {
			holdText(t, strings.Repeat(string([]byte{byte(b)}), n))
			holdDate(t, strings.Repeat(string([]byte{byte(b)}), n))
		}
	}
}

func TestP13_2_LongTexts(t *testing.T) {
	for _, n := range []int{1 << 8, 1<<8 + 13, 1<<8 + 14, 1<<8 + 15, 1 << 16, 1<<16 + 13, 1<<16 + 14, 1<<16 + 15} {
		for _, part := range []string{"0", "1", "20240229235959", "240229235959Z", "20500101000000Z"} {
			b := strings.Repeat(part, n)[:n]
			holdText(t, b)
			holdDate(t, b)
		}
	}
}

func TestP13_2_GetGoesByStartAndPush(t *testing.T) {
	// A content is got if each of its bytes can come.
	for _, c := range spellings() {
		for at := range len(c.content) {
			for b := range 256 {
				content := with(c.content, at, b)
				s, can := Start(c.tag, len(content))
				for i := 0; can && i < len(content); i++ {
					s, can = s.Push(content[i])
				}
				if _, ok := Get(c.tag, content); ok != can {
					t.Fatalf("Get(%d, %q): %t; byte by byte: %t", c.tag, content, ok, can)
				}
			}
		}
	}
}

func TestP13_2_AnswersAreNewMemory(t *testing.T) {
	for _, c := range spellings() {
		// Each text's memory is its own, so that one answered from within it would be seen.
		content, date := strings.Clone(c.content), strings.Clone(c.date)
		got, _ := Get(c.tag, content)
		if unsafe.StringData(got) == unsafe.StringData(content) {
			t.Fatalf("Get(%d, %q) answers what it was handed", c.tag, content)
		}
		again, _ := Get(c.tag, content)
		if unsafe.StringData(got) == unsafe.StringData(again) {
			t.Fatalf("Get(%d, %q) answers what it answered", c.tag, content)
		}
		_, put, _ := Put(date)
		if unsafe.StringData(put) == unsafe.StringData(date) || unsafe.StringData(put) == unsafe.StringData(date[2:]) {
			t.Fatalf("Put(%q) answers what it was handed", date)
		}
	}
}

func TestP13_2_DaysOfEachMonth(t *testing.T) {
	for year := range 10000 {
		for month := 1; month <= 12; month++ {
			// The day ahead of the next month's first one.
			last := time.Date(year, time.Month(month+1), 0, 0, 0, 0, 0, time.UTC)
			holdDays(t, year, month, last.Day())
		}
	}
}

func TestP13_2_DaysWrittenOut(t *testing.T) {
	for _, c := range []struct {
		year int
		leap bool
	}{
		{0, true}, {1, false}, {4, true}, {100, false}, {400, true}, {1582, false}, {1600, true}, {1700, false}, {1800, false}, {1900, false},
		{1950, false}, {1996, true}, {1999, false}, {2000, true}, {2023, false}, {2024, true}, {2026, false}, {2100, false}, {2400, true},
		{9600, true}, {9700, false}, {9900, false}, {9996, true}, {9998, false}, {9999, false},
	} {
		for month, days := range lastDays(c.leap) {
			holdDays(t, c.year, month, days)
		}
	}
}

func TestP13_2_DaysOfNoMonth(t *testing.T) {
	far := []int{-1 << 32, -1<<32 + 1, -1<<32 + 2, 1 << 32, 1<<32 + 1, 1<<32 + 2, 1 << 61, math.MinInt, math.MinInt + 1, math.MinInt + 2, math.MaxInt - 1, math.MaxInt}
	for _, year := range []int{0, 1, 4, 1900, 2000, 2023, 2024, 9999} {
		for month := -300; month <= 300; month++ {
			if month < 1 || month > 12 {
				holdDays(t, year, month, 0)
			}
		}
		for _, month := range far {
			holdDays(t, year, month, 0)
		}
	}
}

func TestP13_2_DaysOfNoYear(t *testing.T) {
	years := []int{
		-1, -2, -4, -100, -400, -2000, -9999, -10000, 10000, 10001, 10004, 12000, 20000, 65536, 65536 + 2000, 1 << 32, 1<<32 + 2000,
		-1<<32 + 2000, 1 << 61, math.MinInt, math.MinInt + 1, math.MinInt + 2000, math.MaxInt - 1, math.MaxInt,
	}
	for _, year := range years {
		for month := -2; month <= 15; month++ {
			holdDays(t, year, month, 0)
		}
		holdDays(t, year, math.MaxInt, 0)
		holdDays(t, year, math.MinInt, 0)
	}
}

func TestP13_3_WhatIsPutIsGot(t *testing.T) {
	for _, date := range dates() {
		tag, content, ok := Put(date)
		if !ok {
			t.Fatalf("Put(%q) = false", date)
		}
		holdGet(t, tag, content, date, true)
	}
}

func TestP13_3_WhatIsGotIsPutAsItWas(t *testing.T) {
	for year := range 100 {
		for month := range 20 {
			for _, rest := range []string{"00000000Z", "01000000Z", "28235959Z", "29101112Z", "30200000Z", "31095959Z", "32000000Z"} {
				content := fmt.Sprintf("%02d%02d", year, month) + rest
				for _, c := range []spelled{{"", api.TUtc, content}, {"", api.TGeneralized, "20" + content}, {"", api.TGeneralized, "24" + content}} {
					if date, ok := Get(c.tag, c.content); ok {
						holdPut(t, date, c.tag, c.content, true)
					}
				}
			}
		}
	}
}

func TestP13_3_WhatIsPutIsRight(t *testing.T) {
	for _, date := range dates() {
		tag, content, _ := Put(date)
		if len(content) != size(tag) {
			t.Fatalf("Put(%q) = %d, %q", date, tag, content)
		}
		holdContent(t, tag, content, false)
	}
}

func TestP13_3_OneContent(t *testing.T) {
	of := make(map[string]string)
	for _, date := range dates() {
		tag, content, _ := Put(date)
		if other, ok := of[content]; ok {
			t.Fatalf("%q and %q are both put as %q", other, date, content)
		}
		of[content] = date
		// With the other tag, and as the other tag has it, it says another date, or none.
		for _, other := range timeTags() {
			for _, c := range []string{date[2:] + "Z", date + "Z"} {
				if got, ok := Get(other, c); ok && got == date && (other != tag || c != content) {
					t.Fatalf("Get(%d, %q) = %q, as of %d, %q", other, c, got, tag, content)
				}
			}
		}
	}
}

func TestP13_3_TheLaterDateIsTheGreaterText(t *testing.T) {
	// One moment behind the other, not sorted as texts: from 1950 on, so that the steps come to each part of a date.
	moment := time.Date(1950, 1, 1, 0, 0, 0, 0, time.UTC)
	last := ""
	for step := time.Second; moment.Year() <= 9999; moment = moment.Add(step) {
		date := moment.Format(written)
		tag, content := putAs(date)
		got, ok := Get(tag, content)
		if !ok || got <= last {
			t.Fatalf("Get(%d, %q) = %q, %t, behind %q", tag, content, got, ok, last)
		}
		last = got
		step = min(step+step/64+time.Second, 200*24*time.Hour+time.Hour+time.Minute+time.Second)
	}
}
