package source

import (
	"math"
	"slices"
	"testing"

	"gantlet/api"
)

// call is one Read, and what it must answer.
type call struct {
	n    int
	part string
	kind int
}

// check reads a source as the calls say, and holds its numbers against them behind each.
func check(t *testing.T, name string, s *Source, calls ...call) {
	t.Helper()
	if s.Calls() != 0 || s.Given() != 0 {
		t.Errorf("%s: new: %d calls, %d bytes", name, s.Calls(), s.Given())
	}
	given := 0
	for i, c := range calls {
		part, kind := s.Read(c.n)
		if part != c.part || kind != c.kind {
			t.Errorf("%s: call %d, Read(%d) = %q, %d, want %q, %d", name, i, c.n, part, kind, c.part, c.kind)
		}
		given += len(c.part)
		if s.Calls() != i+1 || s.Given() != given {
			t.Errorf("%s: behind call %d: %d calls, %d bytes, want %d, %d", name, i, s.Calls(), s.Given(), i+1, given)
		}
	}
}

func TestP3_1_ExampleOfTheChapter(t *testing.T) {
	s := New("abc", api.Step{N: 1, Kind: api.RMore}, api.Step{N: 0, Kind: api.RMore}, api.Step{N: 5, Kind: api.REnd})
	check(t, "example", s, call{9, "a", api.RMore}, call{9, "", api.RMore}, call{9, "bc", api.REnd})
}

func TestP3_1_NoSteps(t *testing.T) {
	check(t, "all at once", New("abc"), call{9, "abc", api.RMore}, call{9, "", api.REnd}, call{9, "", api.REnd})
	check(t, "just as many", New("abc"), call{3, "abc", api.RMore}, call{3, "", api.REnd})
	check(t, "in parts", New("abc"), call{2, "ab", api.RMore}, call{2, "c", api.RMore}, call{2, "", api.REnd})
	check(t, "nothing", New(""), call{9, "", api.REnd}, call{9, "", api.REnd})
	check(t, "nothing, none asked", New(""), call{0, "", api.REnd})
	check(t, "nothing, below 0 asked", New(""), call{-1, "", api.REnd})
	check(t, "none asked at the end", New("a"), call{1, "a", api.RMore}, call{0, "", api.REnd}, call{1, "", api.REnd})
	var none []api.Step
	check(t, "nil", New("a", none...), call{1, "a", api.RMore}, call{1, "", api.REnd})
	check(t, "an empty list", New("a", []api.Step{}...), call{1, "a", api.RMore}, call{1, "", api.REnd})
}

func TestP3_1_StepsOfEveryN(t *testing.T) {
	for _, c := range []struct {
		n    int
		part string
	}{
		{math.MinInt, ""}, {-3, ""}, {-1, ""}, {0, ""}, {1, "a"}, {2, "ab"}, {3, "abc"}, {4, "abc"}, {1 << 32, "abc"}, {math.MaxInt, "abc"},
	} {
		check(t, "a step's N", New("abc", api.Step{N: c.n}), call{9, c.part, api.RMore})
		check(t, "a call's n", New("abc", api.Step{N: 9}), call{c.n, c.part, api.RMore})
		check(t, "both", New("abc", api.Step{N: c.n}), call{c.n, c.part, api.RMore})
		check(t, "no step", New("abc"), call{c.n, c.part, api.RMore})
	}
	check(t, "no bytes", New("abc", api.Step{N: -1}), call{-2, "", api.RMore}, call{9, "abc", api.RMore})
	check(t, "the least of them", New("abcdef", api.Step{N: 4}, api.Step{N: 2}), call{3, "abc", api.RMore}, call{4, "de", api.RMore}, call{4, "f", api.RMore})
}

func TestP3_1_EachStepIsOneCall(t *testing.T) {
	// What a step would still allow is gone with its call, which may have asked for no bytes.
	s := New("abcdef", api.Step{N: 3}, api.Step{N: 2}, api.Step{N: 1})
	check(t, "less asked", s, call{1, "a", api.RMore}, call{0, "", api.RMore}, call{9, "b", api.RMore}, call{9, "cdef", api.RMore}, call{9, "", api.REnd})
}

func TestP3_1_BehindTheLastStep(t *testing.T) {
	s := New("abcdef", api.Step{N: 1})
	check(t, "no bound", s, call{9, "a", api.RMore}, call{3, "bcd", api.RMore}, call{-1, "", api.RMore}, call{9, "ef", api.RMore}, call{9, "", api.REnd}, call{9, "", api.REnd})
	// A step without bytes tells what its kind says; only behind it the end is told of itself.
	check(t, "steps without bytes", New("", api.Step{N: 3}, api.Step{N: 3}), call{4, "", api.RMore}, call{4, "", api.RMore}, call{4, "", api.REnd})
	check(t, "the last byte by a step", New("a", api.Step{N: 1}), call{9, "a", api.RMore}, call{9, "", api.REnd})
}

func TestP3_1_EndAsAStepsKind(t *testing.T) {
	end := func(n int) api.Step { return api.Step{N: n, Kind: api.REnd} }
	check(t, "bytes left by the step", New("abc", end(2), end(9)), call{9, "ab", api.RMore}, call{9, "c", api.REnd}, call{9, "", api.REnd})
	check(t, "bytes left by the call", New("abc", end(9)), call{2, "ab", api.RMore}, call{9, "c", api.RMore}, call{9, "", api.REnd})
	check(t, "none left", New("abc", end(3), api.Step{N: 9, Kind: api.RFail}), call{3, "abc", api.REnd}, call{3, "", api.REnd})
	check(t, "none ahead", New("", end(-1)), call{-1, "", api.REnd}, call{9, "", api.REnd})
	check(t, "none asked", New("abc", end(0)), call{9, "", api.RMore}, call{9, "abc", api.RMore})
	check(t, "a step behind the last byte", New("a", api.Step{N: 1}, end(0)), call{9, "a", api.RMore}, call{0, "", api.REnd})
}

func TestP3_1_FailAsAStepsKind(t *testing.T) {
	fail := func(n int) api.Step { return api.Step{N: n, Kind: api.RFail} }
	check(t, "with bytes", New("abc", fail(2)), call{9, "ab", api.RFail}, call{9, "", api.RFail})
	check(t, "with the last byte", New("abc", fail(9)), call{9, "abc", api.RFail}, call{9, "", api.RFail})
	check(t, "with none", New("abc", fail(0), api.Step{N: 9}), call{9, "", api.RFail}, call{9, "", api.RFail})
	check(t, "below 0", New("abc", fail(-1)), call{9, "", api.RFail})
	check(t, "of nothing", New("", fail(1)), call{9, "", api.RFail}, call{9, "", api.RFail})
	check(t, "none asked", New("abc", fail(1)), call{0, "", api.RFail}, call{1, "", api.RFail})
	check(t, "behind the last byte", New("a", api.Step{N: 1}, fail(1)), call{1, "a", api.RMore}, call{1, "", api.RFail}, call{1, "", api.RFail})
}

func TestP3_1_OtherKindsAreMore(t *testing.T) {
	for _, kind := range []int{api.RMore, 3, 7, -1, math.MinInt, math.MaxInt} {
		check(t, "a kind", New("abc", api.Step{N: 2, Kind: kind}, api.Step{N: 2, Kind: kind}), call{9, "ab", api.RMore}, call{9, "c", api.RMore}, call{9, "", api.REnd})
		check(t, "a kind of nothing", New("", api.Step{N: 2, Kind: kind}), call{9, "", api.RMore}, call{9, "", api.REnd})
	}
}

func TestP3_1_EveryByte(t *testing.T) {
	all := make([]byte, 256)
	for i := range all {
		all[i] = byte(i)
	}
	check(t, "at once", New(string(all)), call{256, string(all), api.RMore}, call{1, "", api.REnd})
	s := New(string(all))
	for i := range all {
		if part, kind := s.Read(1); part != string(all[i:i+1]) || kind != api.RMore {
			t.Errorf("byte %d: %q, %d", i, part, kind)
		}
	}
}

func TestP3_1_StepsStayTheCallers(t *testing.T) {
	room := []api.Step{{N: 1}, {N: 1}, {N: 1, Kind: api.RFail}, {N: 5, Kind: 9}}
	before := slices.Clone(room)
	s := New("abcdef", room[:2]...)
	s.Read(9)
	s.Read(9)
	s.Read(9)
	if !slices.Equal(room, before) {
		t.Errorf("the steps became %v", room)
	}
	// The source has steps of its own: a change behind New isn't seen.
	s = New("abcdef", room[:2]...)
	other := New("abcdef", room[:2]...)
	room[0], room[1] = api.Step{N: 4, Kind: api.RFail}, api.Step{N: 4, Kind: api.RFail}
	check(t, "changed steps", s, call{9, "a", api.RMore}, call{9, "b", api.RMore}, call{9, "cdef", api.RMore}, call{9, "", api.REnd})
	check(t, "another source", other, call{2, "a", api.RMore}, call{0, "", api.RMore}, call{9, "bcdef", api.RMore}, call{9, "", api.REnd})
}

func TestP3_2_NewOnesHaveNothing(t *testing.T) {
	s := New("abc", api.Step{N: 1, Kind: api.RFail})
	for range 3 {
		if s.Calls() != 0 || s.Given() != 0 {
			t.Errorf("%d calls, %d bytes", s.Calls(), s.Given())
		}
	}
}

func TestP3_2_CallsCountWithoutBytes(t *testing.T) {
	s := New("abc", api.Step{N: 0}, api.Step{N: 2, Kind: api.RFail})
	for i, want := range []int{0, 2, 2, 2, 2} {
		s.Read(5 - i)
		if s.Calls() != i+1 || s.Given() != want {
			t.Errorf("behind call %d: %d calls, %d bytes, want %d", i, s.Calls(), s.Given(), want)
		}
	}
}

func TestP3_2_ManyCalls(t *testing.T) {
	s := New("a", api.Step{N: 1, Kind: api.REnd})
	for range 100000 {
		s.Read(1)
	}
	if s.Calls() != 100000 || s.Given() != 1 {
		t.Errorf("%d calls, %d bytes", s.Calls(), s.Given())
	}
}

// model answers what the chapter says of a call, from all that was handed to the source and the calls ahead of this one.
func model(data string, steps []api.Step, asked []int) (part string, kind, given int) {
	over := false
	for i, n := range asked {
		part = ""
		if over {
			continue
		}
		bound, ends, fails := math.MaxInt, given == len(data), false
		if i < len(steps) {
			bound, ends, fails = steps[i].N, steps[i].Kind == api.REnd, steps[i].Kind == api.RFail
		}
		start := given
		for given < len(data) && given-start < n && given-start < bound {
			given++
		}
		part = data[start:given]
		kind = api.RMore
		if fails {
			kind = api.RFail
		} else if ends && given == len(data) {
			kind = api.REnd
		}
		over = kind != api.RMore
	}
	return part, kind, given
}

// everySteps is each list of steps with at most so many of them.
func everySteps(most int) [][]api.Step {
	lists := [][]api.Step{nil}
	for from := 0; most > 0; most-- {
		to := len(lists)
		for _, list := range lists[from:to] {
			for _, n := range []int{-1, 0, 1, 2, 9} {
				for _, kind := range []int{api.RMore, api.REnd, api.RFail, 7} {
					lists = append(lists, append(slices.Clone(list), api.Step{N: n, Kind: kind}))
				}
			}
		}
		from = to
	}
	return lists
}

func TestP3_1_P3_2_EveryShortScript(t *testing.T) {
	sizes := []int{-1, 0, 1, 2, 9}
	for _, data := range []string{"", "a", "ab", "abc"} {
		for _, steps := range everySteps(2) {
			for code := range len(sizes) * len(sizes) * len(sizes) {
				follow(t, data, steps, []int{sizes[code%5], sizes[code/5%5], sizes[code/25], 9, 9})
			}
		}
	}
}

// follow reads a source as asked, and holds each answer against the model's.
func follow(t *testing.T, data string, steps []api.Step, asked []int) {
	t.Helper()
	s := New(data, steps...)
	came := ""
	for i, n := range asked {
		part, kind := s.Read(n)
		wantPart, wantKind, wantGiven := model(data, steps, asked[:i+1])
		if part != wantPart || kind != wantKind {
			t.Fatalf("%q, %v, asked %v: %q, %d, want %q, %d", data, steps, asked[:i+1], part, kind, wantPart, wantKind)
		}
		came += part
		if s.Calls() != i+1 || s.Given() != wantGiven || came != data[:wantGiven] {
			t.Fatalf("%q, %v, asked %v: %d calls, %d bytes, %q came", data, steps, asked[:i+1], s.Calls(), s.Given(), came)
		}
	}
}
