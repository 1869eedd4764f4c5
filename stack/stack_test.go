package stack

import (
	"math"
	"slices"
	"testing"

	"gantlet/api"
)

// holdState compares what Depth and Left tell with what they must. It ends the test, because some tests hold thousands
// of stacks; Helper is called only then, because it takes far longer than what is compared.
func holdState(t *testing.T, s *Stack, depth, left int) {
	if s.Depth() != depth || s.Left() != left {
		t.Helper()
		t.Fatalf("%d are open, %d bytes are left, want %d, %d", s.Depth(), s.Left(), depth, left)
	}
}

// holdEnter compares what Enter tells with what it must, and ends the test likewise.
func holdEnter(t *testing.T, s *Stack, n int, want api.Errno) {
	depth, left := s.Depth(), s.Left()
	if err := s.Enter(n); err != want {
		t.Helper()
		t.Fatalf("Enter(%d) = %d with %d open and %d bytes left, want %d", n, err, depth, left, want)
	}
}

// holdTake compares what Take tells with what it must, and ends the test likewise.
func holdTake(t *testing.T, s *Stack, want api.Errno) {
	depth, left := s.Depth(), s.Left()
	if err := s.Take(); err != want {
		t.Helper()
		t.Fatalf("Take() = %d with %d open and %d bytes left, want %d", err, depth, left, want)
	}
}

// holdLeave compares what Leave tells with what it must, and ends the test likewise.
func holdLeave(t *testing.T, s *Stack, want bool) {
	depth, left := s.Depth(), s.Left()
	if ok := s.Leave(); ok != want {
		t.Helper()
		t.Fatalf("Leave() = %t with %d open and %d bytes left, want %t", ok, depth, left, want)
	}
}

// holdTakes takes so many bytes, each of which must come.
func holdTakes(t *testing.T, s *Stack, n int) {
	for range n {
		holdTake(t, s, api.OK)
	}
}

// entered is a stack of a depth into which elements of these sizes were entered.
func entered(t *testing.T, depth int, sizes ...int) *Stack {
	t.Helper()
	s := New(depth)
	for i, n := range sizes {
		holdEnter(t, s, n, api.OK)
		holdState(t, s, i+1, n)
	}
	return s
}

// lefts is what each open element has left, the outermost one's first. It takes all of that from a copy, so it is for
// small elements alone.
func lefts(t *testing.T, s *Stack) []int {
	c := s.Copy()
	var list []int
	for range s.Depth() {
		left := c.Left()
		holdTakes(t, c, left)
		holdTake(t, c, api.ErrFit)
		holdLeave(t, c, true)
		list = append(list, left)
	}
	holdState(t, c, 0, -1)
	slices.Reverse(list)
	return list
}

// holdLefts compares what each open element has left with what it must have, the outermost one's first.
func holdLefts(t *testing.T, s *Stack, want ...int) {
	t.Helper()
	if got := lefts(t, s); !slices.Equal(got, want) {
		t.Fatalf("%v bytes are left, want %v", got, want)
	}
}

// depths are those that New may be handed, each with how many elements can be open.
func depths() [][2]int {
	return [][2]int{
		{math.MinInt, 0}, {-1 << 32, 0}, {-1<<32 + 5, 0}, {-65, 0}, {-64, 0}, {-2, 0}, {-1, 0},
		{0, 0}, {1, 1}, {2, 2}, {3, 3}, {31, 31}, {62, 62}, {63, 63}, {64, 64},
		{65, 64}, {66, 64}, {128, 64}, {256, 64}, {1 << 32, 64}, {1<<32 + 3, 64}, {math.MaxInt, 64},
	}
}

// beyond are sizes that no element has.
func beyond() []int {
	return []int{math.MinInt, math.MinInt + 1, -1 << 61, -1 << 32, -1<<32 + 1, -256, -2, -1}
}

func TestP8_1_ExampleOfTheChapter(t *testing.T) {
	s := New(2)
	holdEnter(t, s, 5, api.OK)
	holdEnter(t, s, 6, api.ErrFit)
	holdEnter(t, s, 5, api.OK)
	holdEnter(t, s, 0, api.ErrDepth)
	holdTake(t, s, api.OK)
	holdState(t, s, 2, 4)
}

func TestP8_1_NoneIsOpen(t *testing.T) {
	for _, d := range depths() {
		s := New(d[0])
		holdState(t, s, 0, -1)
		holdLeave(t, s, false)
		// Nothing happens, however many bytes come.
		holdTakes(t, s, 100)
		holdLeave(t, s, false)
		holdState(t, s, 0, -1)
		holdLefts(t, s)
	}
}

func TestP8_1_DepthsOfElementsWithoutBytes(t *testing.T) {
	for _, d := range depths() {
		s := New(d[0])
		for i := range d[1] {
			holdEnter(t, s, 0, api.OK)
			holdState(t, s, i+1, 0)
		}
		holdEnter(t, s, 0, api.ErrDepth)
		holdEnter(t, s, 0, api.ErrDepth)
		for i := d[1] - 1; i >= 0; i-- {
			holdState(t, s, i+1, 0)
			holdTake(t, s, api.ErrFit)
			holdLeave(t, s, true)
		}
		holdState(t, s, 0, -1)
		holdLeave(t, s, false)
	}
}

func TestP8_1_DepthsOfElementsWithBytes(t *testing.T) {
	for _, d := range depths() {
		s := New(d[0])
		var want []int
		// Each one has one byte more than those within it.
		for i := range d[1] {
			holdEnter(t, s, 100-i, api.OK)
			holdState(t, s, i+1, 100-i)
			want = append(want, 1)
		}
		if d[1] > 0 {
			want[d[1]-1] = 100 - (d[1] - 1)
		}
		holdLefts(t, s, want...)
		holdEnter(t, s, 0, api.ErrDepth)
		holdEnter(t, s, 1, api.ErrDepth)
		holdLefts(t, s, want...)
	}
}

func TestP8_1_WhatWasLeftMakesRoom(t *testing.T) {
	for _, d := range depths() {
		if d[1] == 0 {
			continue
		}
		s := New(d[0])
		for range d[1] {
			holdEnter(t, s, 0, api.OK)
		}
		for range 70 {
			holdEnter(t, s, 0, api.ErrDepth)
			holdLeave(t, s, true)
			holdEnter(t, s, 0, api.OK)
		}
		holdState(t, s, d[1], 0)
		holdEnter(t, s, 0, api.ErrDepth)
	}
}

func TestP8_1_SmallSizes(t *testing.T) {
	s := New(64)
	holdEnter(t, s, -1, api.ErrArg)
	holdState(t, s, 0, -1)
	// Of no bytes: none may come, nor an element with any, but one without.
	holdEnter(t, s, 0, api.OK)
	holdState(t, s, 1, 0)
	holdTake(t, s, api.ErrFit)
	holdEnter(t, s, 1, api.ErrFit)
	holdEnter(t, s, -1, api.ErrArg)
	holdEnter(t, s, 0, api.OK)
	holdLefts(t, s, 0, 0)
	holdLeave(t, s, true)
	holdLeave(t, s, true)
	// Of one byte: just one.
	holdEnter(t, s, 1, api.OK)
	holdState(t, s, 1, 1)
	holdLeave(t, s, false)
	holdTake(t, s, api.OK)
	holdState(t, s, 1, 0)
	holdTake(t, s, api.ErrFit)
	holdState(t, s, 1, 0)
	holdLeave(t, s, true)
	holdLeave(t, s, false)
	holdState(t, s, 0, -1)
}

func TestP8_1_SizesBeyond(t *testing.T) {
	for _, n := range beyond() {
		for _, d := range depths() {
			holdEnter(t, New(d[0]), n, api.ErrArg)
		}
		// Neither of the other errors goes ahead of it: nothing is left, and one more can't be open.
		s := entered(t, 2, 4, 0)
		holdEnter(t, s, n, api.ErrArg)
		holdLefts(t, s, 4, 0)
		holdLeave(t, s, true)
		holdEnter(t, s, n, api.ErrArg)
		holdLefts(t, s, 4)
	}
}

func TestP8_1_JustAsManyAsAreLeftAndOneMore(t *testing.T) {
	for size := range 40 {
		for came := range size + 1 {
			s := entered(t, 2, size)
			holdTakes(t, s, came)
			left := size - came
			holdState(t, s, 1, left)
			holdEnter(t, s, left+1, api.ErrFit)
			holdLefts(t, s, left)
			holdEnter(t, s, left, api.OK)
			holdLefts(t, s, 0, left)
		}
	}
}

func TestP8_1_TheInnermostOneHasFewerLeft(t *testing.T) {
	for size := range 20 {
		for inner := range size + 1 {
			s := entered(t, 3, 50, size, inner)
			holdLefts(t, s, 50-size, size-inner, inner)
			for came := range inner {
				holdTake(t, s, api.OK)
				holdLefts(t, s, 50-size, size-inner, inner-came-1)
			}
			holdTake(t, s, api.ErrFit)
			holdLefts(t, s, 50-size, size-inner, 0)
			holdLeave(t, s, true)
			holdLefts(t, s, 50-size, size-inner)
		}
	}
}

func TestP8_1_GreatSizes(t *testing.T) {
	for _, n := range []int{1<<16 + 1, 1<<31 - 1, 1 << 31, 1 << 32, 1<<32 + 5, api.MaxLen, api.MaxLen + 1, math.MaxInt - 1, math.MaxInt} {
		s := entered(t, 64, n, n)
		holdLeave(t, s, false)
		holdTake(t, s, api.OK)
		holdState(t, s, 2, n-1)
		holdEnter(t, s, n, api.ErrFit)
		holdEnter(t, s, n-1, api.OK)
		holdEnter(t, s, 0, api.OK)
		holdLeave(t, s, true)
		holdState(t, s, 3, n-1)
		// Of the others nothing is left.
		again := entered(t, 64, n, n-5)
		holdEnter(t, again, n-5, api.OK)
		holdLeave(t, again, false)
		holdState(t, again, 3, n-5)
	}
}

func TestP8_1_ErrorsInTheirOrder(t *testing.T) {
	// As many as can be are open, two bytes are left.
	s := entered(t, 2, 3, 2)
	holdEnter(t, s, -1, api.ErrArg)
	holdEnter(t, s, math.MinInt, api.ErrArg)
	holdEnter(t, s, 0, api.ErrDepth)
	holdEnter(t, s, 1, api.ErrDepth)
	holdEnter(t, s, 2, api.ErrDepth)
	holdEnter(t, s, 3, api.ErrFit)
	holdEnter(t, s, math.MaxInt, api.ErrFit)
	holdLefts(t, s, 1, 2)
	// One more can be, and two bytes are left.
	s = entered(t, 3, 3, 2)
	holdEnter(t, s, -1, api.ErrArg)
	holdEnter(t, s, 3, api.ErrFit)
	holdEnter(t, s, math.MaxInt, api.ErrFit)
	holdLefts(t, s, 1, 2)
	holdEnter(t, s, 2, api.OK)
	// None is open, and none can be: no number of bytes is too great.
	for _, depth := range []int{math.MinInt, -1, 0} {
		s = New(depth)
		holdEnter(t, s, -1, api.ErrArg)
		for _, n := range []int{0, 1, 2, api.MaxLen, math.MaxInt} {
			holdEnter(t, s, n, api.ErrDepth)
			holdState(t, s, 0, -1)
		}
	}
}

func TestP8_1_LeavesOnlyWithoutBytes(t *testing.T) {
	s := entered(t, 3, 4, 3, 2)
	holdLeave(t, s, false)
	holdTake(t, s, api.OK)
	holdLeave(t, s, false)
	holdLefts(t, s, 1, 1, 1)
	holdTake(t, s, api.OK)
	holdLeave(t, s, true)
	holdLeave(t, s, false)
	holdLefts(t, s, 1, 1)
	holdTake(t, s, api.OK)
	holdLeave(t, s, true)
	holdLeave(t, s, false)
	holdTake(t, s, api.OK)
	holdLeave(t, s, true)
	holdLeave(t, s, false)
	holdState(t, s, 0, -1)
	// It can all begin again.
	holdEnter(t, s, 7, api.OK)
	holdLefts(t, s, 7)
}

func TestP8_1_NothingOfWhatWasLeftStays(t *testing.T) {
	// A greater, and a smaller one where another was.
	s := New(2)
	for _, n := range []int{3, 0, 9, 1, 0, 2} {
		holdEnter(t, s, n, api.OK)
		holdLefts(t, s, n)
		holdEnter(t, s, n, api.OK)
		holdLefts(t, s, 0, n)
		holdTakes(t, s, n)
		holdLeave(t, s, true)
		holdLefts(t, s, 0)
		holdLeave(t, s, true)
		holdLefts(t, s)
	}
}

func TestP8_1_ACopyGoesOn(t *testing.T) {
	s := entered(t, 3, 9, 4)
	c := s.Copy()
	holdLefts(t, c, 5, 4)
	holdTakes(t, c, 2)
	holdEnter(t, c, 2, api.OK)
	holdEnter(t, c, 0, api.ErrDepth)
	holdLefts(t, c, 5, 0, 2)
	holdLefts(t, s, 5, 4)
	holdTakes(t, c, 2)
	holdLeave(t, c, true)
	holdLeave(t, c, true)
	holdLefts(t, c, 5)
	holdLefts(t, s, 5, 4)
}

func TestP8_1_TheCopiedOneGoesOn(t *testing.T) {
	s := entered(t, 3, 9, 4)
	c := s.Copy()
	holdTakes(t, s, 3)
	holdEnter(t, s, 1, api.OK)
	holdLefts(t, s, 5, 0, 1)
	holdLefts(t, c, 5, 4)
	holdTake(t, s, api.OK)
	holdLeave(t, s, true)
	holdLeave(t, s, true)
	holdTakes(t, s, 5)
	holdLeave(t, s, true)
	holdState(t, s, 0, -1)
	holdLefts(t, c, 5, 4)
	// Both go on, each in its own way; and the copy is copied.
	again := c.Copy()
	holdEnter(t, c, 4, api.OK)
	holdEnter(t, again, 1, api.OK)
	holdEnter(t, s, 1, api.OK)
	holdLefts(t, c, 5, 0, 4)
	holdLefts(t, again, 5, 3, 1)
	holdLefts(t, s, 1)
}

func TestP8_1_ACopyHasTheSameDepth(t *testing.T) {
	for _, d := range depths() {
		c := New(d[0]).Copy()
		holdState(t, c, 0, -1)
		for range d[1] {
			holdEnter(t, c, 0, api.OK)
			c = c.Copy()
		}
		holdEnter(t, c, 0, api.ErrDepth)
		holdEnter(t, c.Copy(), 0, api.ErrDepth)
		holdState(t, c.Copy(), d[1], c.Left())
	}
}

func TestP8_1_StacksKnowNothingOfEachOther(t *testing.T) {
	first, second := New(2), New(64)
	holdEnter(t, first, 3, api.OK)
	holdState(t, second, 0, -1)
	holdEnter(t, second, 8, api.OK)
	holdTake(t, second, api.OK)
	holdEnter(t, first, 3, api.OK)
	holdTakes(t, first, 3)
	holdLefts(t, first, 0, 0)
	holdLefts(t, second, 7)
	holdState(t, New(2), 0, -1)
}

// element is an open one as the chapter tells of it: its bytes, those that came by themselves, and the sizes of those
// that were entered within it.
type element struct {
	size, came int
	inner      []int
}

// left is reckoned anew from all that befell the element.
func (e element) left() int {
	left := e.size - e.came
	for _, n := range e.inner {
		left -= n
	}
	return left
}

// model is the elements that are open, the outermost one first, and how many can be.
type model struct {
	open []element
	most int
}

// modelOf is that of a new stack.
func modelOf(depth int) model {
	if depth < 0 {
		return model{}
	}
	if depth > 64 {
		return model{most: 64}
	}
	return model{most: depth}
}

// innermost is the last one that was entered, or nil.
func (m model) innermost() *element {
	if len(m.open) == 0 {
		return nil
	}
	return &m.open[len(m.open)-1]
}

// again is a model that shares nothing with m.
func (m model) again() model {
	copied := model{most: m.most}
	for _, e := range m.open {
		e.inner = slices.Clone(e.inner)
		copied.open = append(copied.open, e)
	}
	return copied
}

// lefts is what each has left.
func (m model) lefts() []int {
	var list []int
	for _, e := range m.open {
		list = append(list, e.left())
	}
	return list
}

// call is one of a stack's calls: Take, Leave, or else Enter of n bytes.
type call struct {
	take, leave bool
	n           int
}

// hold makes the call, and compares what it tells with the model, which goes along; it answers Enter's, or Take's error.
func (c call) hold(t *testing.T, s *Stack, m *model) api.Errno {
	e := m.innermost()
	switch {
	case c.leave:
		over := e != nil && e.left() == 0
		holdLeave(t, s, over)
		if over {
			m.open = m.open[:len(m.open)-1]
		}
		return api.OK
	case c.take:
		if e != nil && e.left() == 0 {
			holdTake(t, s, api.ErrFit)
			return api.ErrFit
		}
		holdTake(t, s, api.OK)
		if e != nil {
			e.came++
		}
		return api.OK
	}
	err := m.enter(c.n)
	holdEnter(t, s, c.n, err)
	return err
}

// enter is the chapter's Enter.
func (m *model) enter(n int) api.Errno {
	e := m.innermost()
	if n < 0 {
		return api.ErrArg
	}
	if e != nil && e.left() < n {
		return api.ErrFit
	}
	if len(m.open) == m.most {
		return api.ErrDepth
	}
	if e != nil {
		e.inner = append(e.inner, n)
	}
	m.open = append(m.open, element{size: n})
	return api.OK
}

// holdModel compares what Depth and Left tell with the model.
func holdModel(t *testing.T, s *Stack, m model) {
	left := -1
	if e := m.innermost(); e != nil {
		left = e.left()
	}
	holdState(t, s, len(m.open), left)
}

// everyCall is Take, Leave, and Enter of some small sizes.
func everyCall() []call {
	return []call{{take: true}, {leave: true}, {n: -1}, {n: 0}, {n: 1}, {n: 2}, {n: 3}}
}

// everyOrder goes to each order of just so many calls.
func everyOrder(calls []call, long int, visit func(order []call)) {
	order := make([]call, long)
	var from func(at int)
	from = func(at int) {
		if at == long {
			visit(order)
			return
		}
		for _, c := range calls {
			order[at] = c
			from(at + 1)
		}
	}
	from(0)
}

func TestP8_1_EveryShortOrder(t *testing.T) {
	for _, depth := range []int{-1, 0, 1, 2, 3, 64} {
		everyOrder(everyCall(), 7, func(order []call) {
			s, m := New(depth), modelOf(depth)
			for _, c := range order {
				c.hold(t, s, &m)
				holdModel(t, s, m)
			}
		})
	}
}

// holdWays goes on with a copy by each of the calls, and so on; none of the copies may touch what it was copied from.
func holdWays(t *testing.T, s *Stack, m model, more int) {
	holdModel(t, s, m)
	if more == 0 {
		holdLefts(t, s, m.lefts()...)
		return
	}
	for _, c := range everyCall() {
		other, ways := s.Copy(), m.again()
		c.hold(t, other, &ways)
		holdModel(t, s, m)
		holdWays(t, other, ways, more-1)
	}
	// All those copies went on: the one they come of is as it was.
	holdLefts(t, s, m.lefts()...)
}

func TestP8_1_EveryShortOrderOfCopies(t *testing.T) {
	for _, depth := range []int{-1, 0, 1, 2, 3, 64} {
		holdWays(t, New(depth), modelOf(depth), 5)
	}
}

// dice gives numbers that go here and there, the same in every run.
type dice uint64

// below is a number from 0 to n - 1.
func (d *dice) below(n int) int {
	*d = *d*6364136223846793005 + 1442695040888963407
	return int(uint64(*d) >> 33 % uint64(n))
}

// pick is a call for a stack that has so many bytes left: in one half of the time most go in, in the other most go out.
func (d *dice) pick(in bool, left int) call {
	roll := d.below(16)
	switch {
	case roll == 0:
		return call{n: -1 - d.below(3)}
	case roll == 1:
		return call{n: left + 1 + d.below(2)}
	case roll == 2:
		return call{n: max(0, left)}
	case roll == 3:
		return call{n: d.below(max(0, left) + 1)}
	case roll < 7:
		return call{take: true}
	case roll < 9:
		return call{leave: true}
	case !in && roll < 12:
		return call{leave: true}
	case !in:
		return call{take: true}
	case left < 0:
		return call{n: 200}
	}
	return call{n: max(0, left-d.below(2))}
}

// holdLong makes many calls, and adds up how often each error came, and which numbers of elements were open.
func holdLong(t *testing.T, depth int, d *dice, came map[api.Errno]int, at map[int]bool) {
	s, m := New(depth), modelOf(depth)
	for i := range 6000 {
		c := d.pick(i/500%2 == 0, s.Left())
		came[c.hold(t, s, &m)]++
		holdModel(t, s, m)
		at[s.Depth()] = true
		if d.below(100) == 0 {
			// Either one goes on.
			other, ways := s.Copy(), m.again()
			if d.below(2) == 0 {
				s, other, m, ways = other, s, ways, m
			}
			for range 20 {
				c := d.pick(d.below(2) == 0, other.Left())
				c.hold(t, other, &ways)
			}
			holdLefts(t, other, ways.lefts()...)
			holdLefts(t, s, m.lefts()...)
		}
	}
	holdLefts(t, s, m.lefts()...)
}

func TestP8_1_LongOrders(t *testing.T) {
	for _, depth := range depths() {
		came, at := map[api.Errno]int{}, map[int]bool{}
		for seed := range 8 {
			d := dice(seed)
			holdLong(t, depth[0], &d, came, at)
		}
		// The orders must have come to all that there is.
		for _, err := range []api.Errno{api.OK, api.ErrArg, api.ErrDepth} {
			if came[err] == 0 {
				t.Errorf("depth %d: error %d never came", depth[0], err)
			}
		}
		if came[api.ErrFit] == 0 && depth[1] > 0 {
			t.Errorf("depth %d: nothing was too great", depth[0])
		}
		for d := range depth[1] + 1 {
			if !at[d] {
				t.Errorf("depth %d: never were %d open", depth[0], d)
			}
		}
	}
}

func TestP8_2_LeftWhenAllBytesCameByThemselves(t *testing.T) {
	for size := range 70 {
		s := entered(t, 64, size)
		for range size {
			holdLeave(t, s, false)
			holdTake(t, s, api.OK)
		}
		holdTake(t, s, api.ErrFit)
		holdLeave(t, s, true)
	}
}

func TestP8_2_LeftWhenAllBytesCameWithinOthers(t *testing.T) {
	// Some bytes ahead of an inner one, some behind, and the inner one's.
	for ahead := range 8 {
		for size := range 8 {
			for behind := range 8 {
				s := entered(t, 2, ahead+size+behind)
				holdTakes(t, s, ahead)
				holdEnter(t, s, size, api.OK)
				for range size {
					holdLeave(t, s, false)
					holdTake(t, s, api.OK)
				}
				holdTake(t, s, api.ErrFit)
				holdLeave(t, s, true)
				for range behind {
					holdLeave(t, s, false)
					holdTake(t, s, api.OK)
				}
				holdTake(t, s, api.ErrFit)
				holdLeave(t, s, true)
				holdState(t, s, 0, -1)
			}
		}
	}
}

func TestP8_2_InnerOnesThatWereEnteredAreNotYetThere(t *testing.T) {
	// All of the outer one's bytes are in inner ones: it is the innermost, and can be left, only behind them.
	s := New(64)
	for range 64 {
		holdEnter(t, s, 3, api.OK)
	}
	holdLeave(t, s, false)
	holdTakes(t, s, 2)
	holdLeave(t, s, false)
	holdTake(t, s, api.OK)
	for left := 64; left > 0; left-- {
		holdState(t, s, left, 0)
		holdTake(t, s, api.ErrFit)
		holdLeave(t, s, true)
	}
	holdLeave(t, s, false)
}

func TestP8_2_OneBehindTheOtherWithinOne(t *testing.T) {
	// As 30 0B 02 01 07 31 00 30 04 04 02 01 02 comes, of which the heads are bytes of the outer ones.
	s := entered(t, 2, 11)
	holdTakes(t, s, 2)
	holdTake(t, s, api.OK)
	holdTakes(t, s, 2)
	holdEnter(t, s, 0, api.OK)
	holdLeave(t, s, true)
	holdLeave(t, s, false)
	holdTakes(t, s, 2)
	holdEnter(t, s, 4, api.OK)
	holdTakes(t, s, 2)
	holdLeave(t, s, false)
	holdTakes(t, s, 2)
	holdTake(t, s, api.ErrFit)
	holdLeave(t, s, true)
	holdTake(t, s, api.ErrFit)
	holdEnter(t, s, 1, api.ErrFit)
	holdLeave(t, s, true)
	holdState(t, s, 0, -1)
}

// sum is all the numbers together.
func sum(list []int) int {
	all := 0
	for _, n := range list {
		all += n
	}
	return all
}

// meter goes along with a stack: what the outermost open one had, and how many bytes came since it is open.
type meter struct{ had, came int }

// hold makes the call, and sees that all that is left, together, is what the outermost one had less what came.
func (e *meter) hold(t *testing.T, s *Stack, c call) {
	depth := s.Depth()
	switch {
	case c.leave:
		s.Leave()
	case c.take:
		if s.Take() == api.OK {
			e.came++
		}
	default:
		if s.Enter(c.n) == api.OK && depth == 0 {
			*e = meter{had: c.n}
		}
	}
	if s.Depth() == 0 {
		return
	}
	if all := sum(lefts(t, s)); all != e.had-e.came {
		t.Fatalf("%d bytes are left together of %d, %d of which came", all, e.had, e.came)
	}
}

func TestP8_2_WhatIsLeftTogetherInShortOrders(t *testing.T) {
	for _, depth := range []int{1, 2, 3} {
		everyOrder([]call{{take: true}, {leave: true}, {n: 0}, {n: 1}, {n: 2}, {n: 4}}, 6, func(order []call) {
			s, e := New(depth), meter{}
			for _, c := range order {
				e.hold(t, s, c)
			}
		})
	}
}

func TestP8_2_WhatIsLeftTogetherInLongOrders(t *testing.T) {
	for _, depth := range []int{1, 2, 7, 63, 64, 65} {
		for seed := range 4 {
			s, e, d := New(depth), meter{}, dice(seed)
			for i := range 3000 {
				e.hold(t, s, d.pick(i/300%2 == 0, s.Left()))
			}
		}
	}
}
