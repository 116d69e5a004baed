package deponent_test

import (
	"math"
	"math/rand"
	"slices"
	"testing"

	"deponent/api"
	"deponent/deponent"
)

// middle of the stretch that is left: as a number whose highest bits tell, for each one asked, whether it was not Left.
func middle(depth int, asked []bool) int {
	n := 0
	for _, left := range asked {
		n *= 2
		if !left {
			n++
		}
	}
	return (2*n + 1) << (depth - 1 - len(asked))
}

// answers sees that Answer says what the document says: by a model that does the steps.
func answers(t *testing.T, m *deponent.Machine, depth int, asked []bool, sources ...api.Source) (int, api.Errno) {
	t.Helper()
	was, words, keep := m.Look(), cells(t, m), append(slices.Clone(asked), true, false)
	n, e := m.Answer(depth, keep[:len(asked)])
	if !slices.Equal(keep, append(slices.Clone(asked), true, false)) || m.Look() != was || cells(t, m) != words {
		t.Fatalf("P2, P12: Answer changes what was asked, or the machine")
	}
	own, f := model{State: was, words: words, sources: sources}, api.OK
	for range middle(depth, asked) {
		if f = own.step(); f != api.OK {
			break
		}
	}
	own.Root = rootOf(own.words[:])
	if want := stampOf(own.State); f != e || f == api.OK && n != want || f != api.OK && n != 0 {
		t.Fatalf("P12: Answer(%d, %v) = %d, %d, want %d, %d", depth, asked, n, e, want, f)
	}
	return n, e
}

// endless counts in register 1 and cell 9.
func endless(t *testing.T) *deponent.Machine {
	t.Helper()
	return machine(t, []int{in(api.Set, 1, 1, 0, 3), in(api.Store, 1, 0, 0, 9), in(api.Mul, 2, 1, 1, 0), in(api.Call, 5, 0, 0, 0)})
}

// eachWay of asking up to so many times.
func eachWay(most int) [][]bool {
	all := [][]bool{nil}
	for n := 0; len(all[n]) < most; n++ {
		all = append(all, append(slices.Clone(all[n]), true), append(slices.Clone(all[n]), false))
	}
	return all
}

func TestAnswer(t *testing.T) { // P12
	m := endless(t)
	for range 3 {
		for depth := 1; depth <= 6; depth++ {
			for _, asked := range eachWay(depth - 1) {
				if len(asked) < depth {
					answers(t, m, depth, asked)
				}
			}
		}
		m.Step()
	}
}

func TestAnswerOfTheGreatestDepth(t *testing.T) { // P12
	m := endless(t)
	for _, c := range []struct {
		asked []bool
		steps int
	}{{nil, 32768}, {make([]bool, 15), 65535}, {slices.Repeat([]bool{true}, 15), 1}, {[]bool{true}, 16384}, {[]bool{false}, 49152}} {
		other := endless(t)
		if n, e := other.Run(c.steps); n != c.steps || e != api.OK {
			t.Fatalf("P5: Run = %d, %d", n, e)
		}
		if n, e := answers(t, m, 16, c.asked); n != other.Stamp() || e != api.OK {
			t.Errorf("P12: Answer(16, %v) = %d, %d, want %d", c.asked, n, e, other.Stamp())
		}
	}
}

func TestAnswerOfWrongArguments(t *testing.T) { // P1, P12
	for _, m := range []*deponent.Machine{endless(t), machine(t, []int{top})} { // also ahead of an error
		for _, c := range []struct{ depth, asked int }{
			{0, 0}, {0, 1}, {-1, 0}, {-1, 5}, {17, 0}, {17, 16}, {17, 17}, {64, 0}, {math.MinInt, 0}, {math.MaxInt, 3},
			{1, 1}, {1, 2}, {3, 3}, {3, 4}, {16, 16}, {16, 17}, {16, 100000},
		} {
			was := m.Look()
			if n, e := m.Answer(c.depth, make([]bool, c.asked)); n != 0 || e != api.ErrArg || m.Look() != was {
				t.Errorf("P12: Answer(%d) with %d asked = %d, %d", c.depth, c.asked, n, e)
			}
		}
	}
}

// The step number 4 is an error: so the steps up to 4 are none, those up to 5 are.
func TestAnswerOverErrors(t *testing.T) { // P12
	for _, c := range []struct {
		word int
		want api.Errno
	}{
		{in(20, 0, 0, 0, 0), api.ErrOp},
		{in(api.Load, 1, 0, 0, -1), api.ErrAddress},
		{in(api.Store, 1, 0, 0, 256), api.ErrAddress},
		{in(api.Div, 1, 1, 0, 0), api.ErrDivide},
		{in(api.Ask, 1, 0, 0, 0), api.ErrSource},
	} {
		set := in(api.Set, 1, 1, 0, 1)
		m := machine(t, []int{set, in(api.Store, 1, 0, 0, 9), set, set, c.word})
		for _, asked := range eachWay(3) {
			want := c.want
			if middle(4, asked) <= 4 {
				want = api.OK
			}
			if n, e := answers(t, m, 4, asked); e != want {
				t.Errorf("P12: Answer(4, %v) = %d, %d, want %d", asked, n, e, want)
			}
		}
	}
	m := machine(t, []int{in(api.Call, 0, 1, 0, 300)})
	if n, e := answers(t, m, 1, nil); e != api.OK {
		t.Errorf("P12: Answer = %d, %d: the step behind the middle is none of those up to there", n, e)
	}
	if n, e := answers(t, m, 2, nil); e != api.ErrAddress {
		t.Errorf("P12: Answer = %d, %d: PC is no cell's number", n, e)
	}
}

func TestAnswerOverAnEnd(t *testing.T) { // P12
	m := machine(t, []int{in(api.Set, 1, 1, 0, 1), in(api.Store, 1, 0, 0, 9), in(api.Halt, 1, 0, 0, 0)})
	end := machine(t, []int{in(api.Set, 1, 1, 0, 1), in(api.Store, 1, 0, 0, 9), in(api.Halt, 1, 0, 0, 0)})
	end.Run(3)
	for range 4 {
		for _, asked := range eachWay(3) {
			n, e := answers(t, m, 4, asked)
			if e != api.OK || middle(4, asked) >= 3 && n != end.Stamp() {
				t.Errorf("P12: Answer(4, %v) = %d, %d, want %d", asked, n, e, end.Stamp())
			}
		}
		if n, e := answers(t, m, 16, nil); n != end.Stamp() || e != api.OK {
			t.Errorf("P12: Answer(16) = %d, %d, want %d", n, e, end.Stamp())
		}
		m.Step()
	}
}

func TestAnswerAgainstModel(t *testing.T) { // P12
	r := rand.New(rand.NewSource(11))
	sources := []api.Source{api.Source("a source"), nil, {255, 254, 253, 252, 251}}
	names := []int{deponent.Sum(sources[0]), 7, deponent.Sum(sources[2]), 8, 100, 255, -1}
	seen := map[api.Errno]int{}
	for range 400 {
		m := machine(t, program(r, names), sources...)
		for range 4 {
			depth := 1 + r.Intn(7)
			asked := make([]bool, r.Intn(depth))
			for n := range asked {
				asked[n] = r.Intn(3) > 0
			}
			_, e := answers(t, m, depth, asked, sources...)
			seen[e]++
			m.Step()
		}
	}
	for _, e := range []api.Errno{api.OK, api.ErrOp, api.ErrAddress, api.ErrDivide, api.ErrSource} {
		if seen[e] < 5 {
			t.Errorf("the programs meet error %d too seldom: %v", e, seen)
		}
	}
	t.Logf("%v", seen)
}
