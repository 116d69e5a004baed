package deponent_test

import (
	"math/rand"
	"testing"

	"deponent/api"
	"deponent/deponent"
)

// courses are the machine at the ends of each of the next steps, none of which may be an error.
func courses(t *testing.T, depth int, begin func() *deponent.Machine) []*deponent.Machine {
	t.Helper()
	var all []*deponent.Machine
	for n := range 1<<depth + 1 {
		m := begin()
		for range n {
			if e := m.Step(); e != api.OK {
				t.Fatalf("P5: step %d: %d", n, e)
			}
		}
		all = append(all, m)
	}
	return all
}

// programs that go on for long, and one that ends.
func programs(t *testing.T) []func() *deponent.Machine {
	text := api.Source("a source")
	asking := []int{
		in(api.Set, 1, 0, 0, deponent.Sum(text)),
		in(api.Ask, 2, 1, 3, 0), in(api.Set, 3, 3, 0, 1), in(api.Store, 2, 3, 0, 100), in(api.Call, 7, 0, 0, 1),
	}
	return []func() *deponent.Machine{
		func() *deponent.Machine { return endless(t) },
		func() *deponent.Machine { return machine(t, asking, text) },
		func() *deponent.Machine {
			return machine(t, []int{in(api.Set, 1, 1, 0, 1), in(api.Store, 1, 0, 0, 9), in(api.Load, 2, 0, 0, 9), in(api.Halt, 2, 0, 0, 0)})
		},
		func() *deponent.Machine { return at(t, in(api.Halt, 1, 0, 0, 0), 5, 7) },
	}
}

func TestTheHonestOneIsUpheld(t *testing.T) { // P13
	const depth = 5
	for _, begin := range programs(t) {
		course := courses(t, depth, begin)
		first, last := course[0].Stamp(), course[1<<depth].Stamp()
		for _, asked := range eachWay(depth) {
			if len(asked) < depth {
				continue
			}
			var moves []api.Move
			for n, left := range asked {
				stamp, e := course[0].Answer(depth, asked[:n])
				if e != api.OK {
					t.Fatalf("P12: Answer: %d", e)
				}
				moves = append(moves, api.Move{Stamp: stamp, Left: left})
			}
			number := middle(depth+1, asked) / 2
			w, _ := course[number].Witness()
			v, e := deponent.Settle(depth, first, last, moves, w)
			if want := (api.Verdict{From: course[number].Stamp(), To: course[number+1].Stamp(), Number: number, Upheld: true}); v != want || e != api.OK {
				t.Fatalf("P13: %v: %+v, %d, want %+v", asked, v, e, want)
			}
		}
	}
}

// liar says right stamps up to the step where the lie is, and wrong ones behind it.
type liar struct {
	*rand.Rand
	course []*deponent.Machine
	lie    int
	// to is the stamp that the lie comes to.
	to int
}

// says a stamp for the end of so many steps.
func (l *liar) says(steps int) int {
	right := l.course[steps].Stamp()
	switch {
	case steps <= l.lie:
		return right
	case steps == l.lie+1:
		return l.to
	}
	return (right + 1 + l.Intn(65520)) % 65521
}

// dispute asks Left just where the middle is wrong.
func (l *liar) dispute(depth int) []api.Move {
	var moves []api.Move
	var asked []bool
	for range depth {
		steps := middle(depth, asked)
		move := api.Move{Stamp: l.says(steps)}
		move.Left = move.Stamp != l.course[steps].Stamp()
		asked, moves = append(asked, move.Left), append(moves, move)
	}
	return moves
}

// A witness that is forged comes to another stamp than the step does: so it is upheld, and shows two texts. No other one is upheld.
func TestALiarIsUpheldOnlyByACollision(t *testing.T) { // P13
	const depth = 5
	r, upheld, ended := rand.New(rand.NewSource(12)), 0, 0
	for _, begin := range programs(t) {
		course := courses(t, depth, begin)
		for lie := range 1 << depth {
			m := course[lie]
			w := lieOf(t, r, m)
			to, e := deponent.Check(m.Stamp(), w)
			if e != api.OK || to == course[lie+1].Stamp() {
				continue
			}
			l := &liar{r, course, lie, to}
			moves, first, last := l.dispute(depth), course[0].Stamp(), l.says(1<<depth)
			v, e := deponent.Settle(depth, first, last, moves, w)
			if want := (api.Verdict{From: m.Stamp(), To: to, Number: lie, Upheld: true}); v != want || e != api.OK {
				t.Fatalf("P11: %+v, %d, want %+v", v, e, want)
			}
			one, two, ok := m.Collision(w)
			if !ok || string(one) == string(two) || sumOf(one) != sumOf(two) {
				t.Fatalf("P13: upheld, but Collision = %v, %v, %v", one, two, ok)
			}
			upheld++
			if m.Look().Over {
				ended++
			}
			right, _ := m.Witness()
			for _, other := range [][]byte{right, nil, w[:len(w)-1], append(w, 0), mutant(r, w), mutant(r, right)} {
				v, _ := deponent.Settle(depth, first, last, moves, other)
				if _, _, ok := m.Collision(other); v.Upheld && !ok {
					t.Fatalf("P13: %v is upheld without a collision", other)
				}
			}
			if v, _ := deponent.Settle(depth, first, last, moves, right); v.Upheld {
				t.Fatalf("P13: a wrong stamp is upheld by the right witness")
			}
		}
	}
	if upheld < 40 || ended < 5 {
		t.Errorf("too few lies: %d, %d where it is over", upheld, ended)
	}
}

// lieOf is a wrong witness that is taken: of another instruction, or, where it is over, of another label.
func lieOf(t *testing.T, r *rand.Rand, m *deponent.Machine) []byte {
	t.Helper()
	f := forging(t, r, m)
	if f.state.Over {
		return f.over()
	}
	return f.grafted(in(api.Set, r.Intn(8), r.Intn(8), 0, r.Intn(100)), r.Intn(8))
}

// Whatever is said: if Left is said just where the middle is wrong, the step that is left begins right and ends wrong.
func TestLiarsWhoSayAnything(t *testing.T) { // P13
	r := rand.New(rand.NewSource(13))
	for _, begin := range programs(t) {
		course := courses(t, 6, begin)
		for range 300 {
			depth := r.Intn(7)
			last := (course[1<<depth].Stamp() + 1 + r.Intn(65520)) % 65521
			var moves []api.Move
			var asked []bool
			for range depth {
				right := course[middle(depth, asked)].Stamp()
				move := api.Move{Stamp: (right + r.Intn(2)*r.Intn(65521)) % 65521}
				move.Left = move.Stamp != right
				asked, moves = append(asked, move.Left), append(moves, move)
			}
			v, e := deponent.Settle(depth, course[0].Stamp(), last, moves, nil)
			if e != api.OK || v.From != course[v.Number].Stamp() || v.To == course[v.Number+1].Stamp() {
				t.Fatalf("P13: %+v, %d", v, e)
			}
			m := course[v.Number]
			right, _ := m.Witness()
			for _, w := range [][]byte{right, mutant(r, right), mutant(r, right), lieOf(t, r, m)} {
				v, _ := deponent.Settle(depth, course[0].Stamp(), last, moves, w)
				if _, _, ok := m.Collision(w); v.Upheld && !ok {
					t.Fatalf("P13: %v is upheld without a collision", w)
				}
			}
		}
	}
}
