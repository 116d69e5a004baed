package dispute

import (
	"testing"

	"deponent/api"
)

func TestStretch(t *testing.T) {
	for _, c := range []struct {
		size int
		left []bool
		want stretch
	}{
		{1, nil, stretch{0, 1}},
		{8, []bool{true}, stretch{0, 4}},
		{8, []bool{false}, stretch{4, 4}},
		{8, []bool{false, true, false}, stretch{5, 1}},
		{65536, make([]bool, 16), stretch{65535, 1}},
	} {
		s := stretch{size: c.size}
		for _, left := range c.left {
			s.halve(left)
		}
		if s != c.want {
			t.Errorf("%d, %v: %v, want %v", c.size, c.left, s, c.want)
		}
	}
}

func TestMiddle(t *testing.T) {
	for _, c := range []struct {
		depth int
		asked []bool
		want  int
		e     api.Errno
	}{
		{1, nil, 1, api.OK},
		{2, nil, 2, api.OK},
		{2, []bool{true}, 1, api.OK},
		{2, []bool{false}, 3, api.OK},
		{16, nil, 32768, api.OK},
		{16, make([]bool, 15), 65535, api.OK},
		{2, []bool{false, true}, 0, api.ErrArg},
		{0, nil, 0, api.ErrArg},
		{-1, nil, 0, api.ErrArg},
		{17, nil, 0, api.ErrArg},
	} {
		if n, e := Middle(c.depth, c.asked); n != c.want || e != c.e {
			t.Errorf("Middle(%d, %v) = %d, %d, want %d, %d", c.depth, c.asked, n, e, c.want, c.e)
		}
	}
}
