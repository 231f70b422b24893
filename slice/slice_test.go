package slice_test

import (
	"reflect"
	"slices"
	"testing"

	"rondeau/api"
	"rondeau/event"
	"rondeau/listing"
	"rondeau/slice"
)

const text = "queue 1\nthread\nset r1 9\nsend r1 r2 0 wait\nthread\nrecv r1 r2 0 wait 0\nsee r1\nthread\ndraw r1\nsee r1\n"

const record = "2 draw 5\n0 claim 0 0\n0 publish 0 0\n1 take 0 0\n2 see 5\n1 release 0 0\n1 see 9\n0 halt\n"

func given(t *testing.T) (api.Program, []api.Event) {
	t.Helper()
	p, line, e := listing.Read(text)
	if e != api.OK {
		t.Fatal(line, e)
	}
	l, line, e := event.Read(record)
	if e != api.OK {
		t.Fatal(line, e)
	}
	return p, l
}

// P27.1, P27.2: slices, and what is seen in them.
func TestSlices(t *testing.T) {
	p, l := given(t)
	for _, s := range []struct {
		threads, want []int
		seen          [][]uint64
	}{
		{nil, nil, nil},
		{[]int{0}, []int{1, 2, 7}, [][]uint64{nil}},
		{[]int{1}, []int{1, 2, 3, 5, 6}, [][]uint64{{9}}},
		{[]int{2}, []int{0, 4}, [][]uint64{{5}}},
		{[]int{2, 1}, []int{0, 1, 2, 3, 4, 5, 6}, [][]uint64{{5}, {9}}},
		{[]int{1, 1}, []int{1, 2, 3, 5, 6}, [][]uint64{{9}, {9}}},
		{[]int{0, 1, 2}, []int{0, 1, 2, 3, 4, 5, 6, 7}, [][]uint64{nil, {9}, {5}}},
	} {
		given := slices.Clone(s.threads)
		if got, e := slice.Of(p, l, s.threads); !slices.Equal(got, s.want) || e != api.OK || !slices.Equal(given, s.threads) {
			t.Error(s, got, e)
		}
		got, e := slice.Seen(p, l, s.threads)
		if e != api.OK || !slices.EqualFunc(got, s.seen, slices.Equal) {
			t.Error(s, got, e)
		}
	}
	if got, e := slice.Sizes(p, l); !slices.Equal(got, []int{3, 5, 2}) || e != api.OK {
		t.Error(got, e)
	}
	if got, e := slice.Sizes(p, nil); !slices.Equal(got, []int{0, 0, 0}) || e != api.OK {
		t.Error(got, e)
	}
	if got, e := slice.Of(p, nil, []int{1}); len(got) != 0 || e != api.OK {
		t.Error(got, e)
	}
}

// P27.1 to P27.3: errors.
func TestErrors(t *testing.T) {
	p, l := given(t)
	long := make([]api.Event, 65537)
	for _, s := range []struct {
		program api.Program
		events  []api.Event
		threads []int
		want    api.Errno
	}{
		{api.Program{}, long, []int{9}, api.ErrArg}, {p, long, []int{9}, api.ErrLong}, {p, l[2:], []int{9}, api.ErrOrder}, {p, []api.Event{{}}, nil, api.ErrOrder},
		{p, l, []int{3}, api.ErrRange}, {p, l, []int{0, -1}, api.ErrRange}, {p, nil, []int{8}, api.ErrRange},
	} {
		if got, e := slice.Of(s.program, s.events, s.threads); len(got) != 0 || e != s.want {
			t.Error(s.want, got, e)
		}
		if got, e := slice.Seen(s.program, s.events, s.threads); len(got) != 0 || e != s.want {
			t.Error(s.want, got, e)
		}
		if got, e := slice.Sizes(s.program, s.events); s.want != api.ErrRange && (len(got) != 0 || e != s.want) {
			t.Error(s.want, got, e)
		}
	}
}

// Rule 5: the lists of what was seen share nothing.
func TestNothingIsShared(t *testing.T) {
	p, l := given(t)
	seen, _ := slice.Seen(p, l, []int{1, 1})
	seen[0][0] = 4
	if !reflect.DeepEqual(seen[1], []uint64{9}) {
		t.Error(seen)
	}
}
