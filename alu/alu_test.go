package alu_test

import (
	"slices"
	"testing"

	"rondeau/alu"
	"rondeau/api"
)

const top = 1<<64 - 1

// P8.1: the operations, with their edges.
func TestDo(t *testing.T) {
	for _, s := range []struct {
		op         int
		a, b, want uint64
	}{
		{api.OAdd, 2, 3, 5}, {api.OAdd, top, 2, 1},
		{api.OSub, 5, 3, 2}, {api.OSub, 1, 2, top},
		{api.OMul, 5, 3, 15}, {api.OMul, 1 << 63, 3, 1 << 63}, {api.OMul, top, top, 1},
		{api.ODiv, 17, 5, 3}, {api.ODiv, 17, 0, 0}, {api.ODiv, 0, 0, 0}, {api.ODiv, top, 2, 1<<63 - 1}, {api.ODiv, 4, 5, 0},
		{api.OMod, 17, 5, 2}, {api.OMod, 17, 0, 0}, {api.OMod, top, 10, 5}, {api.OMod, 4, 5, 4},
		{api.OAnd, 12, 10, 8}, {api.OOr, 12, 10, 14}, {api.OXor, 12, 10, 6},
		{api.OAnd, top, 1 << 63, 1 << 63}, {api.OOr, 1 << 63, 1, 1<<63 | 1}, {api.OXor, top, 1, top - 1},
		{api.OShl, 1, 65, 2}, {api.OShl, 1, 63, 1 << 63}, {api.OShl, 3, 63, 1 << 63}, {api.OShl, 7, 64, 7}, {api.OShl, 7, top, 1 << 63},
		{api.OShr, 1 << 63, 63, 1}, {api.OShr, top, 1, 1<<63 - 1}, {api.OShr, 7, 64, 7}, {api.OShr, 7, 65, 3}, {api.OShr, top, top, 1},
		{api.OLt, 1, 2, 1}, {api.OLt, 2, 2, 0}, {api.OLt, top, 0, 0}, {api.OLt, 0, top, 1},
		{api.OEq, 2, 2, 1}, {api.OEq, 2, 3, 0}, {api.OEq, top, top, 1},
	} {
		if got, ok := alu.Do(s.op, s.a, s.b); got != s.want || !ok {
			t.Error(s, got, ok)
		}
	}
}

// P8.1: just the instructions 3 to 14 are arithmetic.
func TestWhichOps(t *testing.T) {
	for op := -3; op < 40; op++ {
		want := op >= 3 && op <= 14
		if alu.Is(op) != want {
			t.Error(op, alu.Is(op))
		}
		got, ok := alu.Do(op, 6, 3)
		if ok != want || !ok && got != 0 {
			t.Error(op, got, ok)
		}
	}
	for _, op := range []int{-1 << 63, 1<<63 - 1, 1<<32 + 3} {
		if got, ok := alu.Do(op, 6, 3); alu.Is(op) || got != 0 || ok {
			t.Error(op, got, ok)
		}
	}
	if got := alu.Ops(); !slices.Equal(got, []int{3, 4, 5, 6, 7, 8, 9, 10, 11, 12, 13, 14}) {
		t.Error(got)
	}
}

// Rule 5: each list of operations is new.
func TestOpsAreNew(t *testing.T) {
	alu.Ops()[0] = 99
	if alu.Ops()[0] != 3 {
		t.Error(alu.Ops())
	}
}
