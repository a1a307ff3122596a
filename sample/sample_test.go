package sample

import (
	"slices"
	"testing"

	"secateur/key"
)

func TestEdges(t *testing.T) {
	l := Edges()
	if !slices.Equal(key.Sort(l), l) {
		t.Errorf("not in their order: %v", l)
	}
	if !slices.Equal(Edges(), l) {
		t.Error("not the same twice")
	}
}

func TestModel(t *testing.T) {
	var m Model
	for _, last := range []bool{false, true} {
		if x, ok := m.Pop(last); ok || x != (key.Entry{}) {
			t.Errorf("of none: %v, %v", x, ok)
		}
	}
	for _, x := range BoundedAll(4, 1, 3, 1, 5) {
		m.Push(x)
	}
	if !slices.Equal(m, BoundedAll(1, 1, 3, 4, 5)) {
		t.Fatalf("pushed: %v", m)
	}
	for _, x := range []struct {
		last bool
		n    int
	}{{true, 5}, {false, 1}, {false, 1}, {true, 4}, {false, 3}} {
		end, there := m.End(x.last)
		y, ok := m.Pop(x.last)
		if !there || !ok || end != Bounded(x.n) || y != end {
			t.Errorf("End %v, %v; Pop %v, %v; want %d", end, there, y, ok, x.n)
		}
	}
	if len(m) != 0 {
		t.Errorf("left: %v", m)
	}
}

func TestModelEvictAndDrop(t *testing.T) {
	m := Model(BoundedAll(1, 2, 3, 3, 4, 5, 6))
	for _, x := range []struct {
		gone, want []key.Entry
	}{
		{m.Evict(-1), nil},
		{m.Evict(2), BoundedAll(6, 5)},
		{m.Drop(9), nil},
		{m.Drop(3), BoundedAll(3, 3, 4)},
		{m.Evict(5), BoundedAll(2, 1)},
		{m.Drop(0), nil},
	} {
		if !slices.Equal(x.gone, x.want) {
			t.Errorf("gone are %v; want %v", x.gone, x.want)
		}
	}
	if len(m) != 0 {
		t.Errorf("left are %v", m)
	}
}

func TestDice(t *testing.T) {
	a, b := Dice(3), Dice(3)
	met := map[int]bool{}
	for range 200 {
		n := a.Roll(6)
		if n < 0 || n > 5 || n != b.Roll(6) {
			t.Fatalf("%d", n)
		}
		met[n] = true
	}
	if len(met) != 6 {
		t.Errorf("met are %v", met)
	}
	l := Edges()
	s := a.Shuffled(l)
	if !slices.Equal(l, Edges()) || slices.Equal(s, l) || !slices.Equal(key.Sort(s), l) {
		t.Errorf("%v became %v", l, s)
	}
}

func TestOverwrite(t *testing.T) {
	l := BoundedAll(3, 4, 5)
	Overwrite(l[:2])
	if l[0].ID != -1 || l[1].ID != -1 || l[2] != Bounded(5) {
		t.Errorf("%v", l)
	}
}
