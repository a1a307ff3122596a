package sample

import (
	"testing"

	"secateur/api"
	"secateur/inst"
)

func TestBuilders(t *testing.T) {
	one, set := inst.Item{Value: 6, Weight: 3}, inst.Set{Cost: 5, Elems: []int{0, 2}}
	for _, x := range [][2]inst.Inst{
		{Knapsack(5, one), {Cap: 5, Items: []inst.Item{one}}}, {Knapsack(0), {}},
		{Square(inst.Tsp, []int64{0}), {Kind: inst.Tsp, Cost: [][]int64{{0}}}}, {Square(inst.Assignment), {Kind: inst.Assignment}},
		{Cover(3, set, set), {Kind: inst.Cover, Size: 3, Sets: []inst.Set{set, set}}}, {Cover(0), {Kind: inst.Cover}},
	} {
		if !inst.Equal(x[0], x[1]) {
			t.Errorf("%v, want %v", x[0], x[1])
		}
	}
}

// TestStrewn: all may be, of each kind, of up to as many as asked for.
func TestStrewn(t *testing.T) {
	d := Dice(1)
	for k := range inst.Kinds {
		met := map[int]bool{}
		for range 200 {
			i := Strewn(&d, k, 4)
			if i.Kind != k || i.Check() != api.OK {
				t.Fatalf("of the kind %d: %v", k, i)
			}
			met[len(i.Items)+len(i.Cost)+len(i.Sets)] = true
		}
		square := k == inst.Assignment || k == inst.Tsp
		if met[0] == square || !met[1] || !met[4] || met[5] {
			t.Errorf("of the kind %d there were %v", k, met)
		}
	}
	a, b := Dice(7), Dice(7)
	if !inst.Equal(Strewn(&a, inst.Cover, 9), Strewn(&b, inst.Cover, 9)) {
		t.Error("not the same twice")
	}
}

// TestBehind: there is something behind them, and Whole tells it.
func TestBehind(t *testing.T) {
	may, not := map[inst.Kind]int{}, 0
	for _, i := range Behind() {
		if i.Check() == api.OK {
			may[i.Kind]++
		} else {
			not++
		}
		if Whole(i) == Whole(i.Copy()) {
			t.Errorf("there is nothing behind %v", i)
		}
	}
	if len(may) != int(inst.Kinds) || not == 0 {
		t.Errorf("by their kinds there may be %v, and %d mayn't", may, not)
	}
}

func TestWhole(t *testing.T) {
	items := []inst.Item{{Value: 6, Weight: 3}, {Value: 5, Weight: 4}}
	row, elems := []int64{-1, 9}, []int{0, 2, 3}
	i := inst.Inst{Kind: inst.Cover, Cap: 7, Items: items[:1], Cost: [][]int64{row[:1]}, Size: 4, Sets: []inst.Set{{Cost: 5, Elems: elems[:2]}}}
	want := "kind 3 7 4 1 1 1\nitem 6 3\nitem 5 4\nrow 1\nof -1 9\nset 5 2\nelem 0\nelem 2\nelem 3\n"
	if got := Whole(i); got != want {
		t.Errorf("%q, want %q", got, want)
	}
}

// TestWrongs: each error of Check is there, of each kind.
func TestWrongs(t *testing.T) {
	type fault struct {
		k inst.Kind
		e api.Errno
	}
	met := map[fault]int{}
	for _, x := range Wrongs() {
		if e := x.Inst.Check(); e != x.Want {
			t.Errorf("Check of %.200v is %d, want %d", x.Inst.Copy(), e, x.Want)
		}
		met[fault{x.Inst.Kind, x.Want}]++
	}
	for k := range inst.Kinds {
		if met[fault{k, api.ErrForm}] == 0 || met[fault{k, api.ErrLimit}] == 0 {
			t.Errorf("of the kind %d there are not all", k)
		}
	}
	if met[fault{-1, api.ErrKind}] == 0 || met[fault{inst.Kinds, api.ErrKind}] == 0 {
		t.Error("there are none of no kind")
	}
}
