package show

import (
	"fmt"
	"strings"
	"testing"

	"secateur/api"
	"secateur/inst"
	"secateur/lex"
	"secateur/parse"
	"secateur/sample"
)

// P11.1 held against a model, and P11.2

// model is the lines of an instance, which may be.
func model(i inst.Inst) string {
	l := []string{fmt.Sprint("knapsack\ncapacity ", i.Cap)}
	switch i.Kind {
	case inst.Assignment:
		l = []string{fmt.Sprint("assignment ", len(i.Cost))}
	case inst.Tsp:
		l = []string{fmt.Sprint("tsp ", len(i.Cost))}
	case inst.Cover:
		l = []string{fmt.Sprint("cover ", i.Size)}
	}
	for _, x := range i.Items {
		l = append(l, fmt.Sprintf("item %d %d", x.Value, x.Weight))
	}
	for _, row := range i.Cost {
		l = append(l, "row "+bare(row))
	}
	for _, x := range i.Sets {
		l = append(l, strings.TrimSpace(fmt.Sprintf("set %d: %s", x.Cost, bare(x.Elems))))
	}
	return strings.Join(l, "\n") + "\n"
}

// bare tells a list's numbers, a blank between each two.
func bare(l any) string {
	return strings.Trim(fmt.Sprint(l), "[]")
}

// linesOf are a text's, without their line feeds.
func linesOf(s string) []string {
	return strings.Split(strings.TrimSuffix(s, "\n"), "\n")
}

// holds tests that an instance's text is the model's, if that isn't too long;
// that it is parsed to the same instance; and that Tidy of it is it.
func holds(t *testing.T, i inst.Inst) {
	t.Helper()
	s, e := Print(i)
	want, wantErr := model(i), api.OK
	if len(want) > api.MaxText {
		want, wantErr = "", api.ErrLong
	}
	if s != want || e != wantErr {
		t.Errorf("P11.1: Print(%s) is %.300q, %d; want %.300q, %d", brief(i), s, e, want, wantErr)
	}
	if wantErr != api.OK {
		return
	}
	if again, at, e := parse.Parse(s); !inst.Equal(again, i) || at != (lex.Pos{}) || e != api.OK {
		t.Errorf("P11.2: what is printed of %s is parsed to %s, %v, %d", brief(i), brief(again), at, e)
	}
	if tidy, e := Tidy(s); tidy != s || e != api.OK {
		t.Errorf("P11.2: Tidy of the lines %.300q is %.300q, %d", s, tidy, e)
	}
}

// TestModelOfSmallKnapsacks: all of up to two items of few numbers.
func TestModelOfSmallKnapsacks(t *testing.T) {
	numbers := []int64{0, 1, 10, api.MaxMag}
	var l []inst.Item
	for _, v := range numbers {
		for _, w := range numbers {
			l = append(l, inst.Item{Value: v, Weight: w})
		}
	}
	for _, room := range numbers {
		holds(t, sample.Knapsack(room))
		for _, a := range l {
			holds(t, sample.Knapsack(room, a))
			for _, b := range l {
				holds(t, sample.Knapsack(room, a, b))
			}
		}
	}
}

// TestModelOfSmallSquares: all of up to two rows of few numbers, of a Tsp those
// with 0 at their own places.
func TestModelOfSmallSquares(t *testing.T) {
	numbers := []int64{0, 1, -1, 20, -api.MaxMag, api.MaxMag}
	for _, a := range numbers {
		holds(t, sample.Square(inst.Assignment, []int64{a}))
		for _, b := range numbers {
			holds(t, sample.Square(inst.Tsp, []int64{0, a}, []int64{b, 0}))
			for _, c := range numbers {
				for _, d := range numbers {
					holds(t, sample.Square(inst.Assignment, []int64{a, b}, []int64{c, d}))
				}
			}
		}
	}
	holds(t, sample.Square(inst.Tsp, []int64{0}))
}

// TestModelOfSmallCovers: all of up to three elements and two sets.
func TestModelOfSmallCovers(t *testing.T) {
	for size := range 4 {
		holds(t, sample.Cover(size))
		var l []inst.Set
		for some := range 1 << size {
			var elems []int
			for x := range size {
				if some>>x&1 == 1 {
					elems = append(elems, x)
				}
			}
			l = append(l, inst.Set{Elems: elems}, inst.Set{Cost: 12, Elems: elems}, inst.Set{Cost: api.MaxMag, Elems: elems})
		}
		for _, a := range l {
			holds(t, sample.Cover(size, a))
			for _, b := range l {
				holds(t, sample.Cover(size, a, b))
			}
		}
	}
}

// TestModelOfStrewn: instances of each kind, small and great; of the greatest
// covers some are too long.
func TestModelOfStrewn(t *testing.T) {
	d := sample.Dice(1)
	long, great := 0, 0
	for n := range 2000 {
		most := 10
		switch {
		case n%100 < 4:
			most = api.MaxN
		case n%10 < 4:
			most = 100
		}
		i := sample.Strewn(&d, inst.Kind(n%int(inst.Kinds)), most)
		holds(t, i)
		switch size := len(model(i)); {
		case size > api.MaxText:
			long++
		case size > api.MaxText/4:
			great++
		}
	}
	if long < 3 || great < 3 {
		t.Errorf("of the instances only %d were too long, and %d great", long, great)
	}
}
