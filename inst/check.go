package inst

import "secateur/api"

// Check: may it be an instance?
//
// Each question is asked of what has passed those ahead of it: so the fields
// that aren't its kind's own are as of nothing from the third one on, and there
// they need no question of the kind.
func (i Inst) Check() api.Errno {
	switch {
	case i.Kind.Name() == "":
		return api.ErrKind
	case i.hasOthers():
		return api.ErrForm
	case !i.isSized():
		return api.ErrLimit
	case !i.isFormed():
		return api.ErrForm
	case !i.isBounded():
		return api.ErrLimit
	case i.Kind == Tsp && !i.isHollow():
		return api.ErrForm
	}
	return api.OK
}

// hasOthers: is there something in a field that isn't its kind's own?
func (i Inst) hasOthers() bool {
	knapsack := i.Cap != 0 || len(i.Items) > 0
	square := len(i.Cost) > 0
	cover := i.Size != 0 || len(i.Sets) > 0
	switch i.Kind {
	case Knapsack:
		return square || cover
	case Cover:
		return knapsack || square
	}
	return knapsack || cover
}

// isSized: are there as many of all as there may be?
func (i Inst) isSized() bool {
	square := i.Kind == Assignment || i.Kind == Tsp
	return len(i.Items) <= api.MaxN &&
		len(i.Cost) <= api.MaxSide && (len(i.Cost) >= 1 || !square) &&
		0 <= i.Size && i.Size <= api.MaxN && len(i.Sets) <= api.MaxN
}

// isFormed: has each row as many numbers as there are rows, and has each set
// elements that may be?
func (i Inst) isFormed() bool {
	for _, row := range i.Cost {
		if len(row) != len(i.Cost) {
			return false
		}
	}
	for _, set := range i.Sets {
		if !rise(set.Elems, i.Size) {
			return false
		}
	}
	return true
}

// rise: does each element come behind the one ahead of it, from 0 to one less
// than size?
func rise(elems []int, size int) bool {
	least := 0
	for _, x := range elems {
		if x < least || x >= size {
			return false
		}
		least = x + 1
	}
	return true
}

// isBounded: is each number in its limits?
func (i Inst) isBounded() bool {
	if !isAmount(i.Cap) {
		return false
	}
	for _, item := range i.Items {
		if !isAmount(item.Value) || !isAmount(item.Weight) {
			return false
		}
	}
	for _, row := range i.Cost {
		for _, x := range row {
			if x < -api.MaxMag || x > api.MaxMag {
				return false
			}
		}
	}
	for _, set := range i.Sets {
		if !isAmount(set.Cost) {
			return false
		}
	}
	return true
}

// isAmount: is a number in the limits of all but a square's?
func isAmount(x int64) bool {
	return 0 <= x && x <= api.MaxMag
}

// isHollow: does 0 stand at each row's own place?
func (i Inst) isHollow() bool {
	for r, row := range i.Cost {
		if row[r] != 0 {
			return false
		}
	}
	return true
}
