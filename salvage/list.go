package salvage

import "orangebox/api"

// Gaps returns the numbers of which nothing is left.
func Gaps(l []api.Rest) ([]api.Gap, api.Errno) {
	if e := CheckRising(l); e != api.OK {
		return nil, e
	}
	if len(l) == 0 {
		return nil, api.OK
	}
	var gaps []api.Gap
	from := l[0].Number // of the next gap
	for i := range l {
		if countLost(l[i]) == api.Words {
			continue
		}
		if from < l[i].Number {
			gaps = append(gaps, api.Gap{From: from, To: l[i].Number - 1})
		}
		from = l[i].Number + 1
	}
	if last := l[len(l)-1].Number; from <= last {
		gaps = append(gaps, api.Gap{From: from, To: last})
	}
	return gaps, api.OK
}

// Conflicts returns the numbers of which sound frames differ.
func Conflicts(l []api.Rest) ([]int, api.Errno) {
	if e := checkRests(l); e != api.OK {
		return nil, e
	}
	var numbers []int
	for i := range l {
		if l[i].Conflict {
			numbers = append(numbers, l[i].Number)
		}
	}
	return numbers, api.OK
}

// Superframe returns the rests of the superframe that begins with a number.
func Superframe(l []api.Rest, first int) ([api.Super]api.Rest, api.Errno) {
	var s [api.Super]api.Rest
	if e := CheckRising(l); e != api.OK {
		return s, e
	}
	if first < 0 || first > api.Number-api.Super {
		return s, api.ErrRange
	}
	if first%api.Super != 0 {
		return s, api.ErrForm
	}
	for i := range s {
		s[i].Number = first + i
	}
	for i := range l {
		if at := l[i].Number - first; at >= 0 && at < api.Super {
			s[at] = l[i]
		}
	}
	return s, api.OK
}

// CheckRising returns what is wrong with rests whose numbers must rise: first what is wrong with one of them.
func CheckRising(l []api.Rest) api.Errno {
	if e := checkRests(l); e != api.OK {
		return e
	}
	for i := range l {
		if i > 0 && l[i].Number <= l[i-1].Number {
			return api.ErrOrder
		}
	}
	return api.OK
}
