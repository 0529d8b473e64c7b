package finding

import (
	"cmp"
	"slices"

	"orangebox/api"
	"orangebox/event"
)

// Find returns for each rule that is true in a frame from one to another one the finding for the first such frame.
func Find(b api.Book, r api.Rules, first, last int) ([]api.Finding, api.Errno) {
	read, e := readBook(b)
	if e != api.OK {
		return nil, e
	}
	if _, e := event.New(r, read.plain()); e != api.OK {
		return nil, e
	}
	if e := checkFrames(first, last, MaxFrames); e != api.OK {
		return nil, e
	}
	truths, _ := event.Evaluate(r, read.plain(), first, last)
	var found []api.Finding
	for i, x := range r.Rules {
		frame := slices.Index(truths[i], api.True)
		if frame < 0 {
			continue
		}
		f, e := read.inquiry(r, x.Name, first, first+frame).finding()
		if e != api.OK {
			return nil, e
		}
		found = append(found, f)
	}
	return found, api.OK
}

// Order returns the numbers of findings in their order.
func Order(b api.Book, l []api.Finding) ([]int, api.Errno) {
	read, e := readBook(b)
	if e != api.OK {
		return nil, e
	}
	if len(l) > MaxList {
		return nil, api.ErrSize
	}
	for _, f := range l {
		if e := checkWheres(f.Words); e != api.OK {
			return nil, e
		}
	}
	var numbers, mended []int
	for i, f := range l {
		numbers = append(numbers, i)
		mended = append(mended, 0)
		if slices.ContainsFunc(f.Words, func(w api.Where) bool { return read.state(w) == api.WordMended }) {
			mended[i] = 1
		}
	}
	slices.SortFunc(numbers, func(i, k int) int {
		f, g := l[i], l[k]
		return cmp.Or(
			cmp.Compare(mended[i], mended[k]),
			cmp.Compare(len(f.Words), len(g.Words)),
			cmp.Compare(f.Rule, g.Rule),
			cmp.Compare(f.Number, g.Number),
			cmp.Compare(i, k),
		)
	})
	return numbers, api.OK
}
