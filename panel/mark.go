package panel

import (
	"slices"

	"orangebox/api"
)

// Mark puts a bookmark at the present frame.
func (r *Replay) Mark(text string) api.Errno {
	if r.now.frame == -1 {
		return api.ErrState
	}
	if len(text) > MaxText || len(r.marks) >= MaxMarks {
		return api.ErrSize
	}
	r.marks = slices.Insert(r.marks, r.marksTo(r.now.frame), api.Bookmark{Frame: r.now.frame, Text: text})
	return api.OK
}

// Marks returns all bookmarks.
func (r *Replay) Marks() []api.Bookmark {
	return slices.Clone(r.marks)
}

// Next goes to the nearest bookmark behind the present frame, or ahead of it.
func (r *Replay) Next(back bool) (int, bool, api.Errno) {
	i := r.marksTo(r.now.frame)
	if back {
		i = r.marksTo(r.now.frame-1) - 1
	}
	if i < 0 || i >= len(r.marks) {
		return 0, false, api.OK
	}
	frame := r.marks[i].Frame
	r.goTo(frame)
	return frame, true, api.OK
}

// marksTo returns how many bookmarks are not behind a frame.
func (r *Replay) marksTo(frame int) int {
	i := slices.IndexFunc(r.marks, func(m api.Bookmark) bool { return m.Frame > frame })
	if i < 0 {
		return len(r.marks)
	}
	return i
}
