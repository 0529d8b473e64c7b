package layout

import (
	"slices"

	"orangebox/api"
)

// Diff returns what differs between two maps.
func Diff(a, b api.Map) ([]api.MapChange, api.Errno) {
	if _, e := Check(a); e != api.OK {
		return nil, e
	}
	if _, e := Check(b); e != api.OK {
		return nil, e
	}
	var changes []api.MapChange
	for _, p := range a.Params {
		i := find(b.Params, p.Name)
		if i < 0 {
			changes = append(changes, api.MapChange{Name: p.Name, Kind: api.ParamGone})
			continue
		}
		if isOtherKind(p, b.Params[i]) {
			changes = append(changes, api.MapChange{Name: p.Name, Kind: api.ParamKind})
		}
		if isMoved(p, b.Params[i]) {
			changes = append(changes, api.MapChange{Name: p.Name, Kind: api.ParamMoved})
		}
	}
	for _, p := range b.Params {
		if find(a.Params, p.Name) < 0 {
			changes = append(changes, api.MapChange{Name: p.Name, Kind: api.ParamNew})
		}
	}
	return changes, api.OK
}

// Without returns a map without the parameters with some names.
func Without(m api.Map, names []string) (api.Map, api.Errno) {
	if _, e := Check(m); e != api.OK {
		return api.Map{}, e
	}
	for _, name := range names {
		if find(m.Params, name) < 0 {
			return api.Map{}, api.ErrNone
		}
	}
	left := api.Map{Version: m.Version}
	for _, p := range m.Params {
		if !slices.Contains(names, p.Name) {
			left.Params = append(left.Params, copyParam(p))
		}
	}
	return left, api.OK
}

func isOtherKind(p, q api.Param) bool {
	return p.Kind != q.Kind || size(p.Parts) != size(q.Parts) || !slices.Equal(p.Names, q.Names)
}

func isMoved(p, q api.Param) bool {
	return p.First != q.First || p.Every != q.Every || p.Times != q.Times || p.Step != q.Step ||
		!slices.Equal(p.Parts, q.Parts)
}

// copyParam returns a parameter that shares no list with p.
func copyParam(p api.Param) api.Param {
	p.Parts = slices.Clone(p.Parts)
	p.Names = slices.Clone(p.Names)
	return p
}
