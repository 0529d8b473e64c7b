package event

import "orangebox/api"

// Inward returns a condition with the same truths, in which only what has no contrary kind stands in a CondNot.
func Inward(c api.Cond) (api.Cond, api.Errno) {
	if e := CheckCond(c); e != api.OK {
		return api.Cond{}, e
	}
	in := inward(c, false)
	if !isWithinLimits(in) {
		return api.Cond{}, api.ErrSize
	}
	return in, api.OK
}

// inward makes of a condition, or of the CondNot of it, one in which no CondNot can go further in.
func inward(c api.Cond, negated bool) api.Cond {
	if c.Kind == api.CondNot {
		return inward(c.Kids[0], !negated)
	}
	if negated && keepsNot(c.Kind) {
		return api.Cond{Kind: api.CondNot, Kids: []api.Cond{inward(c, false)}}
	}
	if negated {
		c = contrary(c)
	}
	c.Kids = each(c.Kids, func(kid api.Cond) api.Cond { return inward(kid, negated) })
	return c
}

// keepsNot reports whether conditions of a kind have no contrary one without CondNot.
func keepsNot(kind int) bool {
	switch kind {
	case api.CondPhase, api.CondRule, api.CondSteady, api.CondSince, api.CondRises:
		return true
	}
	return false
}

// contrary returns what the CondNot of a condition is, but for its kids. They are still to be negated.
func contrary(c api.Cond) api.Cond {
	kinds := [...]int{
		api.CondTrue: api.CondFalse, api.CondFalse: api.CondTrue,
		api.CondNumber: api.CondNumber, api.CondTracks: api.CondTracks,
		api.CondAnd: api.CondOr, api.CondOr: api.CondAnd,
		api.CondFor: api.CondWithin, api.CondWithin: api.CondFor,
		api.CondCount: api.CondCount,
	}
	ops := [...]int{
		api.Less: api.AtLeast, api.AtLeast: api.Less,
		api.AtMost: api.Greater, api.Greater: api.AtMost,
		api.Equal: api.Differs, api.Differs: api.Equal,
	}
	if c.Kind == api.CondCount {
		c.N = c.Frames + 1 - c.N
	}
	c.Kind, c.Op = kinds[c.Kind], ops[c.Op]
	return c
}
