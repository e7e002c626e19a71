package emit

import "tandem/api"

// survey goes through all forms ahead of code being made: whether they are such as layer 8 makes, and which variables are boxed.
type survey struct {
	*program
	count int // of forms
}

// noLoop tells that an again may not stand here.
const noLoop = -1

func (s *survey) lookAll(forms []api.Core) bool {
	for i := range forms {
		if !s.look(&forms[i], noLoop) {
			return false
		}
	}
	return true
}

// look is asked of a form ahead of its parts, so that calls go no deeper than forms may be many. In a tail place of a loop's body turn is how many variables the loop has.
func (s *survey) look(c *api.Core, turn int) bool {
	if s.count == api.MaxCore || !hasShape(c) || !s.isRight(c, turn) || !s.declare(c) {
		return false
	}
	s.count++
	for i := range c.Subs {
		s.bind(c.Vars, seesVars(c, i))
		if !s.look(&c.Subs[i], turnAt(c, i, turn)) {
			return false
		}
	}
	s.bind(c.Vars, false)
	return true
}

// hasShape tells whether a form has as many Subs, Vars and D as its kind.
func hasShape(c *api.Core) bool {
	subs, vars, data := len(c.Subs), len(c.Vars), len(c.D)
	switch c.Kind {
	case api.CConst:
		return subs == 0 && vars == 0 && data == 1
	case api.CLocal, api.CGlobal, api.CPrim:
		return subs == 0 && vars == 0 && data == 0
	case api.CSetLoc, api.CSetGlo, api.CDefine:
		return subs == 1 && vars == 0 && data == 0
	case api.CIf:
		return subs == 3 && vars == 0 && data == 0
	case api.CLambda:
		return subs == 1 && data == 0 && (vars > 0 || !c.Rest)
	case api.CCall:
		return subs >= 1 && vars == 0 && data == 0
	case api.CSeq:
		return subs >= 2 && vars == 0 && data == 0
	case api.CLet, api.CRec, api.CLoop:
		return subs == vars+1 && data == 0
	case api.CAgain:
		return vars == 0 && data == 0
	}
	return false
}

// isRight tells whether a form may stand where it stands, whatever its parts are.
func (s *survey) isRight(c *api.Core, turn int) bool {
	switch c.Kind {
	case api.CConst:
		return !isDeeper(c.D[0], api.MaxDepth)
	case api.CLocal:
		return s.isBound(c.N)
	case api.CSetLoc:
		return s.assign(c.N)
	case api.CPrim:
		return c.N >= 0 && c.N < len(s.prims)
	case api.CAgain:
		return len(c.Subs) == turn
	}
	return true
}

func (s *survey) isBound(v int) bool {
	x, ok := s.variables[v]
	return ok && x.bound
}

func (s *survey) assign(v int) bool {
	if !s.isBound(v) {
		return false
	}
	s.variables[v].boxed = true
	return true
}

// declare is false, if a variable of a form is one already.
func (s *survey) declare(c *api.Core) bool {
	for _, v := range c.Vars {
		if _, ok := s.variables[v]; ok {
			return false
		}
		s.variables[v] = &variable{boxed: c.Kind == api.CRec}
	}
	return true
}

// seesVars tells whether a part of a form sees its variables: the body does, and the values of a CRec.
func seesVars(c *api.Core, part int) bool {
	return c.Kind == api.CRec || part == len(c.Subs)-1
}

// bind binds variables, or does so no more. What is done already is not done again, as there may be very many of both parts and variables.
func (s *survey) bind(vars []int, bound bool) {
	if len(vars) == 0 || s.variables[vars[0]].bound == bound {
		return
	}
	for _, v := range vars {
		s.variables[v].bound = bound
	}
}

// turnAt is turn in a part of a form that stands where it is turn.
func turnAt(c *api.Core, part, turn int) int {
	last := part == len(c.Subs)-1
	switch {
	case c.Kind == api.CLoop && last:
		return len(c.Vars)
	case c.Kind == api.CIf && part > 0:
		return turn
	case (c.Kind == api.CSeq || c.Kind == api.CLet || c.Kind == api.CRec) && last:
		return turn
	}
	return noLoop
}
