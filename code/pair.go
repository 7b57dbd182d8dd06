package code

import (
	"codewright/api"
	"codewright/field"
	"codewright/space"
)

// checkPair returns the error of Check for the first of c and d that has one, or ErrMatch if their fields or their lengths differ.
func checkPair(c, d api.Code) api.Errno {
	if e := Check(c); e != api.OK {
		return e
	}
	if e := Check(d); e != api.OK {
		return e
	}
	if !field.Same(c.F, d.F) || c.N != d.N {
		return api.ErrMatch
	}
	return api.OK
}

// Sum returns the code that c and d generate, or ErrMatch.
func Sum(c, d api.Code) (api.Code, api.Errno) {
	if e := checkPair(c, d); e != api.OK {
		return api.Code{}, e
	}
	m, e := space.Sum(c.F, generator(c), generator(d))
	return made(c.F, m, e)
}

// Meet returns the code of the words that c and d share, or ErrMatch.
func Meet(c, d api.Code) (api.Code, api.Errno) {
	if e := checkPair(c, d); e != api.OK {
		return api.Code{}, e
	}
	m, e := space.Meet(c.F, generator(c), generator(d))
	return made(c.F, m, e)
}

// Inside reports whether each word of c is a word of d, or returns ErrMatch.
func Inside(c, d api.Code) (bool, api.Errno) {
	if e := checkPair(c, d); e != api.OK {
		return false, e
	}
	return space.Inside(c.F, generator(c), generator(d))
}

// Hull returns the code of the words that c shares with its dual code.
func Hull(c api.Code) (api.Code, api.Errno) {
	dual, e := Dual(c)
	if e != api.OK {
		return api.Code{}, e
	}
	return Meet(c, dual)
}
