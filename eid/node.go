package eid

import "dromond/api"

// The kinds of patterns.
const (
	matchAll  = 0
	matchName = 1
	matchNode = 2
)

// Node returns the node of e, or ErrArg if e is not valid.
func Node(e api.EID) (api.EID, api.Errno) {
	switch {
	case !Right(e):
		return api.EID{}, api.ErrArg
	case e.Scheme == ipn:
		e.Service = 0
	case e.Name != none:
		e.Name = e.Name[:serviceAt(e.Name)]
	}
	return e, api.OK
}

// Match reports whether e is valid and one of the names of p.
func Match(p api.Pattern, e api.EID) bool {
	if !Right(e) {
		return false
	}
	switch p.Kind {
	case matchAll:
		return true
	case matchName:
		return e == p.E
	case matchNode:
		return sameNode(p.E, e)
	}
	return false
}

// sameNode reports whether a and b are valid and have the same node.
func sameNode(a, b api.EID) bool {
	x, wrongA := Node(a)
	y, wrongB := Node(b)
	return wrongA == api.OK && wrongB == api.OK && x == y
}
