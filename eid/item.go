package eid

import (
	"dromond/api"
	"dromond/item"
)

// The kinds of items, as layer 2 numbers them.
const (
	kindNumber = 0
	kindText   = 3
	kindArray  = 4
)

// Item returns the item of e, or ErrArg if e is not valid.
func Item(e api.EID) (item.Item, api.Errno) {
	if !Right(e) {
		return item.Item{}, api.ErrArg
	}
	return item.List(item.Num(uint64(e.Scheme)), partOf(e)), api.OK
}

// partOf returns the second element of the item of e, which is valid.
func partOf(e api.EID) item.Item {
	switch {
	case e.Scheme == ipn:
		return item.List(item.Num(e.Node), item.Num(e.Service))
	case e.Name == none:
		return item.Num(0)
	}
	return item.Item{Kind: kindText, S: e.Name}
}

// Of returns the name whose item x is, or ErrForm if there is none.
func Of(x item.Item) (api.EID, api.Errno) {
	if !isPair(x) || !isNumber(x.L[0]) {
		return api.EID{}, api.ErrForm
	}
	var e api.EID
	switch x.L[0].N {
	case dtn:
		e = dtnOf(x.L[1])
	case ipn:
		e = ipnOf(x.L[1])
	}
	if !Right(e) {
		return api.EID{}, api.ErrForm
	}
	return e, api.OK
}

// dtnOf returns the name of scheme 1 whose item has x as its second element. It is not valid if there is none.
func dtnOf(x item.Item) api.EID {
	switch {
	case isNumber(x) && x.N == 0:
		return None()
	case isText(x) && x.S != none: // The item of "none" has the number instead.
		return api.EID{Scheme: dtn, Name: x.S}
	}
	return api.EID{}
}

// ipnOf returns the name of scheme 2 whose item has x as its second element. It is not valid if there is none.
func ipnOf(x item.Item) api.EID {
	if !isPair(x) || !isNumber(x.L[0]) || !isNumber(x.L[1]) {
		return api.EID{}
	}
	return api.EID{Scheme: ipn, Node: x.L[0].N, Service: x.L[1].N}
}

// isPair reports whether x is an array of two elements, not open, whatever they are.
func isPair(x item.Item) bool {
	return x.Kind == kindArray && len(x.L) == 2 && !x.Open && x.N == 0 && x.S == ""
}

// isNumber reports whether x is a valid number. The kind is compared first, because layer 2 examines all levels of an
// array, and there may be too many.
func isNumber(x item.Item) bool {
	return x.Kind == kindNumber && item.Right(x)
}

// isText reports whether x is a valid text string.
func isText(x item.Item) bool {
	return x.Kind == kindText && item.Right(x)
}
