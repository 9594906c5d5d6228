package eid

import (
	"strconv"
	"strings"

	"dromond/api"
)

// What the text of each scheme begins with, and what is between the numbers of scheme 2.
const (
	dtnHead = "dtn:"
	ipnHead = "ipn:"
	point   = "."
)

// Text returns the text of e, or ErrArg if e is not valid.
func Text(e api.EID) (string, api.Errno) {
	if !Right(e) {
		return "", api.ErrArg
	}
	if e.Scheme == dtn {
		return dtnHead + e.Name, api.OK
	}
	return ipnHead + digits(e.Node) + point + digits(e.Service), api.OK
}

// digits returns n in decimal digits.
func digits(n uint64) string {
	return strconv.FormatUint(n, 10)
}

// Parse returns the name whose text s is, or ErrForm if there is none.
func Parse(s string) (api.EID, api.Errno) {
	e := guess(s)
	// The guess may have another text than s: one without leading zeros, for instance.
	if text, err := Text(e); err != api.OK || text != s {
		return api.EID{}, api.ErrForm
	}
	return e, api.OK
}

// guess returns the name whose text s is, if there is one, and any name otherwise.
func guess(s string) api.EID {
	if name, ok := strings.CutPrefix(s, dtnHead); ok {
		return api.EID{Scheme: dtn, Name: name}
	}
	node, service, _ := strings.Cut(strings.TrimPrefix(s, ipnHead), point)
	return api.EID{Scheme: ipn, Node: number(node), Service: number(service)}
}

// number returns the number whose decimal digits s is, if there is one, and any number otherwise.
func number(s string) uint64 {
	n, _ := strconv.ParseUint(s, 10, 64)
	return n
}
