package primary

import (
	"slices"
	"strings"

	"dromond/api"
	"dromond/crc"
	"dromond/eid"
	"dromond/item"
)

// version is the first element of every item.
const version = 7

// Item returns the item of p, or the error of Right.
func Item(p api.Primary) (item.Item, api.Errno) {
	if e := Right(p); e != api.OK {
		return item.Item{}, e
	}
	l := elementsOf(p)
	if p.CRC != 0 {
		l = append(l, item.Str(checksum(p.CRC, l)))
	}
	return item.List(l...), api.OK
}

// Build returns the bytes of the item of p, or the error of Right.
func Build(p api.Primary) (string, api.Errno) {
	x, e := Item(p)
	if e != api.OK {
		return "", e
	}
	return item.Build(x)
}

// Plain returns what Build returns for p without a checksum.
func Plain(p api.Primary) (string, api.Errno) {
	p.CRC = 0
	return Build(p)
}

// elementsOf returns the elements of the item of p, which is valid, apart from the checksum.
func elementsOf(p api.Primary) []item.Item {
	l := []item.Item{
		item.Num(version), item.Num(p.Flags), item.Num(uint64(p.CRC)),
		nameOf(p.Dst), nameOf(p.Src), nameOf(p.Rpt),
		item.List(item.Num(p.Time), item.Num(p.Seq)), item.Num(p.Life),
	}
	if has(p, api.IsFrag) {
		l = append(l, item.Num(p.Off), item.Num(p.Total))
	}
	return l
}

// nameOf returns the item of e, which is valid.
func nameOf(e api.EID) item.Item {
	x, _ := eid.Item(e)
	return x
}

// checksum returns the checksum of that kind for the item with the elements l and a checksum.
func checksum(kind int, l []item.Item) string {
	zero := item.Str(strings.Repeat("\x00", crc.Size(kind)))
	b, _ := item.Build(item.List(append(slices.Clone(l), zero)...))
	return crc.Sum(kind, b)
}
