// Package slots holds what packages journal, stripe and array do alike with the slots of a rack.
package slots

import (
	"slices"

	"stave/api"
	"stave/geo"
	"stave/rack"
	"stave/sector"
)

// Fits tells whether a rack fits an array with an id and a geometry.
func Fits(k *rack.Rack, id int, g api.Geometry) bool {
	return k != nil && id >= 1 && id <= api.MaxID && geo.Right(g) && k.Slots() == geo.Slots(g) && k.Sectors() >= geo.Sectors(g)
}

// Right tells whether all slots of a list are among the first n, and none is in it twice.
func Right(list []int, n int) bool {
	for i, slot := range list {
		if slot < 0 || slot >= n || slices.Contains(list[:i], slot) {
			return false
		}
	}
	return true
}

// Each does something with each slot, in order. It tells those whose members have failed; any other error ends it at once.
func Each(list []int, do func(slot int) api.Errno) ([]int, api.Errno) {
	var lost []int
	for _, slot := range list {
		switch e := do(slot); e {
		case api.OK:
		case api.ErrMemberDead:
			lost = append(lost, slot)
		default:
			return nil, e
		}
	}
	return lost, api.OK
}

// Read is the payload of a sector of a slot, if the sector can be read and opens.
func Read(k *rack.Rack, id, slot, at int) (string, bool) {
	s, e := k.Read(slot, at)
	if e != api.OK {
		return "", false
	}
	return sector.Open(id, slot, at, s)
}

// Write seals payloads, and writes them to consecutive sectors of a slot; the first error ends it.
func Write(k *rack.Rack, id, slot, at int, payloads ...string) api.Errno {
	for i, payload := range payloads {
		s, e := sector.Seal(id, slot, at+i, payload)
		if e != api.OK {
			return e
		}
		if e := k.Write(slot, at+i, s); e != api.OK {
			return e
		}
	}
	return api.OK
}
