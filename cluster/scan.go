package cluster

import "copyist/glyph"

// above tells the least boundary above an offset at which an atom begins.
func above(atoms []int, at int) int {
	left := glyph.Class(atoms[at])
	for k := at + 1; k < len(atoms); k++ {
		right := glyph.Class(atoms[k])
		if !joined(atoms, k, left, right) {
			return k
		}
		left = right
	}
	return len(atoms)
}

// below tells the greatest boundary below an offset at which an atom ends.
func below(atoms []int, at int) int {
	right := glyph.Class(atoms[at-1])
	for k := at - 1; k > 0; k-- {
		left := glyph.Class(atoms[k-1])
		if !joined(atoms, k, left, right) {
			return k
		}
		right = left
	}
	return 0
}

// pass goes from the list's beginning over whole clusters, over no more than most of them and to no boundary above last, and tells over how many it went and where it stands.
func pass(atoms []int, last, most int) (count, at int) {
clusters:
	for at < len(atoms) && count < most {
		rest := atoms[at:] // it begins at a boundary, past which no look back needs to go
		left := glyph.Class(rest[0])
		for k := 1; k <= len(rest); k++ {
			if at+k > last {
				break clusters
			}
			if k < len(rest) {
				right := glyph.Class(rest[k])
				if joined(rest, k, left, right) {
					left = right
					continue
				}
			}
			count++
			at += k
			continue clusters
		}
	}
	return count, at
}
