package view

import (
	"math"

	"copyist/api"
)

// mostLines keeps what is reckoned far within int64, and every number of lines a float64 of its own.
const mostLines = 1 << 40

func takeLines(lines int) int { return within(lines, 1, mostLines) }

func takeHeight(height int) int { return within(height, 1, api.MaxRows) }

// takeNumber takes a line's number in a text of so many lines.
func takeNumber(line, lines int) int { return within(line, 0, lines-1) }

// takeShare takes a share as one from 0 to 1: so what is made of it fits an int.
func takeShare(share float64) float64 {
	switch {
	case math.IsNaN(share), share <= 0:
		return 0
	case share >= 1:
		return 1
	}
	return share
}

func within(n, least, most int) int { return min(max(n, least), most) }

// bottom tells the greatest top at which the window is full.
func bottom(height, lines int) int { return max(lines-height, 0) }
