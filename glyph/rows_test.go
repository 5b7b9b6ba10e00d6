package glyph

import "testing"

func TestRowsAreSortedAndOfOneLength(t *testing.T) {
	for name, rows := range map[string]string{
		"class": classRows, "conjunct": conjunctRows, "word": wordRows, "wide": wideRows, "great": greatRows, "small": smallRows,
	} {
		if len(rows)%rowLength != 0 {
			t.Errorf("%s: %d letters are no whole rows", name, len(rows))
		}
		behind := -1
		for place := range len(rows) / rowLength {
			r := readRow(rowText(rows, place))
			if r.from <= behind || r.to < r.from {
				t.Errorf("%s: row %d is out of order: %x-%x", name, place, r.from, r.to)
			}
			behind = r.to
		}
	}
}

func TestLettersOneWayAreSorted(t *testing.T) {
	for place := 1; place < len(oneWay); place++ {
		if oneWay[place].atom <= oneWay[place-1].atom {
			t.Errorf("%x is out of order", oneWay[place].atom)
		}
	}
}
