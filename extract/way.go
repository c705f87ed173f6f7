package extract

import (
	"spandrel/api"
	"spandrel/modn"
)

// orderOf answers the order that A tells: each place, counted from 0 on.
func orderOf(branches [][]known) []int {
	a := branches[0][0].a
	order := make([]int, len(a))
	for i := range a {
		order[i] = int(a[i].m) - 1
	}
	return order
}

// drawsOf answers by which draws the boxes were sealed again: of each branch
// their sum, each times its b, is known, and there are as many branches as boxes.
// It answers nil, if these don't tell the draws.
func drawsOf(g api.Params, branches [][]known) [][api.Width]uint64 {
	n := len(branches)
	rows := make([][]uint64, n)
	for i, branch := range branches {
		rows[i] = sumsOf(g, branch[0])
	}
	if !solve(g, rows) {
		return nil
	}
	rho := make([][api.Width]uint64, n)
	for i, row := range rows {
		rho[i] = [api.Width]uint64(row[n:])
	}
	return rho
}

// sumsOf answers each b, and behind them what the draws times these come to, for
// each pair's place.
func sumsOf(g api.Params, k known) []uint64 {
	var row []uint64
	for _, b := range k.b {
		row = append(row, b.m)
	}
	for _, rho := range k.rho {
		row = append(row, modn.Sub(0, rho, g.Q))
	}
	return row
}

// solve makes of rows, each of which tells a sum of the same unknowns by their
// factors, rows that tell one unknown each, in turn. It answers false, if they
// don't tell them.
func solve(g api.Params, rows [][]uint64) bool {
	for i := range rows {
		if !bringUp(g, rows, i) {
			return false
		}
		for j := range rows {
			if j != i {
				takeAway(g, rows[j], rows[i], rows[j][i])
			}
		}
	}
	return true
}

// bringUp puts a row at place i, of those from there on, that has 1 there.
func bringUp(g api.Params, rows [][]uint64, i int) bool {
	for j := i; j < len(rows); j++ {
		if inverse, ok := modn.Inv(rows[j][i], g.Q); ok {
			rows[i], rows[j] = rows[j], rows[i]
			for c := range rows[i] {
				rows[i][c] = modn.Mul(rows[i][c], inverse, g.Q)
			}
			return true
		}
	}
	return false
}

// takeAway takes other, times factor, away from row.
func takeAway(g api.Params, row, other []uint64, factor uint64) {
	for c := range row {
		row[c] = modn.Sub(row[c], modn.Mul(other[c], factor, g.Q), g.Q)
	}
}
