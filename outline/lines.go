package outline

import "fleuron/api"

// A curve is told as so many lines; what its points are weighed by is the square of that, together.
const (
	linesBits   = 3
	curveLines  = 1 << linesBits
	weightsBits = 2 * linesBits
)

// Lines are the contours as closed rows of points on the grid, curves in 8 lines.
func Lines(pts []api.Pt, on []bool, ends []int) [][]api.Pt {
	if len(on) != len(pts) {
		return nil
	}
	points := make([]api.Point, len(pts))
	for i, p := range pts {
		points[i] = api.Point{X: p.X, Y: p.Y, On: on[i]}
	}
	var rows [][]api.Pt
	for _, contour := range cut(points, ends) {
		rows = append(rows, once(ring(contour)))
	}
	return rows
}

// ring is a contour with a point on the curve between any two that are off, and the place in it where its row begins.
func ring(contour []api.Point) ([]api.Point, int) {
	var points []api.Point
	start := -1
	for i, p := range contour {
		if p.On && start < 0 {
			start = len(points)
		}
		points = append(points, p)
		if next := contour[(i+1)%len(contour)]; !p.On && !next.On {
			points = append(points, between(p, next))
		}
	}
	if start < 0 {
		// Where all are off, the last one of the ring is that between the contour's last one and its first one.
		start = len(points) - 1
	}
	return points, start
}

// between is the point on the curve in the middle of two.
func between(a, b api.Point) api.Point {
	return api.Point{X: (a.X + b.X) >> 1, Y: (a.Y + b.Y) >> 1, On: true}
}

// once is the row that goes once round a ring, from a place on where it is on the curve.
func once(ring []api.Point, start int) []api.Pt {
	at := func(i int) api.Point {
		return ring[(start+i)%len(ring)]
	}
	a := at(0)
	row := []api.Pt{{X: a.X, Y: a.Y}}
	for i := 1; i <= len(ring); i++ {
		b := at(i)
		if b.On {
			row = append(row, api.Pt{X: b.X, Y: b.Y})
		} else {
			// No two that are off follow one another in a ring, so the next one is the curve's end.
			c := b
			i++
			b = at(i)
			row = curve(row, a, c, b)
		}
		a = b
	}
	// The last one closes the row: it stands there already, as the first one.
	return row[:len(row)-1]
}

// curve puts the lines' ends of a curve from a to b, which c bends to itself, behind a row.
func curve(row []api.Pt, a, c, b api.Point) []api.Pt {
	for n := 1; n <= curveLines; n++ {
		row = append(row, api.Pt{X: weighed(n, a.X, c.X, b.X), Y: weighed(n, a.Y, c.Y, b.Y)})
	}
	return row
}

// weighed is a curve's number at the end of its n-th line, rounded.
func weighed(n, a, c, b int) int {
	left := curveLines - n
	const half = 1 << (weightsBits - 1)
	return (left*left*a + 2*n*left*c + n*n*b + half) >> weightsBits
}
