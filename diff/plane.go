package diff

import "codicil/api"

// plane is the points from 0 to end between two lists of lines, which stand here as numbers.
type plane struct {
	a, b []int
	end  complex128
	rest [][]uint16 // of the point x + y i at x and y
}

// newPlane answers the plane of two lists, if they aren't too long.
func newPlane(a, b []string) (*plane, api.Errno) {
	if tooLong(a, b) {
		return nil, api.ErrLong
	}
	p := &plane{end: endOf(a, b)}
	p.a, p.b = numbered(a, b)
	p.fillRest()
	return p, api.OK
}

// tooLong answers whether one of two lists has too many lines.
func tooLong(a, b []string) bool {
	return len(a) > api.MaxLines || len(b) > api.MaxLines
}

// endOf answers the last point of the plane of two lists.
func endOf(a, b []string) complex128 {
	return complex(float64(len(a)), float64(len(b)))
}

// parts answers how many lines of each list lie ahead of a point.
func parts(at complex128) (int, int) {
	return int(real(at)), int(imag(at))
}

// numbered answers two lists with a number in the place of each line: lines are alike just where their numbers are.
func numbered(a, b []string) ([]int, []int) {
	numbers := map[string]int{}
	numbersOf := func(lines []string) []int {
		list := make([]int, len(lines))
		for i, line := range lines {
			number, known := numbers[line]
			if !known {
				number = len(numbers)
				numbers[line] = number
			}
			list[i] = number
		}
		return list
	}
	return numbersOf(a), numbersOf(b)
}

// fillRest reckons the rest of each point, from the end back.
func (p *plane) fillRest() {
	width, height := len(p.a), len(p.b)
	p.rest = make([][]uint16, width+1)
	for x := width; x >= 0; x-- {
		p.rest[x] = make([]uint16, height+1)
		p.rest[x][height] = uint16(width - x)
		if x == width {
			for y := range height {
				p.rest[x][y] = uint16(height - y)
			}
			continue
		}
		fillRow(p.rest[x], p.rest[x+1], p.a[x], p.b)
	}
}

// fillRow reckons the rests ahead of the line a, whose last one is there, from those behind it.
func fillRow(row, next []uint16, a int, b []int) {
	for y := len(b) - 1; y >= 0; y-- {
		if a == b[y] {
			// A line that can stay is never worth less than one that goes or comes.
			row[y] = next[y+1]
		} else {
			row[y] = 1 + min(next[y], row[y+1])
		}
	}
}

// restOf answers the rest of a point.
func (p *plane) restOf(at complex128) int {
	x, y := parts(at)
	return int(p.rest[x][y])
}

// step answers by what the way goes on from a point that isn't the end.
func (p *plane) step(at complex128) complex128 {
	x, y := parts(at)
	canGo, canCome := x < len(p.a), y < len(p.b)
	switch {
	case canGo && canCome && p.a[x] == p.b[y]:
		return 1 + 1i
	case canGo && (!canCome || p.restOf(at+1) <= p.restOf(at+1i)):
		return 1
	}
	return 1i
}
